/- What the document's own answers on classes come to, by a walk through each. -/
import Derived.Test.YtmbmopiicofhdaaRows
import Derived.Test.YtmbmopiicofhdaaUtfM
import Derived.Test.YtmbmopiicofhdaaClsM
import Derived.Test.YtmbmopiicofhdaaInts
import Derived.Test.YtmbmopiicofhdaaRun
import Derived.Test.YtmbmopiicofhdaaPairs
import Derived.Deep.QuietTactic
import Derived.BigQuiet
set_option linter.unusedVariables false
set_option linter.unusedSimpArgs false
namespace Go.Proofs.Ytmbmopiicofhdaa
open Go.RowKit Cm Um
namespace Cr

theorem table_run (w : World) :
    Calls Try.prog 31 #[] w fun e w' => e = .returned (.slice (some ⟨w.heap.size, 0, none⟩) 66 66) ∧ w' = w.alloc (.cells (flat3 tab).toArray 42) :=
  calls_runF Try.func31 (by rfl) (W := w.alloc (.cells (flat3 tab).toArray 42)) (v := .slice (some ⟨w.heap.size, 0, none⟩) 66 66) (by kernel_rfl) ⟨rfl, rfl⟩
theorem table_any (w : World) :
    Calls Try.prog 31 #[] w fun e w' => ∃ g, e = .returned (.slice (some ⟨g, 0, none⟩) 66 66) ∧ TRow w' g tab ∧ Q w w' := by
  refine (table_run w).mono ?_
  rintro e w' ⟨rfl, rfl⟩
  exact ⟨_, rfl, TRow.made w tab _ _ rfl, (Q.refl _).alloc _⟩

theorem tab_take (c : Int) (j : Nat) (h : j < 66) : (tab.take (j + 1)).any (inT c) = ((tab.take j).any (inT c) || inT c (tab.getD j (0, 0, 0))) := by
  have hl : j < tab.length := by rw [tab_len]; exact h
  rw [List.take_succ_eq_append_getElem hl, List.any_append, List.getD_eq_getElem?_getD, List.getElem?_eq_getElem hl]
  simp

set_option maxHeartbeats 800000 in
theorem of_any (c : Int) (w : World) :
    Calls Try.prog 25 #[.int .i64 c] w fun e w' => e = .returned (.int .i64 (cls c)) ∧ Q w w' := by
  by_cases hs : syll c
  · by_cases h0 : (c - 44032) % 28 = 0
    · have HF : Hid ((cls c : Int) = 12) := Lib.hid (by rw [cls_lv hs h0]; rfl)
      obtain ⟨h1, h2⟩ := hs
      go_enter Try.func25, Try.ntmps25
      go_wp2_with fail
      go_ret
      rw [HF.out]
      exact ⟨rfl, Q.refl _⟩
    · have HF : Hid ((cls c : Int) = 13) := Lib.hid (by rw [cls_lvt hs h0]; rfl)
      obtain ⟨h1, h2⟩ := hs
      go_enter Try.func25, Try.ntmps25
      go_wp2_with fail
      go_ret
      rw [HF.out]
      exact ⟨rfl, Q.refl _⟩
  · have HN := Lib.hid hs
    have hcase : (44032 ≤ c ∧ ¬ c ≤ 55203) ∨ ¬ 44032 ≤ c := by have : ¬ (44032 ≤ c ∧ c ≤ 55203) := hs; omega
    clear hs
    rcases hcase with ⟨h1, h2⟩ | h1
    all_goals
      go_enter Try.func25, Try.ntmps25
      go_wp2_with fail
      refine (table_any _).mono ?_
      rintro e w1 ⟨g, rfl, htab, hq1⟩
      go_wp2_with fail
      go_loopw [4] (fun i wr => ∃ j : Nat, i = .int .i64 j ∧ j ≤ 66 ∧ Q w1 wr ∧ (tab.take j).any (inT c) = false) (fun i _ => 66 - (intOf i).toNat)
      case atStart => exact ⟨0, rfl, by omega, Q.refl _, rfl⟩
      case round =>
        obtain ⟨j, rfl, hj, hq, hany⟩ := hrel
        have HA := Lib.hid hany
        clear hany
        by_cases hlt : j < 66
        · obtain ⟨c1, c2, c3⟩ := (htab.q hq).2 j (by rw [tab_len]; exact hlt)
          have HT := Lib.hid (tab_take c j hlt)
          have HC := Lib.hid (fun h => tab_at HN.out hlt HA.out h)
          obtain ⟨⟨r1, r2, r3⟩, hr⟩ : ∃ r, r = tab.getD j (0, 0, 0) := ⟨_, rfl⟩
          rw [← hr] at c1 c2 c3 HT HC
          clear hr
          simp only at c1 c2 c3
          have hcase : (r1 ≤ c ∧ c ≤ r2 ∧ Hid (inT c (r1, r2, r3) = true)) ∨ (r1 ≤ c ∧ ¬ c ≤ r2 ∧ Hid (inT c (r1, r2, r3) = false)) ∨ (¬ r1 ≤ c ∧ Hid (inT c (r1, r2, r3) = false)) := by
            by_cases h1 : r1 ≤ c
            · by_cases h2 : c ≤ r2
              · exact .inl ⟨h1, h2, Lib.hid (by simp [inT, inR, h1, h2])⟩
              · exact .inr (.inl ⟨h1, h2, Lib.hid (by simp [inT, inR, h2])⟩)
            · exact .inr (.inr ⟨h1, Lib.hid (by simp [inT, inR, h1])⟩)
          rcases hcase with ⟨g1, g2, HB⟩ | ⟨g1, g2, HB⟩ | ⟨g1, HB⟩
          · go_wp2_with fail
            go_ret
            have := HC.out HB.out
            rw [this]
            exact ⟨rfl, hq1.trans hq⟩
          all_goals
            go_wp2_with fail
            go_roundw
            case rel => exact ⟨j + 1, by go_num, by omega, hq, by rw [HT.out, HA.out, HB.out]; rfl⟩
            case measure => simp [intOf]; omega
        · have hF : (cls c : Int) = 0 := by
            have := HA.out
            rw [List.take_of_length_le (by rw [tab_len]; omega)] at this
            rw [tab_no HN.out this]; rfl
          have HF := Lib.hid hF
          clear hF
          go_wp2_with fail
          go_ret
          rw [HF.out]
          exact ⟨rfl, hq1.trans hq⟩

end Cr
end Go.Proofs.Ytmbmopiicofhdaa
