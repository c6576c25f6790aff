/- What the functions on a character's class answer, by a walk through each. -/
import Derived.Test.YtmobljfpkdjnpaaRows
import Derived.Test.YtmobljfpkdjnpaaClsM
import Derived.Test.YtmobljfpkdjnpaaInts
import Derived.Test.YtmobljfpkdjnpaaPairs
import Derived.Test.YtmobljfpkdjnpaaClsE
set_option linter.unusedVariables false
set_option linter.unusedSimpArgs false
namespace Go.Proofs.Ytmobljfpkdjnpaa
open Go.RowKit Cm

set_option maxHeartbeats 400000 in
theorem syllable_any (c : Int) (w : World) (h : syll c) :
    Calls Try.prog 72 #[.int .i64 c] w fun e w' => e = .returned (.int .i64 (cls c)) ∧ w = w' := by
  obtain ⟨h1, h2⟩ := h
  by_cases h0 : (c - 44032) % 28 = 0
  · have HF : Hid ((cls c : Int) = 12) := Lib.hid (by rw [cls_lv ⟨h1, h2⟩ h0]; rfl)
    go_enter Try.func72, Try.ntmps72
    go_wp2_with fail
    go_ret
    rw [HF.out]
    exact ⟨rfl, rfl⟩
  · have HF : Hid ((cls c : Int) = 13) := Lib.hid (by rw [cls_lvt ⟨h1, h2⟩ h0]; rfl)
    go_enter Try.func72, Try.ntmps72
    go_wp2_with fail
    go_ret
    rw [HF.out]
    exact ⟨rfl, rfl⟩

set_option maxHeartbeats 800000 in
theorem of_any (c : Int) (w : World) :
    Calls Try.prog 69 #[.int .i64 c] w fun e w' => e = .returned (.int .i64 (cls c)) ∧ Q w w' := by
  have hcw : (w.alloc (.cells #[.int .i64 c] 3)).cell? ⟨w.heap.size, 0, none⟩ = some (.int .i64 c) := by
    rw [World.cell?_alloc_at _ _ _ _ rfl]; rfl
  by_cases hs : syll c
  · have HS := Lib.hid (fun w => syllable_any c w hs)
    obtain ⟨h1, h2⟩ := hs
    go_enter Try.func69, Try.ntmps69
    go_wp2_with fail
    refine (HS.out _).mono ?_
    rintro e w' ⟨rfl, rfl⟩
    go_wp2_with fail
    go_ret
    exact ⟨rfl, (Q.refl _).alloc _⟩
  · have hs' : ¬ (44032 ≤ c ∧ c ≤ 55203) := hs
    have HN := Lib.hid hs
    have hcase : (44032 ≤ c ∧ ¬ c ≤ 55203) ∨ ¬ 44032 ≤ c := by omega
    clear hs hs'
    rcases hcase with ⟨h1, h2⟩ | h1
    all_goals
      go_enter Try.func69, Try.ntmps69
      go_wp2_with fail
      go_loopw [14] (fun i wr => ∃ j : Nat, i = .int .i64 j ∧ j ≤ 15 ∧ Q (w.alloc (.cells #[.int .i64 c] 3)) wr ∧ ∀ m, m < j → anyK c m = false) (fun i _ => 15 - (intOf i).toNat)
      case atStart => exact ⟨0, rfl, by omega, Q.refl _, fun m h => by omega⟩
      case round =>
        obtain ⟨j, rfl, hj, hq, hall⟩ := hrel
        have HA := Lib.hid hall
        clear hall
        by_cases hlt : j < 15
        · have hsz : w.heap.size < wr.heap.size := by have := hq.le; simp at this; omega
          have hcr : wr.cell? ⟨w.heap.size, 0, none⟩ = some (.int .i64 c) := (World.cell?_of_block (w := w.alloc (.cells #[.int .i64 c] 3)) (hq.block (by simp))).trans hcw
          have he := each_of j c w.heap.size wr hsz hcr
          have e1 : (rowZ (j : Int)).any (inR c) = anyK c j := by rw [rowZ_nat]; rfl
          rw [e1] at he
          clear e1
          cases hb : anyK c j
          all_goals
            rw [hb] at he
            have HE := Lib.hid he
            have HB := Lib.hid hb
            clear he hb
            go_wp2_with fail
            refine HE.out.mono ?_
            rintro e w1 ⟨rfl, hq1⟩
            go_wp2_with fail
          · go_roundw
            case rel => exact ⟨j + 1, by go_num, by omega, hq.trans hq1, fun m hm => by
              by_cases h : m = j
              · subst h; exact HB.out
              · exact HA.out m (by omega)⟩
            case measure => simp [intOf]; omega
          · go_ret
            rw [cls_at HN.out hlt HA.out HB.out]
            exact ⟨rfl, (((Q.refl _).alloc _).trans hq).trans hq1⟩
        · have hje : j = 15 := by omega
          have hF : (cls c : Int) = 0 := by rw [cls_no HN.out (by rw [← hje]; exact HA.out)]; rfl
          have HF := Lib.hid hF
          clear hF hje
          go_wp2_with fail
          go_ret
          rw [HF.out]
          exact ⟨rfl, ((Q.refl _).alloc _).trans hq⟩

theorem cls_769 : cls 769 = 4 := by decide +kernel
theorem cls_44033 : cls 44033 = 13 := by decide +kernel
end Go.Proofs.Ytmobljfpkdjnpaa
