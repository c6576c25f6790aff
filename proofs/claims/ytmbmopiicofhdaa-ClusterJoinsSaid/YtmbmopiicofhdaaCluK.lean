/- A character of a class, made of any number, as the document's own answers make it; and the chapter's example. -/
import Derived.Test.YtmbmopiicofhdaaRows
import Derived.Test.YtmbmopiicofhdaaInts
import Derived.Test.YtmbmopiicofhdaaCluN
import Derived.Test.YtmbmopiicofhdaaClsR
import Derived.Test.YtmbmopiicofhdaaUtfR
import Derived.Test.YtmbmopiicofhdaaCluS
import Derived.Test.YtmbmopiicofhdaaCluR
set_option linter.unusedVariables false
set_option linter.unusedSimpArgs false
namespace Go.Proofs.Ytmbmopiicofhdaa
open Go.RowKit Um Cm Gm
namespace Gr

def ofK (k : Int) (r : Int × Int × Int) : Bool := decide (r.2.2 = k)
def kindZ (n : Int) : Int :=
  if around n 15 = 12 then 44032 + 28 * (around n 45 / 15) else if around n 15 = 13 then 44033 + around n 45 / 15
  else match tab.find? (ofK (around n 15)) with | some r => r.1 | none => 65 + around n 390 / 15
theorem tab_vld : tab.all (fun r => vld r.1) = true := by decide +kernel
theorem kindZ_vld (n : Int) : vld (kindZ n) = true := by
  have h1 := around_bd n 45 (by omega)
  have h2 := around_bd n 390 (by omega)
  unfold kindZ
  split
  · exact (vld_iff _).2 (by omega)
  · split
    · exact (vld_iff _).2 (by omega)
    · split
      · rename_i r hr
        exact (List.all_eq_true.1 tab_vld) r (List.mem_of_find?_eq_some hr)
      · exact (vld_iff _).2 (by omega)
theorem tabk_at {k : Int} {j : Nat} (hj : j < 66) (h0 : (tab.take j).any (ofK k) = false) (h1 : ofK k (tab.getD j (0, 0, 0)) = true) : tab.find? (ofK k) = some (tab.getD j (0, 0, 0)) := by
  have hl : j < tab.length := by rw [tab_len]; exact hj
  have hg : tab.getD j (0, 0, 0) = tab[j] := by rw [List.getD_eq_getElem?_getD, List.getElem?_eq_getElem hl]; rfl
  rw [List.find?_eq_some_iff_getElem]
  refine ⟨h1, j, hl, hg.symm, fun m hm => ?_⟩
  have := (List.any_eq_false.1 h0) (tab[m]'(by omega)) (by rw [List.mem_take_iff_getElem]; exact ⟨m, by omega, rfl⟩)
  simpa using this
theorem tabk_no {k : Int} (h0 : tab.any (ofK k) = false) : tab.find? (ofK k) = none := by
  rw [List.find?_eq_none]
  intro x hx
  have := (List.any_eq_false.1 h0) x hx
  simpa using this
theorem tabk_take (k : Int) (j : Nat) (h : j < 66) : (tab.take (j + 1)).any (ofK k) = ((tab.take j).any (ofK k) || ofK k (tab.getD j (0, 0, 0))) := by
  have hl : j < tab.length := by rw [tab_len]; exact h
  rw [List.take_succ_eq_append_getElem hl, List.any_append, List.getD_eq_getElem?_getD, List.getElem?_eq_getElem hl]
  simp

set_option maxHeartbeats 800000 in
theorem kind_any (n : Int) (w : World) (h0 : -9223372036854775808 ≤ n) (h1 : n ≤ 9223372036854775807) :
    Calls Try.prog 9 #[.int .i64 n] w fun e w' => e = .returned (.int .i64 (kindZ n)) ∧ Q w w' := by
  have a15 := fun w => Ur.around_any n 15 w h0 h1 (by omega) (by omega)
  have a45 := fun w => Ur.around_any n 45 w h0 h1 (by omega) (by omega)
  have a390 := fun w => Ur.around_any n 390 w h0 h1 (by omega) (by omega)
  have b15 := around_bd n 15 (by omega)
  have b45 := around_bd n 45 (by omega)
  have b390 := around_bd n 390 (by omega)
  obtain ⟨z, hz⟩ : ∃ z, z = kindZ n := ⟨_, rfl⟩
  have hz' := hz
  unfold kindZ at hz'
  rw [← hz]
  generalize around n 15 = k at *
  generalize around n 45 = p at *
  generalize around n 390 = q at *
  have A15 := Lib.hid a15
  have A45 := Lib.hid a45
  have A390 := Lib.hid a390
  clear a15 a45 a390 hz
  by_cases h12 : k = 12
  · rw [if_pos h12] at hz'
    have HZ := Lib.hid hz'
    subst h12
    clear hz'
    go_enter Try.func9, Try.ntmps9
    go_wp2_with fail
    refine (A15.out _).mono ?_
    rintro e w1 ⟨rfl, rfl⟩
    go_wp2_with fail
    refine (A45.out _).mono ?_
    rintro e w1 ⟨rfl, rfl⟩
    go_wp2_with fail
    go_ret
    rw [HZ.out]
    exact ⟨rfl, Q.refl _⟩
  · rw [if_neg h12] at hz'
    have e12 : (k == 12) = false := beq_eq_false_iff_ne.2 h12
    clear h12
    by_cases h13 : k = 13
    · rw [if_pos h13] at hz'
      have HZ := Lib.hid hz'
      subst h13
      clear hz'
      go_enter Try.func9, Try.ntmps9
      go_wp2_with fail
      refine (A15.out _).mono ?_
      rintro e w1 ⟨rfl, rfl⟩
      go_wp2_with fail
      refine (A45.out _).mono ?_
      rintro e w1 ⟨rfl, rfl⟩
      go_wp2_with fail
      go_ret
      rw [HZ.out]
      exact ⟨rfl, Q.refl _⟩
    · rw [if_neg h13] at hz'
      have e13 : (k == 13) = false := beq_eq_false_iff_ne.2 h13
      have HZ := Lib.hid hz'
      clear h13 hz'
      go_enter Try.func9, Try.ntmps9
      go_wp2_with fail
      refine (A15.out _).mono ?_
      rintro e w1 ⟨rfl, rfl⟩
      go_wp2_with fail
      refine (Cr.table_any _).mono ?_
      rintro e w1 ⟨g, rfl, htab, hq1⟩
      go_wp2_with fail
      go_loopw [5] (fun i wr => ∃ j : Nat, i = .int .i64 j ∧ j ≤ 66 ∧ Q w1 wr ∧ (tab.take j).any (ofK k) = false) (fun i _ => 66 - (intOf i).toNat)
      case atStart => exact ⟨0, rfl, by omega, Q.refl _, rfl⟩
      case round =>
        obtain ⟨j, rfl, hj, hq, hany⟩ := hrel
        have HA := Lib.hid hany
        clear hany
        by_cases hlt : j < 66
        · obtain ⟨c1, c2, c3⟩ := (htab.q hq).2 j (by rw [tab_len]; exact hlt)
          have HT := Lib.hid (tabk_take k j hlt)
          have HC := Lib.hid (fun h => tabk_at hlt HA.out h)
          obtain ⟨⟨r1, r2, r3⟩, hr⟩ : ∃ r, r = tab.getD j (0, 0, 0) := ⟨_, rfl⟩
          rw [← hr] at c1 c2 c3 HT HC
          clear hr
          simp only at c1 c2 c3
          by_cases hk : r3 = k
          · subst hk
            have HF := HC.out (by simp [ofK])
            have hF : z = r1 := by have := HZ.out; rw [HF] at this; exact this
            have HF := Lib.hid hF
            clear hF
            go_wp2_with fail
            go_ret
            rw [HF.out]
            exact ⟨rfl, hq1.trans hq⟩
          · have ek : (r3 == k) = false := beq_eq_false_iff_ne.2 hk
            have HB : Hid (ofK k (r1, r2, r3) = false) := Lib.hid (by simp [ofK, hk])
            clear hk
            go_wp2_with fail
            go_roundw
            case rel => exact ⟨j + 1, by go_num, by omega, hq, by rw [HT.out, HA.out, HB.out]; rfl⟩
            case measure => simp [intOf]; omega
        · have hF : z = 65 + q / 15 := by
            have := HA.out
            rw [List.take_of_length_le (by rw [tab_len]; omega)] at this
            have h2 := HZ.out
            rw [tabk_no this] at h2
            exact h2
          have HF := Lib.hid hF
          clear hF
          go_wp2_with fail
          refine (A390.out _).mono ?_
          rintro e w2 ⟨rfl, rfl⟩
          go_wp2_with fail
          go_ret
          rw [HF.out]
          exact ⟨rfl, hq1.trans hq⟩

theorem ex_begins : begL [101, 204, 129, 120] ++ [((4 : Nat) : Int)] = [0, 3, 4] := by decide +kernel
set_option maxHeartbeats 400000 in
theorem lives_any (w : World) : Calls Try.prog 12 #[] w fun e w' => e = .returned (.bool true) ∧ Q w w' := by
  have hcs := fun w => cstarts_any ⟨#[101, 204, 129, 120]⟩ w (by decide)
  have hl0 : (⟨#[101, 204, 129, 120]⟩ : ByteArray).data.toList = [101, 204, 129, 120] := rfl
  have hl1 : (⟨#[101, 204, 129, 120]⟩ : ByteArray).size = 4 := rfl
  rw [hl0, hl1, ex_begins] at hcs
  have HA := Lib.hid hcs
  clear hcs hl0 hl1
  go_enter Try.func12, Try.ntmps12
  go_wp2_with fail
  refine (HA.out _).mono ?_
  rintro e w2 ⟨v, rfl, hv, hq2⟩
  go_wp2_with fail
  have hlit := Lst.made w2 [0, 3, 4] 3 rfl (by unfold maxLen; omega)
  simp only [List.map_cons, List.map_nil] at hlit
  refine (Ur.same_any _ _ [0, 3, 4] [0, 3, 4] _ (hv.lst.q ((Q.refl _).alloc _)) hlit (by simp) (by simp)).mono ?_
  rintro e w3 ⟨rfl, hq3⟩
  go_wp2_with fail
  go_ret
  exact ⟨retB (by simp), (hq2.alloc _).trans hq3⟩

end Gr
end Go.Proofs.Ytmbmopiicofhdaa
