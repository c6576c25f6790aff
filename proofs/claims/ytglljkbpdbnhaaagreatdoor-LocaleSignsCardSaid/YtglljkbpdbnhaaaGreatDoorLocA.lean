/- Words and symbols, as the program and the document tell them; names; systems. -/
import Derived.Test.YtglljkbpdbnhaaaGreatDoorRows
import Derived.Test.YtglljkbpdbnhaaaGreatDoorMA
import Derived.Test.YtglljkbpdbnhaaaGreatDoorMB
import Derived.Test.YtglljkbpdbnhaaaGreatDoorMC
import Derived.Test.YtglljkbpdbnhaaaGreatDoorMD
import Derived.Test.YtglljkbpdbnhaaaGreatDoorME
import Derived.Test.YtglljkbpdbnhaaaGreatDoorMF
import Derived.Test.YtglljkbpdbnhaaaGreatDoorMBS
import Derived.Test.YtglljkbpdbnhaaaGreatDoorMH
import Derived.Test.YtglljkbpdbnhaaaGreatDoorLocM
set_option linter.unusedVariables false
set_option linter.unusedSimpArgs false
namespace Go.Proofs.YtglljkbpdbnhaaaGreatDoor
open Go.RowKit
namespace Lo
open Um Cm Gm


/-! ### the program's -/
set_option maxHeartbeats 1000000 in
theorem word_any (s : ByteArray) (w : World) (hs : s.size ≤ 1000000) :
    Calls Tryz.prog 114 #[.string s] w fun e w' => e = .returned (.bool (Lm.wordB s.data.toList)) ∧ Q w w' := by
  have hsl := size_list s
  have hm : s.size ≤ maxLen := by unfold maxLen; omega
  have hv := fun w => valid_any s w hm
  by_cases h16 : s.size ≤ 16
  · have h16i : (s.size : Int) ≤ 16 := by omega
    cases hb : okL s.data.toList with
    | false =>
      have HF := Lib.hid (show Lm.wordB s.data.toList = false by unfold Lm.wordB; rw [hb]; simp)
      simp only [hb] at hv
      have HV := Lib.hid hv
      clear hv hb hsl hm
      rw [HF.out]
      go_enter Tryz.func114, Tryz.ntmps114
      go_wp2_with fail
      refine (HV.out _).mono ?_
      rintro e w1 ⟨rfl, hq1⟩
      go_wp2_with fail
      go_ret
      exact ⟨rfl, hq1⟩
    | true =>
      have hml := marks_length s.data.toList
      have hal : (allL s.data.toList).length ≤ 1073741824 := by unfold allL; rw [List.length_map]; omega
      have ha := Lib.hid fun w => all_any s w (by omega)
      have hp := Lib.hid fun v w hv => plain_any v (allL s.data.toList) w hv hal
      have HF := Lib.hid (show Lm.wordB s.data.toList = plainB (allL s.data.toList) by unfold Lm.wordB; rw [hb, hsl]; simp [h16])
      simp only [hb] at hv
      have HV := Lib.hid hv
      rw [HF.out]
      clear hv hb hsl hm hml hal HF
      generalize plainB (allL s.data.toList) = P at *
      generalize allL s.data.toList = A at *
      go_enter Tryz.func114, Tryz.ntmps114
      go_wp2_with fail
      refine (HV.out _).mono ?_
      rintro e w1 ⟨rfl, hq1⟩
      go_wp2_with fail
      refine (ha.out _).mono ?_
      rintro e w2 ⟨v2, rfl, hv2, hq2⟩
      go_wp2_with fail
      refine (hp.out _ _ hv2.lst).mono ?_
      rintro e w3 ⟨rfl, hq3⟩
      go_wp2_with fail
      go_ret
      exact ⟨rfl, hq1.trans (hq2.trans hq3)⟩
  · have h16i : ¬ (s.size : Int) ≤ 16 := by omega
    have HF := Lib.hid (show Lm.wordB s.data.toList = false by unfold Lm.wordB; rw [hsl]; simp [h16])
    clear hv hsl hm
    rw [HF.out]
    go_enter Tryz.func114, Tryz.ntmps114
    go_wp2_with fail
    go_ret
    exact ⟨rfl, Q.refl _⟩
set_option maxHeartbeats 1000000 in
theorem symbol_any (s : ByteArray) (w : World) (hs : s.size ≤ 1000000) :
    Calls Tryz.prog 67 #[.string s] w fun e w' => e = .returned (.bool (Lm.symB s.data.toList)) ∧ Q w w' := by
  have hw := fun w => word_any s w hs
  have hc := fun w => cone_any s w (by omega)
  have HF := Lib.hid (show Lm.symB s.data.toList = (Lm.wordB s.data.toList && oneB s.data.toList) from rfl)
  rw [HF.out]
  clear HF
  generalize Lm.wordB s.data.toList = W at *
  generalize oneB s.data.toList = C at *
  have HW := Lib.hid hw
  have HC := Lib.hid hc
  clear hw hc
  cases W with
  | false =>
    go_enter Tryz.func67, Tryz.ntmps67
    go_wp2_with fail
    refine (HW.out _).mono ?_
    rintro e w1 ⟨rfl, hq1⟩
    go_wp2_with fail
    go_ret
    exact ⟨rfl, hq1⟩
  | true =>
    go_enter Tryz.func67, Tryz.ntmps67
    go_wp2_with fail
    refine (HW.out _).mono ?_
    rintro e w1 ⟨rfl, hq1⟩
    go_wp2_with fail
    refine (HC.out _).mono ?_
    rintro e w2 ⟨rfl, hq2⟩
    go_wp2_with fail
    go_ret
    exact ⟨rfl, hq1.trans hq2⟩
/-! ### the document's -/
/-! ### a system's name -/
theorem known_ok (x : ByteArray) (w : World) (hx : x.size ≤ maxLen) (h : Sm.nz x.data.toList ≠ -1) :
    Calls Tryz.prog 65 #[.string x] w fun e w' => e = .returned (.bool true) ∧ Q w w' := by
  have hz := Lib.hid fun w => Sy.zero_some x w hx h
  clear h
  go_enter Tryz.func65, Tryz.ntmps65
  go_wp2_with fail
  refine (hz.out _).mono ?_
  rintro e w1 ⟨rfl, hq1⟩
  go_wp2_with fail
  go_ret
  exact ⟨rfl, hq1⟩

end Lo
end Go.Proofs.YtglljkbpdbnhaaaGreatDoor
