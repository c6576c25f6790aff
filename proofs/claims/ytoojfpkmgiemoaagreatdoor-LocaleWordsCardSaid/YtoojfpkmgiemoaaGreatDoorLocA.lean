/- Words and symbols, as the program and the document tell them; names; systems. -/
import Derived.Test.YtoojfpkmgiemoaaGreatDoorRows
import Derived.Test.YtoojfpkmgiemoaaGreatDoorMA
import Derived.Test.YtoojfpkmgiemoaaGreatDoorMB
import Derived.Test.YtoojfpkmgiemoaaGreatDoorMC
import Derived.Test.YtoojfpkmgiemoaaGreatDoorMD
import Derived.Test.YtoojfpkmgiemoaaGreatDoorME
import Derived.Test.YtoojfpkmgiemoaaGreatDoorMF
import Derived.Test.YtoojfpkmgiemoaaGreatDoorMBS
import Derived.Test.YtoojfpkmgiemoaaGreatDoorMH
import Derived.Test.YtoojfpkmgiemoaaGreatDoorLocM
set_option linter.unusedVariables false
set_option linter.unusedSimpArgs false
namespace Go.Proofs.YtoojfpkmgiemoaaGreatDoor
open Go.RowKit
namespace Lo
open Um Cm Gm


/-! ### the program's -/
set_option maxHeartbeats 1000000 in
theorem word_any (s : ByteArray) (w : World) (hs : s.size ≤ 1000000) :
    Calls Tryz.prog 28 #[.string s] w fun e w' => e = .returned (.bool (Lm.wordB s.data.toList)) ∧ Q w w' := by
  have hsl := size_list s
  have hm : s.size ≤ maxLen := by unfold maxLen; omega
  have hv := fun w => valid_any s w hm
  by_cases h16 : s.size ≤ 16
  · have h16i : (s.size : Int) ≤ 16 := by omega
    cases hb : okL s.data.toList with
    | false =>
      have HF := Lib.hid (show Lm.wordB s.data.toList = false by unfold Lm.wordB; rw [hb]; simp)
      simp only [hb] at hv
      have HV := Lib.hid hv
      clear hv hb hsl hm
      rw [HF.out]
      go_enter Tryz.func28, Tryz.ntmps28
      go_wp2_with fail
      refine (HV.out _).mono ?_
      rintro e w1 ⟨rfl, hq1⟩
      go_wp2_with fail
      go_ret
      exact ⟨rfl, hq1⟩
    | true =>
      have hml := marks_length s.data.toList
      have hal : (allL s.data.toList).length ≤ 1073741824 := by unfold allL; rw [List.length_map]; omega
      have ha := Lib.hid fun w => all_any s w (by omega)
      have hp := Lib.hid fun v w hv => plain_any v (allL s.data.toList) w hv hal
      have HF := Lib.hid (show Lm.wordB s.data.toList = plainB (allL s.data.toList) by unfold Lm.wordB; rw [hb, hsl]; simp [h16])
      simp only [hb] at hv
      have HV := Lib.hid hv
      rw [HF.out]
      clear hv hb hsl hm hml hal HF
      generalize plainB (allL s.data.toList) = P at *
      generalize allL s.data.toList = A at *
      go_enter Tryz.func28, Tryz.ntmps28
      go_wp2_with fail
      refine (HV.out _).mono ?_
      rintro e w1 ⟨rfl, hq1⟩
      go_wp2_with fail
      refine (ha.out _).mono ?_
      rintro e w2 ⟨v2, rfl, hv2, hq2⟩
      go_wp2_with fail
      refine (hp.out _ _ hv2.lst).mono ?_
      rintro e w3 ⟨rfl, hq3⟩
      go_wp2_with fail
      go_ret
      exact ⟨rfl, hq1.trans (hq2.trans hq3)⟩
  · have h16i : ¬ (s.size : Int) ≤ 16 := by omega
    have HF := Lib.hid (show Lm.wordB s.data.toList = false by unfold Lm.wordB; rw [hsl]; simp [h16])
    clear hv hsl hm
    rw [HF.out]
    go_enter Tryz.func28, Tryz.ntmps28
    go_wp2_with fail
    go_ret
    exact ⟨rfl, Q.refl _⟩
set_option maxHeartbeats 1000000 in
theorem symbol_any (s : ByteArray) (w : World) (hs : s.size ≤ 1000000) :
    Calls Tryz.prog 29 #[.string s] w fun e w' => e = .returned (.bool (Lm.symB s.data.toList)) ∧ Q w w' := by
  have hw := fun w => word_any s w hs
  have hc := fun w => cone_any s w (by omega)
  have HF := Lib.hid (show Lm.symB s.data.toList = (Lm.wordB s.data.toList && oneB s.data.toList) from rfl)
  rw [HF.out]
  clear HF
  generalize Lm.wordB s.data.toList = W at *
  generalize oneB s.data.toList = C at *
  have HW := Lib.hid hw
  have HC := Lib.hid hc
  clear hw hc
  cases W with
  | false =>
    go_enter Tryz.func29, Tryz.ntmps29
    go_wp2_with fail
    refine (HW.out _).mono ?_
    rintro e w1 ⟨rfl, hq1⟩
    go_wp2_with fail
    go_ret
    exact ⟨rfl, hq1⟩
  | true =>
    go_enter Tryz.func29, Tryz.ntmps29
    go_wp2_with fail
    refine (HW.out _).mono ?_
    rintro e w1 ⟨rfl, hq1⟩
    go_wp2_with fail
    refine (HC.out _).mono ?_
    rintro e w2 ⟨rfl, hq2⟩
    go_wp2_with fail
    go_ret
    exact ⟨rfl, hq1.trans hq2⟩
/-! ### the document's -/
set_option maxHeartbeats 1000000 in
theorem rword_any (s : ByteArray) (w : World) (hs : s.size ≤ 1000000) :
    Calls Tryz.prog 27 #[.string s] w fun e w' => e = .returned (.bool (Lm.wordB s.data.toList)) ∧ Q w w' := by
  have hsl := size_list s
  have hml := marks_length s.data.toList
  have hal : (allL s.data.toList).length ≤ 1073741824 := by unfold allL; rw [List.length_map]; omega
  have ha := Lib.hid fun w => Ur.all_any s w (by omega)
  have hp := Lib.hid fun v w hv => Cr.plain_any v (allL s.data.toList) w hv hal
  have HF := Lib.hid (show Lm.wordB s.data.toList = (okL s.data.toList && (plainB (allL s.data.toList) && decide ((s.size : Int) ≤ 16))) by
    unfold Lm.wordB
    rw [hsl]
    have e : decide ((s.size : Int) ≤ 16) = decide (s.size ≤ 16) := by simp only [decide_eq_decide]; omega
    rw [e]
    cases decide (s.size ≤ 16) <;> cases okL s.data.toList <;> cases plainB (allL s.data.toList) <;> rfl)
  rw [HF.out]
  clear HF hsl hml hal
  generalize plainB (allL s.data.toList) = P at *
  generalize allL s.data.toList = A at *
  generalize okL s.data.toList = V at *
  have main : ∀ b : Bool, decide ((s.size : Int) ≤ 16) = b → Calls Tryz.prog 27 #[.string s] w fun e w' => e = .returned (.bool (V && (P && b))) ∧ Q w w' := by
    intro b hb
    have h16 : b = true → (s.size : Int) ≤ 16 := fun h => of_decide_eq_true (hb.trans h)
    have h17 : b = false → ¬ (s.size : Int) ≤ 16 := fun h => of_decide_eq_false (hb.trans h)
    clear hb
    cases V with
    | false =>
      clear h16 h17
      go_enter Tryz.func27, Tryz.ntmps27
      go_wp2_with fail
      refine (ha.out _).mono ?_
      rintro e w1 ⟨v, u, rfl, hv, _, _, hq1⟩
      go_wp2_with fail
      refine (hp.out _ _ hv.lst).mono ?_
      rintro e w2 ⟨rfl, hq2⟩
      go_wp2_with fail
      go_ret
      exact ⟨rfl, hq1.trans hq2⟩
    | true =>
      cases P with
      | false =>
        clear h16 h17
        go_enter Tryz.func27, Tryz.ntmps27
        go_wp2_with fail
        refine (ha.out _).mono ?_
        rintro e w1 ⟨v, u, rfl, hv, _, _, hq1⟩
        go_wp2_with fail
        refine (hp.out _ _ hv.lst).mono ?_
        rintro e w2 ⟨rfl, hq2⟩
        go_wp2_with fail
        go_ret
        exact ⟨rfl, hq1.trans hq2⟩
      | true =>
        cases b with
        | true =>
          have h := h16 rfl
          clear h16 h17
          go_enter Tryz.func27, Tryz.ntmps27
          go_wp2_with fail
          refine (ha.out _).mono ?_
          rintro e w1 ⟨v, u, rfl, hv, _, _, hq1⟩
          go_wp2_with fail
          refine (hp.out _ _ hv.lst).mono ?_
          rintro e w2 ⟨rfl, hq2⟩
          go_wp2_with fail
          go_ret
          exact ⟨rfl, hq1.trans hq2⟩
        | false =>
          have h := h17 rfl
          clear h16 h17
          go_enter Tryz.func27, Tryz.ntmps27
          go_wp2_with fail
          refine (ha.out _).mono ?_
          rintro e w1 ⟨v, u, rfl, hv, _, _, hq1⟩
          go_wp2_with fail
          refine (hp.out _ _ hv.lst).mono ?_
          rintro e w2 ⟨rfl, hq2⟩
          go_wp2_with fail
          go_ret
          refine ⟨?_, hq1.trans hq2⟩
          first | rfl | exact retB (decide_eq_false h) | (simp; omega)
  exact main _ rfl
set_option maxHeartbeats 1000000 in
theorem rsymbol_any (s : ByteArray) (w : World) (hs : s.size ≤ 1000000) :
    Calls Tryz.prog 30 #[.string s] w fun e w' => e = .returned (.bool (Lm.symB s.data.toList)) ∧ Q w w' := by
  have hw := fun w => rword_any s w hs
  have hc := fun w => Gr.split_any s w (by omega)
  obtain ⟨n, hn⟩ : ∃ n, n = (begL s.data.toList).length := ⟨_, rfl⟩
  have hpl : (pcs s).length = n := by rw [pcs_length, hn]
  have HF := Lib.hid (show Lm.symB s.data.toList = (Lm.wordB s.data.toList && decide (n = 1)) by unfold Lm.symB; rw [oneB_eq, hn])
  rw [HF.out]
  clear HF hn
  have HPL := Lib.hid hpl
  generalize pcs s = L at *
  generalize Lm.wordB s.data.toList = W at *
  have HW := Lib.hid hw
  have HC := Lib.hid hc
  clear hw hc hpl
  cases W with
  | false =>
    go_enter Tryz.func30, Tryz.ntmps30
    go_wp2_with fail
    refine (HW.out _).mono ?_
    rintro e w1 ⟨rfl, hq1⟩
    go_wp2_with fail
    go_ret
    exact ⟨rfl, hq1⟩
  | true =>
    by_cases h1 : n = 1
    · subst h1
      go_enter Tryz.func30, Tryz.ntmps30
      go_wp2_with fail
      refine (HW.out _).mono ?_
      rintro e w1 ⟨rfl, hq1⟩
      go_wp2_with fail
      refine (HC.out _).mono ?_
      rintro e w2 ⟨v2, rfl, hv2, hq2⟩
      obtain ⟨a, c, rfl, _, _⟩ := hv2.lst.form0 HPL.out
      go_wp2_with fail
      go_ret
      exact ⟨rfl, hq1.trans hq2⟩
    · have hb : ((n : Int) == 1) = false := by rw [beq_eq_false_iff_ne]; omega
      have HD := Lib.hid (decide_eq_false h1)
      rw [HD.out]
      go_enter Tryz.func30, Tryz.ntmps30
      go_wp2_with fail
      refine (HW.out _).mono ?_
      rintro e w1 ⟨rfl, hq1⟩
      go_wp2_with fail
      refine (HC.out _).mono ?_
      rintro e w2 ⟨v2, rfl, hv2, hq2⟩
      obtain ⟨a, c, rfl, _, _⟩ := hv2.lst.form0 HPL.out
      go_wp2_with fail
      go_ret
      exact ⟨rfl, hq1.trans hq2⟩
/-! ### a system's name -/
theorem known_ok (x : ByteArray) (w : World) (hx : x.size ≤ maxLen) (h : Sm.nz x.data.toList ≠ -1) :
    Calls Tryz.prog 69 #[.string x] w fun e w' => e = .returned (.bool true) ∧ Q w w' := by
  have hz := Lib.hid fun w => Sy.zero_some x w hx h
  clear h
  go_enter Tryz.func69, Tryz.ntmps69
  go_wp2_with fail
  refine (hz.out _).mono ?_
  rintro e w1 ⟨rfl, hq1⟩
  go_wp2_with fail
  go_ret
  exact ⟨rfl, hq1⟩

end Lo
end Go.Proofs.YtoojfpkmgiemoaaGreatDoor
