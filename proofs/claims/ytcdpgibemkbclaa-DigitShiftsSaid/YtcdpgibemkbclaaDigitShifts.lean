/- DigitShifts: of whatever list (the first 20 numbers; raw, and made digits) and whatever number (raw, and made -25 to 25), a number with more, or fewer, digits behind is the document's, or refused; no conditions. -/
import Derived.Test.YtcdpgibemkbclaaRows
import Derived.WalkKit
import Derived.ProofKit
import Derived.OpenShut
import Derived.ShutString
import Derived.ChangeOld
import Derived.Below
import Derived.Test.YtcdpgibemkbclaaInts
import Derived.Test.YtcdpgibemkbclaaUtfM
import Derived.Test.YtcdpgibemkbclaaUtfG
import Derived.Test.YtcdpgibemkbclaaUtfR
import Derived.Test.YtcdpgibemkbclaaDigL
import Derived.Test.YtcdpgibemkbclaaDigW
import Derived.Test.YtcdpgibemkbclaaDigR
import Derived.Test.YtcdpgibemkbclaaDigO
import Derived.Test.YtcdpgibemkbclaaDigZ
import Derived.Test.YtcdpgibemkbclaaDigQ
set_option linter.unusedVariables false
set_option linter.unusedSimpArgs false
namespace Go.Proofs.Ytcdpgibemkbclaa.digitShifts
open Go.ChangeShapes Go.WideShapes Go.ChangeAt Go.RowKit
open Go.ChangeMaps (open_string shut_string)

theorem own : ownKnob Try.prog.godebug = none := by kernel_rfl
theorem laidOut : laidOutB Try.prog = true := by kernel_rfl


set_option maxHeartbeats 2000000 in
set_option maxRecDepth 100000 in
theorem walk (w : World) (v0 : Value) (xs0 : List Int) (w0 : Lst w v0 xs0) (b0 : ∀ n ∈ xs0, -9223372036854775808 ≤ n ∧ n ≤ 9223372036854775807) (a1 : Int) (w1 : -9223372036854775808 ≤ a1 ∧ a1 ≤ 9223372036854775807) :
    Calls Try.prog 9 #[v0, .int .i64 a1] w fun e w' => e = .returned (.bool true) ∧ Q w w' := by
  obtain ⟨ad0, cp0, rfl, hlc0, hcm0⟩ := w0.shape2
  unfold maxLen at hcm0
  have hbig0 : xs0.length ≤ 9223372036854775807 := by omega
  have G0 := Lib.hid (fun w' (q : Q w w') => Dr.good_any _ xs0 20 w' (w0.q q) hbig0 (by omega) b0)
  obtain ⟨n0, hn0⟩ : ∃ n : Nat, n = min xs0.length 20 := ⟨_, rfl⟩
  have hnl0 : n0 ≤ xs0.length := by omega
  have hr0 := w0.take n0 hnl0
  have ht0 : (xs0.take n0).length = n0 := by rw [List.length_take]; omega
  generalize xs0.take n0 = R0 at *
  have LR0 := Lib.hid (fun w' (q : Q w w') => hr0.q q)
  obtain ⟨l0, hl0⟩ : ∃ l, l = xs0.length := ⟨_, rfl⟩
  rw [← hl0] at hlc0 hnl0 hn0 G0 hbig0 ⊢
  have hcase0 : (l0 ≤ 20 ∧ l0 = n0) ∨ (20 < l0 ∧ n0 = 20) := by omega
  have hcn0 : n0 ≤ cp0 := by omega
  have HRL0 : R0.length < 1000000 := by omega
  have hX0 : (Dm.gdL xs0 20).length < 1000000 := by rw [Dm.gdL_len]; omega
  have hXM0 : (Dm.gdL xs0 20).length ≤ 20 := by rw [Dm.gdL_len]; omega
  have kX0 := Dm.gdL_ok xs0 20
  generalize Dm.gdL xs0 20 = X0 at *
  clear hn0 hl0 hr0 w0 b0 hbig0 ht0
  have A0 := Lib.hid (fun w => Ur.around_any a1 51 w w1.1 w1.2 (by omega) (by omega))
  have hab := Um.around_bd a1 51 (by omega)
  generalize Um.around a1 51 = ar at *
  have hkk : -1000 ≤ ar - 25 ∧ ar - 25 ≤ 1000 := by omega
  have S1 := Lib.hid (fun v w h => Dw.shift_any v X0 (ar - 25) w h hX0 ((Dm.okB_iff X0).2 kX0) hkk)
  have S2 := Lib.hid (fun v w h => Dr.shift_any v X0 (ar - 25) w h hX0 hkk)
  have hsl := Dm.shl_len X0 (ar - 25)
  have SM := Lib.hid (fun va vb w h1 h2 => Ur.same_any va vb (Dm.shl X0 (ar - 25)) (Dm.shl X0 (ar - 25)) w h1 h2 (by omega) (by omega))
  have M1 := Lib.hid (fun v w h => Dr.may_any v R0 w h (by omega))
  have HB := Lib.hid (fun v w h hb => Dw.shift_bad v R0 a1 w h (by omega) hb)
  have HR := Lib.hid (fun v w h hb hk => Dw.shift_range v R0 a1 w h (by omega) hb hk)
  have HO := Lib.hid (fun v w h hb hk => Dw.shift_any v R0 a1 w h HRL0 hb hk)
  have HO2 := Lib.hid (fun v w h hk => Dr.shift_any v R0 a1 w h HRL0 hk)
  have hsr := Dm.shl_len R0 a1
  have SR := Lib.hid (fun va vb w h1 h2 (hk : -1000 ≤ a1 ∧ a1 ≤ 1000) => Ur.same_any va vb (Dm.shl R0 a1) (Dm.shl R0 a1) w h1 h2 (by omega) (by omega))
  simp only [decide_true] at SM SR
  have LV := Lib.hid Dw.lives_any
  generalize Dm.shl X0 (ar - 25) = Y at *
  generalize Dm.shl R0 a1 = Z at *
  obtain ⟨hab1, hab2⟩ := hab
  obtain ⟨hw1, hw2⟩ := w1
  clear hsl hsr hX0 kX0 HRL0 hkk
  rcases hcase0 with ⟨g1, rfl⟩ | ⟨g1, rfl⟩
  all_goals
    go_enter Try.func9, Try.ntmps9
    have Q0 := Lib.hid (Q.refl w)
    go_wp2_with fail
    refine (G0.out _ Q0.out).mono ?_
    rintro e z1 ⟨u_X, rfl, hu, hq⟩
    have L1_R := Lib.hid (fun w' (q : Q z1 w') => LR0.out w' (hq.trans q))
    clear LR0
    have L1_X := Lib.hid (fun w' (q : Q z1 w') => Lst.q hu.lst q)
    clear hu
    have Q1 := Lib.hid (Q0.out.trans hq)
    clear hq Q0
    go_wp2_with fail
    refine (A0.out _).mono ?_
    rintro e y0 ⟨rfl, rfl⟩
    go_wp2_with fail
    refine (S1.out _ _ (L1_X.out _ (Q.refl _))).mono ?_
    rintro e z2 ⟨u_a, rfl, hu, hq⟩
    have L2_R := Lib.hid (fun w' (q : Q z2 w') => L1_R.out w' (hq.trans q))
    clear L1_R
    have L2_X := Lib.hid (fun w' (q : Q z2 w') => L1_X.out w' (hq.trans q))
    clear L1_X
    have L2_a := Lib.hid (fun w' (q : Q z2 w') => Lst.q hu q)
    clear hu
    have Q2 := Lib.hid (Q1.out.trans hq)
    clear hq Q1
    cases hb : Dm.okB R0
    · have HB1 := Lib.hid (fun v w h => HB.out v w h hb)
      have M2 := Lib.hid (fun v w h => (by have e := M1.out v w h; rwa [hb] at e : Calls Try.prog 17 #[v] w fun e w' => e = .returned (.bool false) ∧ w = w'))
      clear hb HB M1
      go_wp2_with fail
      refine (HB1.out _ _ (L2_R.out _ (Q.refl _))).mono ?_
      rintro e y1 ⟨rfl, rfl⟩
      go_wp2_with fail
      refine (S2.out _ _ (L2_X.out _ (Q.refl _))).mono ?_
      rintro e z3 ⟨u_b, rfl, hu, hq⟩
      have L3_R := Lib.hid (fun w' (q : Q z3 w') => L2_R.out w' (hq.trans q))
      clear L2_R
      have L3_X := Lib.hid (fun w' (q : Q z3 w') => L2_X.out w' (hq.trans q))
      clear L2_X
      have L3_a := Lib.hid (fun w' (q : Q z3 w') => L2_a.out w' (hq.trans q))
      clear L2_a
      have L3_b := Lib.hid (fun w' (q : Q z3 w') => Lst.q hu.lst q)
      clear hu
      have Q3 := Lib.hid (Q2.out.trans hq)
      clear hq Q2
      go_wp2_with fail
      refine (SM.out _ _ _ (L3_a.out _ (Q.refl _)) (L3_b.out _ (Q.refl _))).mono ?_
      rintro e z4 ⟨rfl, hq⟩
      have L4_R := Lib.hid (fun w' (q : Q z4 w') => L3_R.out w' (hq.trans q))
      clear L3_R
      have L4_X := Lib.hid (fun w' (q : Q z4 w') => L3_X.out w' (hq.trans q))
      clear L3_X
      have L4_a := Lib.hid (fun w' (q : Q z4 w') => L3_a.out w' (hq.trans q))
      clear L3_a
      have L4_b := Lib.hid (fun w' (q : Q z4 w') => L3_b.out w' (hq.trans q))
      clear L3_b
      have Q4 := Lib.hid (Q3.out.trans hq)
      clear hq Q3
      go_wp2_with fail
      refine (M2.out _ _ (L4_R.out _ (Q.refl _))).mono ?_
      rintro e y2 ⟨rfl, rfl⟩
      go_wp2_with fail
      refine (LV.out _).mono ?_
      rintro e z5 ⟨rfl, hq⟩
      have L5_R := Lib.hid (fun w' (q : Q z5 w') => L4_R.out w' (hq.trans q))
      clear L4_R
      have L5_X := Lib.hid (fun w' (q : Q z5 w') => L4_X.out w' (hq.trans q))
      clear L4_X
      have L5_a := Lib.hid (fun w' (q : Q z5 w') => L4_a.out w' (hq.trans q))
      clear L4_a
      have L5_b := Lib.hid (fun w' (q : Q z5 w') => L4_b.out w' (hq.trans q))
      clear L4_b
      have Q5 := Lib.hid (Q4.out.trans hq)
      clear hq Q4
      go_wp2_with fail
      go_ret
      exact ⟨rfl, Q5.out⟩
    · have HR1 := Lib.hid (fun v w h hk => HR.out v w h hb hk)
      have HO1 := Lib.hid (fun v w h hk => HO.out v w h hb hk)
      have M2 := Lib.hid (fun v w h => (by have e := M1.out v w h; rwa [hb] at e : Calls Try.prog 17 #[v] w fun e w' => e = .returned (.bool true) ∧ w = w'))
      clear hb HR HO M1
      rcases (show a1 < -1000 ∨ (¬ a1 < -1000 ∧ 1000 < a1) ∨ (¬ a1 < -1000 ∧ ¬ 1000 < a1) from by omega) with h1 | ⟨h1, h2⟩ | ⟨h1, h2⟩
      · have HR2 := Lib.hid (fun v w h => HR1.out v w h (by omega))
        go_wp2_with fail
        refine (HR2.out _ _ (L2_R.out _ (Q.refl _))).mono ?_
        rintro e y1 ⟨rfl, rfl⟩
        go_wp2_with fail
        refine (S2.out _ _ (L2_X.out _ (Q.refl _))).mono ?_
        rintro e z3 ⟨u_b, rfl, hu, hq⟩
        have L3_R := Lib.hid (fun w' (q : Q z3 w') => L2_R.out w' (hq.trans q))
        clear L2_R
        have L3_X := Lib.hid (fun w' (q : Q z3 w') => L2_X.out w' (hq.trans q))
        clear L2_X
        have L3_a := Lib.hid (fun w' (q : Q z3 w') => L2_a.out w' (hq.trans q))
        clear L2_a
        have L3_b := Lib.hid (fun w' (q : Q z3 w') => Lst.q hu.lst q)
        clear hu
        have Q3 := Lib.hid (Q2.out.trans hq)
        clear hq Q2
        go_wp2_with fail
        refine (SM.out _ _ _ (L3_a.out _ (Q.refl _)) (L3_b.out _ (Q.refl _))).mono ?_
        rintro e z4 ⟨rfl, hq⟩
        have L4_R := Lib.hid (fun w' (q : Q z4 w') => L3_R.out w' (hq.trans q))
        clear L3_R
        have L4_X := Lib.hid (fun w' (q : Q z4 w') => L3_X.out w' (hq.trans q))
        clear L3_X
        have L4_a := Lib.hid (fun w' (q : Q z4 w') => L3_a.out w' (hq.trans q))
        clear L3_a
        have L4_b := Lib.hid (fun w' (q : Q z4 w') => L3_b.out w' (hq.trans q))
        clear L3_b
        have Q4 := Lib.hid (Q3.out.trans hq)
        clear hq Q3
        go_wp2_with fail
        refine (M2.out _ _ (L4_R.out _ (Q.refl _))).mono ?_
        rintro e y2 ⟨rfl, rfl⟩
        go_wp2_with fail
        refine (LV.out _).mono ?_
        rintro e z5 ⟨rfl, hq⟩
        have L5_R := Lib.hid (fun w' (q : Q z5 w') => L4_R.out w' (hq.trans q))
        clear L4_R
        have L5_X := Lib.hid (fun w' (q : Q z5 w') => L4_X.out w' (hq.trans q))
        clear L4_X
        have L5_a := Lib.hid (fun w' (q : Q z5 w') => L4_a.out w' (hq.trans q))
        clear L4_a
        have L5_b := Lib.hid (fun w' (q : Q z5 w') => L4_b.out w' (hq.trans q))
        clear L4_b
        have Q5 := Lib.hid (Q4.out.trans hq)
        clear hq Q4
        go_wp2_with fail
        go_ret
        exact ⟨rfl, Q5.out⟩
      · have HR2 := Lib.hid (fun v w h => HR1.out v w h (by omega))
        go_wp2_with fail
        refine (HR2.out _ _ (L2_R.out _ (Q.refl _))).mono ?_
        rintro e y1 ⟨rfl, rfl⟩
        go_wp2_with fail
        refine (S2.out _ _ (L2_X.out _ (Q.refl _))).mono ?_
        rintro e z3 ⟨u_b, rfl, hu, hq⟩
        have L3_R := Lib.hid (fun w' (q : Q z3 w') => L2_R.out w' (hq.trans q))
        clear L2_R
        have L3_X := Lib.hid (fun w' (q : Q z3 w') => L2_X.out w' (hq.trans q))
        clear L2_X
        have L3_a := Lib.hid (fun w' (q : Q z3 w') => L2_a.out w' (hq.trans q))
        clear L2_a
        have L3_b := Lib.hid (fun w' (q : Q z3 w') => Lst.q hu.lst q)
        clear hu
        have Q3 := Lib.hid (Q2.out.trans hq)
        clear hq Q2
        go_wp2_with fail
        refine (SM.out _ _ _ (L3_a.out _ (Q.refl _)) (L3_b.out _ (Q.refl _))).mono ?_
        rintro e z4 ⟨rfl, hq⟩
        have L4_R := Lib.hid (fun w' (q : Q z4 w') => L3_R.out w' (hq.trans q))
        clear L3_R
        have L4_X := Lib.hid (fun w' (q : Q z4 w') => L3_X.out w' (hq.trans q))
        clear L3_X
        have L4_a := Lib.hid (fun w' (q : Q z4 w') => L3_a.out w' (hq.trans q))
        clear L3_a
        have L4_b := Lib.hid (fun w' (q : Q z4 w') => L3_b.out w' (hq.trans q))
        clear L3_b
        have Q4 := Lib.hid (Q3.out.trans hq)
        clear hq Q3
        go_wp2_with fail
        refine (M2.out _ _ (L4_R.out _ (Q.refl _))).mono ?_
        rintro e y2 ⟨rfl, rfl⟩
        go_wp2_with fail
        refine (LV.out _).mono ?_
        rintro e z5 ⟨rfl, hq⟩
        have L5_R := Lib.hid (fun w' (q : Q z5 w') => L4_R.out w' (hq.trans q))
        clear L4_R
        have L5_X := Lib.hid (fun w' (q : Q z5 w') => L4_X.out w' (hq.trans q))
        clear L4_X
        have L5_a := Lib.hid (fun w' (q : Q z5 w') => L4_a.out w' (hq.trans q))
        clear L4_a
        have L5_b := Lib.hid (fun w' (q : Q z5 w') => L4_b.out w' (hq.trans q))
        clear L4_b
        have Q5 := Lib.hid (Q4.out.trans hq)
        clear hq Q4
        go_wp2_with fail
        go_ret
        exact ⟨rfl, Q5.out⟩
      · have HO3 := Lib.hid (fun v w h => HO1.out v w h (by omega))
        have HO4 := Lib.hid (fun v w h => HO2.out v w h (by omega))
        have SR2 := Lib.hid (fun va vb w h1 h2 => SR.out va vb w h1 h2 (by omega))
        go_wp2_with fail
        refine (HO3.out _ _ (L2_R.out _ (Q.refl _))).mono ?_
        rintro e z3 ⟨u_c, rfl, hu, hq⟩
        have L3_R := Lib.hid (fun w' (q : Q z3 w') => L2_R.out w' (hq.trans q))
        clear L2_R
        have L3_X := Lib.hid (fun w' (q : Q z3 w') => L2_X.out w' (hq.trans q))
        clear L2_X
        have L3_a := Lib.hid (fun w' (q : Q z3 w') => L2_a.out w' (hq.trans q))
        clear L2_a
        have L3_c := Lib.hid (fun w' (q : Q z3 w') => Lst.q hu q)
        clear hu
        have Q3 := Lib.hid (Q2.out.trans hq)
        clear hq Q2
        go_wp2_with fail
        refine (S2.out _ _ (L3_X.out _ (Q.refl _))).mono ?_
        rintro e z4 ⟨u_b, rfl, hu, hq⟩
        have L4_R := Lib.hid (fun w' (q : Q z4 w') => L3_R.out w' (hq.trans q))
        clear L3_R
        have L4_X := Lib.hid (fun w' (q : Q z4 w') => L3_X.out w' (hq.trans q))
        clear L3_X
        have L4_a := Lib.hid (fun w' (q : Q z4 w') => L3_a.out w' (hq.trans q))
        clear L3_a
        have L4_c := Lib.hid (fun w' (q : Q z4 w') => L3_c.out w' (hq.trans q))
        clear L3_c
        have L4_b := Lib.hid (fun w' (q : Q z4 w') => Lst.q hu.lst q)
        clear hu
        have Q4 := Lib.hid (Q3.out.trans hq)
        clear hq Q3
        go_wp2_with fail
        refine (SM.out _ _ _ (L4_a.out _ (Q.refl _)) (L4_b.out _ (Q.refl _))).mono ?_
        rintro e z5 ⟨rfl, hq⟩
        have L5_R := Lib.hid (fun w' (q : Q z5 w') => L4_R.out w' (hq.trans q))
        clear L4_R
        have L5_X := Lib.hid (fun w' (q : Q z5 w') => L4_X.out w' (hq.trans q))
        clear L4_X
        have L5_a := Lib.hid (fun w' (q : Q z5 w') => L4_a.out w' (hq.trans q))
        clear L4_a
        have L5_c := Lib.hid (fun w' (q : Q z5 w') => L4_c.out w' (hq.trans q))
        clear L4_c
        have L5_b := Lib.hid (fun w' (q : Q z5 w') => L4_b.out w' (hq.trans q))
        clear L4_b
        have Q5 := Lib.hid (Q4.out.trans hq)
        clear hq Q4
        go_wp2_with fail
        refine (M2.out _ _ (L5_R.out _ (Q.refl _))).mono ?_
        rintro e y1 ⟨rfl, rfl⟩
        go_wp2_with fail
        refine (HO4.out _ _ (L5_R.out _ (Q.refl _))).mono ?_
        rintro e z6 ⟨u_d, rfl, hu, hq⟩
        have L6_R := Lib.hid (fun w' (q : Q z6 w') => L5_R.out w' (hq.trans q))
        clear L5_R
        have L6_X := Lib.hid (fun w' (q : Q z6 w') => L5_X.out w' (hq.trans q))
        clear L5_X
        have L6_a := Lib.hid (fun w' (q : Q z6 w') => L5_a.out w' (hq.trans q))
        clear L5_a
        have L6_c := Lib.hid (fun w' (q : Q z6 w') => L5_c.out w' (hq.trans q))
        clear L5_c
        have L6_b := Lib.hid (fun w' (q : Q z6 w') => L5_b.out w' (hq.trans q))
        clear L5_b
        have L6_d := Lib.hid (fun w' (q : Q z6 w') => Lst.q hu.lst q)
        clear hu
        have Q6 := Lib.hid (Q5.out.trans hq)
        clear hq Q5
        go_wp2_with fail
        refine (SR2.out _ _ _ (L6_c.out _ (Q.refl _)) (L6_d.out _ (Q.refl _))).mono ?_
        rintro e z7 ⟨rfl, hq⟩
        have L7_R := Lib.hid (fun w' (q : Q z7 w') => L6_R.out w' (hq.trans q))
        clear L6_R
        have L7_X := Lib.hid (fun w' (q : Q z7 w') => L6_X.out w' (hq.trans q))
        clear L6_X
        have L7_a := Lib.hid (fun w' (q : Q z7 w') => L6_a.out w' (hq.trans q))
        clear L6_a
        have L7_c := Lib.hid (fun w' (q : Q z7 w') => L6_c.out w' (hq.trans q))
        clear L6_c
        have L7_b := Lib.hid (fun w' (q : Q z7 w') => L6_b.out w' (hq.trans q))
        clear L6_b
        have L7_d := Lib.hid (fun w' (q : Q z7 w') => L6_d.out w' (hq.trans q))
        clear L6_d
        have Q7 := Lib.hid (Q6.out.trans hq)
        clear hq Q6
        go_wp2_with fail
        refine (LV.out _).mono ?_
        rintro e z8 ⟨rfl, hq⟩
        have L8_R := Lib.hid (fun w' (q : Q z8 w') => L7_R.out w' (hq.trans q))
        clear L7_R
        have L8_X := Lib.hid (fun w' (q : Q z8 w') => L7_X.out w' (hq.trans q))
        clear L7_X
        have L8_a := Lib.hid (fun w' (q : Q z8 w') => L7_a.out w' (hq.trans q))
        clear L7_a
        have L8_c := Lib.hid (fun w' (q : Q z8 w') => L7_c.out w' (hq.trans q))
        clear L7_c
        have L8_b := Lib.hid (fun w' (q : Q z8 w') => L7_b.out w' (hq.trans q))
        clear L7_b
        have L8_d := Lib.hid (fun w' (q : Q z8 w') => L7_d.out w' (hq.trans q))
        clear L7_d
        have Q8 := Lib.hid (Q7.out.trans hq)
        clear hq Q7
        go_wp2_with fail
        go_ret
        exact ⟨rfl, Q8.out⟩

set_option maxRecDepth 100000 in
theorem lifted (os : Os) (started : os.Started) (H : Type) (enc : TypeId × Value → H) :
    ReturnsInHanded {} Try.checked os 9 .any (Rows.digitShiftsSpec.pre6 enc Try.prog Try.f9 Rows.digitShiftsRow.domain false) (Rows.digitShiftsSpec.post enc Try.prog Try.f9 false true false false) := by
  refine returnsInHanded_of_change (C := Try.checked) own started (by kernel_rfl) Try.func9
    (ChangeSpec.witness6 (enc := enc) (C := Try.checked) false ⟨#[], #[.slice none 0 0, .int .i64 0], []⟩ 8 (by kernel_rfl) (by kernel_rfl) (by kernel_rfl) (by kernel_rfl)) ?_
  intro W base args ds gs before hval0 hW hcnd _
  have hval : ∀ (j : Nat) t v, Try.f9.params[j]? = some t → args[j]? = some v → Value.okWide Try.prog W .any base t v := hval0
  have hW' := hW
  obtain ⟨p, q, hA0, hV, rfl, hfz, hnd⟩ := hW
  have hA : DataW.TrodAll enc Try.prog W 0 (fun _ => true) true Try.f9.params.toList args.toList ds p := hA0
  rw [Try.params9] at hA hval
  obtain ⟨v0, vs0, d0, ds0, p0, q0, hargs, rfl, rfl, h0, r0⟩ := trodAll_cons hA
  obtain ⟨v1, vs1, d1, ds1, p1, q1, rfl, rfl, rfl, h1, r1⟩ := trodAll_cons r0
  obtain ⟨rfl, rfl, rfl⟩ := trodAll_nil r1
  obtain rfl : args = #[v0, v1] := by cases args; simp_all
  obtain ⟨rfl, rfl⟩ := trodVars_none hV
  obtain ⟨a0, len0, cap0, rfl⟩ := okWide_slice Try.underlying22 (hval 0 22 v0 rfl rfl)
  have k0 := h0
  have lt0 : ∀ x ∈ p0, x.block < W.heap.size := by obtain ⟨m, hm⟩ := k0; exact DataW.trod_lt m _ _ _ hm
  obtain ⟨z0, w0⟩ : ∃ zs, IsRow .i64 W a0 len0 cap0 zs := by
    obtain ⟨fuel, hf⟩ := h0
    rcases open_ints Try.underlying22 Try.underlying3 (by kernel_rfl) hf with ⟨hcs, _⟩ | ⟨x, l, c, zs, hcs, _, hl, hm, hz, _, hcell, hwz⟩
    · simp [Value.cells] at hcs
      obtain ⟨rfl, rfl, rfl⟩ := hcs
      exact ⟨[], .inl ⟨rfl, rfl, rfl, rfl⟩⟩
    · simp [Value.cells] at hcs
      obtain ⟨rfl, rfl, rfl⟩ := hcs
      exact ⟨zs, .inr ⟨_, rfl, hl, hm, by simpa using hz, hcell, hwz⟩⟩
  obtain ⟨xs0, l0, _, b0⟩ := w0.lst
  obtain ⟨a1, rfl, rfl, rfl, w1⟩ := open_int Try.underlying3 (hval 1 3 v1 rfl rfl) h1
  clear hA0 hval0
  refine (walk W (.slice a0 len0 cap0) xs0 l0 b0 a1 (bounds_i64 w1)).mono fun e W' ⟨he, bel⟩ => ?_
  subst he
  exact ⟨_, rfl, _, _, _, [], _, [], hW', trodAll_mk1 (shut_bool Try.underlying4 _), (trodAll_cons_mk (Below.trod laidOut (by kernel_rfl) (of_decide_eq_true (by kernel_rfl)) k0 bel lt0) (trodAll_cons_mk (shut_int Try.underlying3 w1) trodAll_mk0)), rfl, bel.below.frame _, fun h => by cases h⟩

/-- The statement. -/
theorem proved : Rows.DigitShiftsSaid :=
  OpenClaim.holds_of_wide 9 Try.f9 rfl rfl rfl rfl rfl rfl rfl ⟨rfl, rfl, rfl, rfl, rfl⟩ rfl rfl rfl rfl rfl (by kernel_rfl) Try.func9 (by kernel_rfl)
    (of_decide_eq_true (by kernel_rfl)) (by unfold Func.isWrapper; first | (rw [if_pos (by decide +kernel)]; kernel_rfl) | (rw [if_neg (by decide +kernel)]; exact ⟨rfl, rfl⟩))
    (fun os started H enc _ => lifted os started H enc)
#print axioms proved
end Go.Proofs.Ytcdpgibemkbclaa.digitShifts
