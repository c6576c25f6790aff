/- DigitSubs: of whatever two lists (the first 20 numbers of each; raw, and made digits), a number less another one is the document's, or refused, and what is taken away from a sum leaves the rest; no conditions. -/
import Derived.Test.YtcdpgibemkbclaaRows
import Derived.WalkKit
import Derived.ProofKit
import Derived.OpenShut
import Derived.ShutString
import Derived.ChangeOld
import Derived.Below
import Derived.Test.YtcdpgibemkbclaaInts
import Derived.Test.YtcdpgibemkbclaaUtfM
import Derived.Test.YtcdpgibemkbclaaUtfG
import Derived.Test.YtcdpgibemkbclaaUtfR
import Derived.Test.YtcdpgibemkbclaaDigM
import Derived.Test.YtcdpgibemkbclaaDigL
import Derived.Test.YtcdpgibemkbclaaDigW
import Derived.Test.YtcdpgibemkbclaaDigR
import Derived.Test.YtcdpgibemkbclaaDigS
import Derived.Test.YtcdpgibemkbclaaDigX
import Derived.Test.YtcdpgibemkbclaaDigY
import Derived.Test.YtcdpgibemkbclaaDigQ
set_option linter.unusedVariables false
set_option linter.unusedSimpArgs false
namespace Go.Proofs.Ytcdpgibemkbclaa.digitSubs
open Go.ChangeShapes Go.WideShapes Go.ChangeAt Go.RowKit
open Go.ChangeMaps (open_string shut_string)

theorem own : ownKnob Try.prog.godebug = none := by kernel_rfl
theorem laidOut : laidOutB Try.prog = true := by kernel_rfl

def sbC (xs ys : List Int) : Int := if Dm.num xs < Dm.num ys then 3 else 0
def sbD (xs ys : List Int) : List Int := if Dm.num xs < Dm.num ys then [] else Dm.dg (Dm.num xs - Dm.num ys)
theorem subR (va vb : Value) (xs ys : List Int) (w : World) (hv : Lst w va xs) (hu : Lst w vb ys) (hl : xs.length < 1000000) (hl2 : ys.length < 1000000) (hx : Dm.okD xs) (hy : Dm.okD ys) :
    Calls Try.prog 29 #[va, vb] w fun e w' => ∃ u, e = .returned (.tuple #[u, .int .i64 (sbC xs ys)]) ∧ Lst w' u (sbD xs ys) ∧ Q w w' := by
  by_cases h : Dm.num xs < Dm.num ys
  · refine (Dw.sub_less va vb xs ys w hv hu (by omega) (by omega) hx hy h).mono ?_
    rintro e w' ⟨rfl, hq⟩
    refine ⟨.slice none 0 0, by unfold sbC; rw [if_pos h], ?_, hq⟩
    unfold sbD
    rw [if_pos h]
    exact .nil _ _ _ (by unfold maxLen; omega) (fun _ => rfl)
  · refine (Dw.sub_any va vb xs ys w hv hu hl hl2 hx hy (by omega)).mono ?_
    rintro e w' ⟨u, rfl, hu, hq⟩
    exact ⟨u, by unfold sbC; rw [if_neg h], by unfold sbD; rw [if_neg h]; exact hu, hq⟩
theorem subRaw (va vb : Value) (xs ys : List Int) (w : World) (hv : Lst w va xs) (hu : Lst w vb ys) (hl : xs.length < 1000000) (hl2 : ys.length < 1000000) :
    Calls Try.prog 29 #[va, vb] w fun e w' => ∃ u c, e = .returned (.tuple #[u, .int .i64 c]) ∧ ((Dm.okB xs && Dm.okB ys) = false → c = 1) ∧ ((Dm.okB xs && Dm.okB ys) = true → (c == 1) = false) ∧ Q w w' := by
  cases hb : Dm.okB xs && Dm.okB ys
  · refine (Dw.sub_bad va vb xs ys w hv hu (by omega) (by omega) hb).mono ?_
    rintro e w' ⟨rfl, hq⟩
    exact ⟨_, _, rfl, fun _ => rfl, fun h => Bool.noConfusion h, hq⟩
  · rw [Bool.and_eq_true] at hb
    refine (subR va vb xs ys w hv hu hl hl2 ((Dm.okB_iff _).1 hb.1) ((Dm.okB_iff _).1 hb.2)).mono ?_
    rintro e w' ⟨u, rfl, _, hq⟩
    refine ⟨_, _, rfl, fun h => Bool.noConfusion h, fun _ => ?_, hq⟩
    unfold sbC; split <;> rfl

set_option maxHeartbeats 8000000 in
set_option maxRecDepth 100000 in
theorem walk (w : World) (v0 : Value) (xs0 : List Int) (w0 : Lst w v0 xs0) (b0 : ∀ n ∈ xs0, -9223372036854775808 ≤ n ∧ n ≤ 9223372036854775807) (v1 : Value) (xs1 : List Int) (w1 : Lst w v1 xs1) (b1 : ∀ n ∈ xs1, -9223372036854775808 ≤ n ∧ n ≤ 9223372036854775807) :
    Calls Try.prog 7 #[v0, v1] w fun e w' => e = .returned (.bool true) ∧ Q w w' := by
  obtain ⟨ad0, cp0, rfl, hlc0, hcm0⟩ := w0.shape2
  unfold maxLen at hcm0
  have hbig0 : xs0.length ≤ 9223372036854775807 := by omega
  have G0 := Lib.hid (fun w' (q : Q w w') => Dr.good_any _ xs0 20 w' (w0.q q) hbig0 (by omega) b0)
  obtain ⟨n0, hn0⟩ : ∃ n : Nat, n = min xs0.length 20 := ⟨_, rfl⟩
  have hnl0 : n0 ≤ xs0.length := by omega
  have hr0 := w0.take n0 hnl0
  have ht0 : (xs0.take n0).length = n0 := by rw [List.length_take]; omega
  generalize xs0.take n0 = R0 at *
  have LR0 := Lib.hid (fun w' (q : Q w w') => hr0.q q)
  obtain ⟨l0, hl0⟩ : ∃ l, l = xs0.length := ⟨_, rfl⟩
  rw [← hl0] at hlc0 hnl0 hn0 G0 hbig0 ⊢
  have hcase0 : (l0 ≤ 20 ∧ l0 = n0) ∨ (20 < l0 ∧ n0 = 20) := by omega
  have hcn0 : n0 ≤ cp0 := by omega
  have HRL0 : R0.length < 1000000 := by omega
  have hX0 : (Dm.gdL xs0 20).length < 1000000 := by rw [Dm.gdL_len]; omega
  have hXM0 : (Dm.gdL xs0 20).length ≤ 20 := by rw [Dm.gdL_len]; omega
  have kX0 := Dm.gdL_ok xs0 20
  generalize Dm.gdL xs0 20 = X0 at *
  clear hn0 hl0 hr0 w0 b0 hbig0 ht0
  obtain ⟨ad1, cp1, rfl, hlc1, hcm1⟩ := w1.shape2
  unfold maxLen at hcm1
  have hbig1 : xs1.length ≤ 9223372036854775807 := by omega
  have G1 := Lib.hid (fun w' (q : Q w w') => Dr.good_any _ xs1 20 w' (w1.q q) hbig1 (by omega) b1)
  obtain ⟨n1, hn1⟩ : ∃ n : Nat, n = min xs1.length 20 := ⟨_, rfl⟩
  have hnl1 : n1 ≤ xs1.length := by omega
  have hr1 := w1.take n1 hnl1
  have ht1 : (xs1.take n1).length = n1 := by rw [List.length_take]; omega
  generalize xs1.take n1 = R1 at *
  have LR1 := Lib.hid (fun w' (q : Q w w') => hr1.q q)
  obtain ⟨l1, hl1⟩ : ∃ l, l = xs1.length := ⟨_, rfl⟩
  rw [← hl1] at hlc1 hnl1 hn1 G1 hbig1 ⊢
  have hcase1 : (l1 ≤ 20 ∧ l1 = n1) ∨ (20 < l1 ∧ n1 = 20) := by omega
  have hcn1 : n1 ≤ cp1 := by omega
  have HRL1 : R1.length < 1000000 := by omega
  have hX1 : (Dm.gdL xs1 20).length < 1000000 := by rw [Dm.gdL_len]; omega
  have hXM1 : (Dm.gdL xs1 20).length ≤ 20 := by rw [Dm.gdL_len]; omega
  have kX1 := Dm.gdL_ok xs1 20
  generalize Dm.gdL xs1 20 = X1 at *
  clear hn1 hl1 hr1 w1 b1 hbig1 ht1
  have b0 := Dm.num_lt X0 kX0
  have b0' : Dm.num X0 < 10 ^ 20 := Nat.lt_of_lt_of_le b0 (Nat.pow_le_pow_right (by omega) hXM0)
  have b1 := Dm.num_lt X1 kX1
  have b1' : Dm.num X1 < 10 ^ 20 := Nat.lt_of_lt_of_le b1 (Nat.pow_le_pow_right (by omega) hXM1)
  have d1 := Dm.dg_len_lt (Dm.num X0 + Dm.num X1) 40 (by omega)
  have d2 := Dm.dg_len_lt (Dm.num X0) 40 (by omega)
  have d3 := Dm.dg_len_lt (Dm.num X0 - Dm.num X1) 40 (by omega)
  have SB := Lib.hid (fun va vb w h1 h2 => subR va vb X0 X1 w h1 h2 hX0 hX1 kX0 kX1)
  have CC := Lib.hid (fun va vb w h1 h2 => Dr.compare_any va vb X0 X1 w h1 h2 hX0 hX1 kX0 kX1)
  have SU := Lib.hid (fun w va vb h1 h2 => Dw.sum_two (w := w) (va := va) (vb := vb) (xs := X0) (ys := X1) h1 h2 hX0 hX1 kX0 kX1)
  have s2 := fun va vb w h1 h2 => Dw.sub_any va vb (Dm.dg (Dm.num X0 + Dm.num X1)) X1 w h1 h2 (by omega) hX1 (Dm.okD_dg _) kX1 (by rw [Dm.num_dg]; omega)
  rw [Dm.num_dg, Nat.add_sub_cancel] at s2
  have S2 := Lib.hid s2
  have tr := fun v w h => Dr.trim_any v X0 w h (by omega)
  rw [Dm.trim_eq X0 kX0] at tr
  have TR := Lib.hid tr
  have SM := Lib.hid (fun va vb w h1 h2 => Ur.same_any va vb (Dm.dg (Dm.num X0)) (Dm.dg (Dm.num X0)) w h1 h2 (by omega) (by omega))
  have SR := Lib.hid (fun va vb w h1 h2 => subRaw va vb R0 R1 w h1 h2 HRL0 HRL1)
  have M1 := Lib.hid (fun v w h => Dr.may_any v R0 w h (by omega))
  have M2 := Lib.hid (fun v w h => Dr.may_any v R1 w h (by omega))
  have LE := Lib.hid (fun va vb w h1 h2 (hge : Dm.num X1 ≤ Dm.num X0) => Dr.less_any va vb X0 X1 w h1 h2 hX0 hX1 kX0 kX1 hge)
  have SL := Lib.hid (fun va vb w h1 h2 => Ur.same_any va vb (Dm.dg (Dm.num X0 - Dm.num X1)) (Dm.dg (Dm.num X0 - Dm.num X1)) w h1 h2 (by omega) (by omega))
  simp only [decide_true] at SM SL
  have HLT := Lib.hid (show (Dm.num X0 < Dm.num X1 ∧ Dm.cmpZ (Dm.num X0) (Dm.num X1) = -1 ∧ sbC X0 X1 = 3 ∧ sbD X0 X1 = []) ∨ (Dm.num X1 ≤ Dm.num X0 ∧ ¬ Dm.cmpZ (Dm.num X0) (Dm.num X1) < 0 ∧ sbC X0 X1 = 0 ∧ sbD X0 X1 = Dm.dg (Dm.num X0 - Dm.num X1)) from by
    by_cases h : Dm.num X0 < Dm.num X1
    · exact .inl ⟨h, Dm.cmpZ_lt (by omega), by unfold sbC; rw [if_pos h], by unfold sbD; rw [if_pos h]⟩
    · exact .inr ⟨by omega, by rw [Dm.cmpZ_neg1]; omega, by unfold sbC; rw [if_neg h], by unfold sbD; rw [if_neg h]⟩)
  generalize Dm.cmpZ (Dm.num X0) (Dm.num X1) = cc at *
  generalize sbC X0 X1 = C at *
  generalize sbD X0 X1 = D at *
  generalize Dm.dg (Dm.num X0 + Dm.num X1) = S at *
  generalize Dm.dg (Dm.num X0) = T at *
  generalize Dm.dg (Dm.num X0 - Dm.num X1) = E at *
  generalize Dm.okB R0 = r0 at *
  generalize Dm.okB R1 = r1 at *
  have LV := Lib.hid Dw.lives_any
  clear s2 tr b0 b0' b1 b1' d1 d2 d3 hX0 hX1 kX0 kX1 HRL0 HRL1
  rcases hcase0 with ⟨g1, rfl⟩ | ⟨g1, rfl⟩ <;> rcases hcase1 with ⟨g2, rfl⟩ | ⟨g2, rfl⟩
  all_goals
    go_enter Try.func7, Try.ntmps7
    have Q0 := Lib.hid (Q.refl w)
    go_wp2_with fail
    refine (G0.out _ Q0.out).mono ?_
    rintro e z1 ⟨u_x, rfl, hu, hq⟩
    have L1_R := Lib.hid (fun w' (q : Q z1 w') => LR0.out w' (hq.trans q))
    clear LR0
    have L1_P := Lib.hid (fun w' (q : Q z1 w') => LR1.out w' (hq.trans q))
    clear LR1
    have L1_x := Lib.hid (fun w' (q : Q z1 w') => Lst.q hu.lst q)
    clear hu
    obtain ⟨a_x, c_x, hs⟩ := (L1_x.out _ (Q.refl _)).shape
    subst hs
    have Q1 := Lib.hid (Q0.out.trans hq)
    clear hq Q0
    go_wp2_with fail
    refine (G1.out _ Q1.out).mono ?_
    rintro e z2 ⟨u_y, rfl, hu, hq⟩
    have L2_R := Lib.hid (fun w' (q : Q z2 w') => L1_R.out w' (hq.trans q))
    clear L1_R
    have L2_P := Lib.hid (fun w' (q : Q z2 w') => L1_P.out w' (hq.trans q))
    clear L1_P
    have L2_x := Lib.hid (fun w' (q : Q z2 w') => L1_x.out w' (hq.trans q))
    clear L1_x
    have L2_y := Lib.hid (fun w' (q : Q z2 w') => Lst.q hu.lst q)
    clear hu
    obtain ⟨a_y, c_y, hs⟩ := (L2_y.out _ (Q.refl _)).shape
    subst hs
    have Q2 := Lib.hid (Q1.out.trans hq)
    clear hq Q1
    go_wp2_with fail
    refine (SB.out _ _ _ (L2_x.out _ (Q.refl _)) (L2_y.out _ (Q.refl _))).mono ?_
    rintro e z3 ⟨u_d, rfl, hu, hq⟩
    have L3_R := Lib.hid (fun w' (q : Q z3 w') => L2_R.out w' (hq.trans q))
    clear L2_R
    have L3_P := Lib.hid (fun w' (q : Q z3 w') => L2_P.out w' (hq.trans q))
    clear L2_P
    have L3_x := Lib.hid (fun w' (q : Q z3 w') => L2_x.out w' (hq.trans q))
    clear L2_x
    have L3_y := Lib.hid (fun w' (q : Q z3 w') => L2_y.out w' (hq.trans q))
    clear L2_y
    have L3_d := Lib.hid (fun w' (q : Q z3 w') => Lst.q hu q)
    clear hu
    have Q3 := Lib.hid (Q2.out.trans hq)
    clear hq Q2
    go_wp2_with fail
    refine (CC.out _ _ _ (L3_x.out _ (Q.refl _)) (L3_y.out _ (Q.refl _))).mono ?_
    rintro e z4 ⟨rfl, hq⟩
    have L4_R := Lib.hid (fun w' (q : Q z4 w') => L3_R.out w' (hq.trans q))
    clear L3_R
    have L4_P := Lib.hid (fun w' (q : Q z4 w') => L3_P.out w' (hq.trans q))
    clear L3_P
    have L4_x := Lib.hid (fun w' (q : Q z4 w') => L3_x.out w' (hq.trans q))
    clear L3_x
    have L4_y := Lib.hid (fun w' (q : Q z4 w') => L3_y.out w' (hq.trans q))
    clear L3_y
    have L4_d := Lib.hid (fun w' (q : Q z4 w') => L3_d.out w' (hq.trans q))
    clear L3_d
    have Q4 := Lib.hid (Q3.out.trans hq)
    clear hq Q3
    go_wp2_with fail
    refine (SU.out _ _ _ (L4_x.out _ (Q.refl _)) (L4_y.out _ (Q.refl _))).mono ?_
    rintro e z5 ⟨u_s, rfl, hu, hq⟩
    have L5_R := Lib.hid (fun w' (q : Q z5 w') => L4_R.out w' (hq.trans q))
    clear L4_R
    have L5_P := Lib.hid (fun w' (q : Q z5 w') => L4_P.out w' (hq.trans q))
    clear L4_P
    have L5_x := Lib.hid (fun w' (q : Q z5 w') => L4_x.out w' (hq.trans q))
    clear L4_x
    have L5_y := Lib.hid (fun w' (q : Q z5 w') => L4_y.out w' (hq.trans q))
    clear L4_y
    have L5_d := Lib.hid (fun w' (q : Q z5 w') => L4_d.out w' (hq.trans q))
    clear L4_d
    have L5_s := Lib.hid (fun w' (q : Q z5 w') => Lst.q hu q)
    clear hu
    have Q5 := Lib.hid (Q4.out.trans hq)
    clear hq Q4
    go_wp2_with fail
    refine (S2.out _ _ _ (L5_s.out _ (Q.refl _)) (L5_y.out _ (Q.refl _))).mono ?_
    rintro e z6 ⟨u_b, rfl, hu, hq⟩
    have L6_R := Lib.hid (fun w' (q : Q z6 w') => L5_R.out w' (hq.trans q))
    clear L5_R
    have L6_P := Lib.hid (fun w' (q : Q z6 w') => L5_P.out w' (hq.trans q))
    clear L5_P
    have L6_x := Lib.hid (fun w' (q : Q z6 w') => L5_x.out w' (hq.trans q))
    clear L5_x
    have L6_y := Lib.hid (fun w' (q : Q z6 w') => L5_y.out w' (hq.trans q))
    clear L5_y
    have L6_d := Lib.hid (fun w' (q : Q z6 w') => L5_d.out w' (hq.trans q))
    clear L5_d
    have L6_s := Lib.hid (fun w' (q : Q z6 w') => L5_s.out w' (hq.trans q))
    clear L5_s
    have L6_b := Lib.hid (fun w' (q : Q z6 w') => Lst.q hu q)
    clear hu
    have Q6 := Lib.hid (Q5.out.trans hq)
    clear hq Q5
    go_wp2_with fail
    refine (SR.out _ _ _ (L6_R.out _ (Q.refl _)) (L6_P.out _ (Q.refl _))).mono ?_
    rintro e z7 ⟨u_r, h_c, rfl, hc1, hc2, hq⟩
    have L7_R := Lib.hid (fun w' (q : Q z7 w') => L6_R.out w' (hq.trans q))
    clear L6_R
    have L7_P := Lib.hid (fun w' (q : Q z7 w') => L6_P.out w' (hq.trans q))
    clear L6_P
    have L7_x := Lib.hid (fun w' (q : Q z7 w') => L6_x.out w' (hq.trans q))
    clear L6_x
    have L7_y := Lib.hid (fun w' (q : Q z7 w') => L6_y.out w' (hq.trans q))
    clear L6_y
    have L7_d := Lib.hid (fun w' (q : Q z7 w') => L6_d.out w' (hq.trans q))
    clear L6_d
    have L7_s := Lib.hid (fun w' (q : Q z7 w') => L6_s.out w' (hq.trans q))
    clear L6_s
    have L7_b := Lib.hid (fun w' (q : Q z7 w') => L6_b.out w' (hq.trans q))
    clear L6_b
    have Q7 := Lib.hid (Q6.out.trans hq)
    clear hq Q6
    have HC1 := Lib.hid hc1
    have HC2 := Lib.hid hc2
    clear hc1 hc2
    cases r0
    · have hc : h_c = 1 := HC1.out rfl
      subst hc
      go_wp2_with fail
      refine (M1.out _ _ (L7_R.out _ (Q.refl _))).mono ?_
      rintro e y0 ⟨rfl, rfl⟩
      go_wp2_with fail
      refine (TR.out _ _ (L7_x.out _ (Q.refl _))).mono ?_
      rintro e z8 ⟨u_t, rfl, hu, hq⟩
      have L8_R := Lib.hid (fun w' (q : Q z8 w') => L7_R.out w' (hq.trans q))
      clear L7_R
      have L8_P := Lib.hid (fun w' (q : Q z8 w') => L7_P.out w' (hq.trans q))
      clear L7_P
      have L8_x := Lib.hid (fun w' (q : Q z8 w') => L7_x.out w' (hq.trans q))
      clear L7_x
      have L8_y := Lib.hid (fun w' (q : Q z8 w') => L7_y.out w' (hq.trans q))
      clear L7_y
      have L8_d := Lib.hid (fun w' (q : Q z8 w') => L7_d.out w' (hq.trans q))
      clear L7_d
      have L8_s := Lib.hid (fun w' (q : Q z8 w') => L7_s.out w' (hq.trans q))
      clear L7_s
      have L8_b := Lib.hid (fun w' (q : Q z8 w') => L7_b.out w' (hq.trans q))
      clear L7_b
      have L8_t := Lib.hid (fun w' (q : Q z8 w') => Lst.q hu.lst q)
      clear hu
      have Q8 := Lib.hid (Q7.out.trans hq)
      clear hq Q7
      go_wp2_with fail
      refine (SM.out _ _ _ (L8_b.out _ (Q.refl _)) (L8_t.out _ (Q.refl _))).mono ?_
      rintro e z9 ⟨rfl, hq⟩
      have L9_R := Lib.hid (fun w' (q : Q z9 w') => L8_R.out w' (hq.trans q))
      clear L8_R
      have L9_P := Lib.hid (fun w' (q : Q z9 w') => L8_P.out w' (hq.trans q))
      clear L8_P
      have L9_x := Lib.hid (fun w' (q : Q z9 w') => L8_x.out w' (hq.trans q))
      clear L8_x
      have L9_y := Lib.hid (fun w' (q : Q z9 w') => L8_y.out w' (hq.trans q))
      clear L8_y
      have L9_d := Lib.hid (fun w' (q : Q z9 w') => L8_d.out w' (hq.trans q))
      clear L8_d
      have L9_s := Lib.hid (fun w' (q : Q z9 w') => L8_s.out w' (hq.trans q))
      clear L8_s
      have L9_b := Lib.hid (fun w' (q : Q z9 w') => L8_b.out w' (hq.trans q))
      clear L8_b
      have L9_t := Lib.hid (fun w' (q : Q z9 w') => L8_t.out w' (hq.trans q))
      clear L8_t
      have Q9 := Lib.hid (Q8.out.trans hq)
      clear hq Q8
      rcases HLT.out with ⟨hlt, hcc, hC, hD⟩ | ⟨hge, hcc, hC, hD⟩
      · subst hcc
        subst hC
        have hd := (L9_d.out _ (Q.refl _))
        rw [hD] at hd
        obtain ⟨a_d, c_d, hde, _, _⟩ := hd.form0 (n := 0) rfl
        subst hde
        clear hd hD hlt
        go_wp2_with fail
        refine (LV.out _).mono ?_
        rintro e z10 ⟨rfl, hq⟩
        have L10_R := Lib.hid (fun w' (q : Q z10 w') => L9_R.out w' (hq.trans q))
        clear L9_R
        have L10_P := Lib.hid (fun w' (q : Q z10 w') => L9_P.out w' (hq.trans q))
        clear L9_P
        have L10_x := Lib.hid (fun w' (q : Q z10 w') => L9_x.out w' (hq.trans q))
        clear L9_x
        have L10_y := Lib.hid (fun w' (q : Q z10 w') => L9_y.out w' (hq.trans q))
        clear L9_y
        have L10_d := Lib.hid (fun w' (q : Q z10 w') => L9_d.out w' (hq.trans q))
        clear L9_d
        have L10_s := Lib.hid (fun w' (q : Q z10 w') => L9_s.out w' (hq.trans q))
        clear L9_s
        have L10_b := Lib.hid (fun w' (q : Q z10 w') => L9_b.out w' (hq.trans q))
        clear L9_b
        have L10_t := Lib.hid (fun w' (q : Q z10 w') => L9_t.out w' (hq.trans q))
        clear L9_t
        have Q10 := Lib.hid (Q9.out.trans hq)
        clear hq Q9
        go_wp2_with fail
        go_ret
        exact ⟨rfl, Q10.out⟩
      · subst hC
        have LE2 := Lib.hid (fun va vb w h1 h2 => LE.out va vb w h1 h2 hge)
        have LD2 := Lib.hid (fun w' (q : Q z9 w') => (by have e := L9_d.out w' q; rwa [hD] at e : Lst w' _ E))
        clear hge hD
        go_wp2_with fail
        refine (LE2.out _ _ _ (L9_x.out _ (Q.refl _)) (L9_y.out _ (Q.refl _))).mono ?_
        rintro e z10 ⟨u_l, rfl, hu, hq⟩
        have L10_R := Lib.hid (fun w' (q : Q z10 w') => L9_R.out w' (hq.trans q))
        clear L9_R
        have L10_P := Lib.hid (fun w' (q : Q z10 w') => L9_P.out w' (hq.trans q))
        clear L9_P
        have L10_x := Lib.hid (fun w' (q : Q z10 w') => L9_x.out w' (hq.trans q))
        clear L9_x
        have L10_y := Lib.hid (fun w' (q : Q z10 w') => L9_y.out w' (hq.trans q))
        clear L9_y
        have L10_d := Lib.hid (fun w' (q : Q z10 w') => LD2.out w' (hq.trans q))
        clear LD2
        have L10_s := Lib.hid (fun w' (q : Q z10 w') => L9_s.out w' (hq.trans q))
        clear L9_s
        have L10_b := Lib.hid (fun w' (q : Q z10 w') => L9_b.out w' (hq.trans q))
        clear L9_b
        have L10_t := Lib.hid (fun w' (q : Q z10 w') => L9_t.out w' (hq.trans q))
        clear L9_t
        have L10_l := Lib.hid (fun w' (q : Q z10 w') => Lst.q hu.lst q)
        clear hu
        have Q10 := Lib.hid (Q9.out.trans hq)
        clear hq Q9
        go_wp2_with fail
        refine (SL.out _ _ _ (L10_d.out _ (Q.refl _)) (L10_l.out _ (Q.refl _))).mono ?_
        rintro e z11 ⟨rfl, hq⟩
        have L11_R := Lib.hid (fun w' (q : Q z11 w') => L10_R.out w' (hq.trans q))
        clear L10_R
        have L11_P := Lib.hid (fun w' (q : Q z11 w') => L10_P.out w' (hq.trans q))
        clear L10_P
        have L11_x := Lib.hid (fun w' (q : Q z11 w') => L10_x.out w' (hq.trans q))
        clear L10_x
        have L11_y := Lib.hid (fun w' (q : Q z11 w') => L10_y.out w' (hq.trans q))
        clear L10_y
        have L11_d := Lib.hid (fun w' (q : Q z11 w') => L10_d.out w' (hq.trans q))
        clear L10_d
        have L11_s := Lib.hid (fun w' (q : Q z11 w') => L10_s.out w' (hq.trans q))
        clear L10_s
        have L11_b := Lib.hid (fun w' (q : Q z11 w') => L10_b.out w' (hq.trans q))
        clear L10_b
        have L11_t := Lib.hid (fun w' (q : Q z11 w') => L10_t.out w' (hq.trans q))
        clear L10_t
        have L11_l := Lib.hid (fun w' (q : Q z11 w') => L10_l.out w' (hq.trans q))
        clear L10_l
        have Q11 := Lib.hid (Q10.out.trans hq)
        clear hq Q10
        go_wp2_with fail
        refine (LV.out _).mono ?_
        rintro e z12 ⟨rfl, hq⟩
        have L12_R := Lib.hid (fun w' (q : Q z12 w') => L11_R.out w' (hq.trans q))
        clear L11_R
        have L12_P := Lib.hid (fun w' (q : Q z12 w') => L11_P.out w' (hq.trans q))
        clear L11_P
        have L12_x := Lib.hid (fun w' (q : Q z12 w') => L11_x.out w' (hq.trans q))
        clear L11_x
        have L12_y := Lib.hid (fun w' (q : Q z12 w') => L11_y.out w' (hq.trans q))
        clear L11_y
        have L12_d := Lib.hid (fun w' (q : Q z12 w') => L11_d.out w' (hq.trans q))
        clear L11_d
        have L12_s := Lib.hid (fun w' (q : Q z12 w') => L11_s.out w' (hq.trans q))
        clear L11_s
        have L12_b := Lib.hid (fun w' (q : Q z12 w') => L11_b.out w' (hq.trans q))
        clear L11_b
        have L12_t := Lib.hid (fun w' (q : Q z12 w') => L11_t.out w' (hq.trans q))
        clear L11_t
        have L12_l := Lib.hid (fun w' (q : Q z12 w') => L11_l.out w' (hq.trans q))
        clear L11_l
        have Q12 := Lib.hid (Q11.out.trans hq)
        clear hq Q11
        go_wp2_with fail
        go_ret
        exact ⟨rfl, Q12.out⟩
    · cases r1
      · have hc : h_c = 1 := HC1.out rfl
        subst hc
        go_wp2_with fail
        refine (M1.out _ _ (L7_R.out _ (Q.refl _))).mono ?_
        rintro e y0 ⟨rfl, rfl⟩
        go_wp2_with fail
        refine (M2.out _ _ (L7_P.out _ (Q.refl _))).mono ?_
        rintro e y1 ⟨rfl, rfl⟩
        go_wp2_with fail
        refine (TR.out _ _ (L7_x.out _ (Q.refl _))).mono ?_
        rintro e z8 ⟨u_t, rfl, hu, hq⟩
        have L8_R := Lib.hid (fun w' (q : Q z8 w') => L7_R.out w' (hq.trans q))
        clear L7_R
        have L8_P := Lib.hid (fun w' (q : Q z8 w') => L7_P.out w' (hq.trans q))
        clear L7_P
        have L8_x := Lib.hid (fun w' (q : Q z8 w') => L7_x.out w' (hq.trans q))
        clear L7_x
        have L8_y := Lib.hid (fun w' (q : Q z8 w') => L7_y.out w' (hq.trans q))
        clear L7_y
        have L8_d := Lib.hid (fun w' (q : Q z8 w') => L7_d.out w' (hq.trans q))
        clear L7_d
        have L8_s := Lib.hid (fun w' (q : Q z8 w') => L7_s.out w' (hq.trans q))
        clear L7_s
        have L8_b := Lib.hid (fun w' (q : Q z8 w') => L7_b.out w' (hq.trans q))
        clear L7_b
        have L8_t := Lib.hid (fun w' (q : Q z8 w') => Lst.q hu.lst q)
        clear hu
        have Q8 := Lib.hid (Q7.out.trans hq)
        clear hq Q7
        go_wp2_with fail
        refine (SM.out _ _ _ (L8_b.out _ (Q.refl _)) (L8_t.out _ (Q.refl _))).mono ?_
        rintro e z9 ⟨rfl, hq⟩
        have L9_R := Lib.hid (fun w' (q : Q z9 w') => L8_R.out w' (hq.trans q))
        clear L8_R
        have L9_P := Lib.hid (fun w' (q : Q z9 w') => L8_P.out w' (hq.trans q))
        clear L8_P
        have L9_x := Lib.hid (fun w' (q : Q z9 w') => L8_x.out w' (hq.trans q))
        clear L8_x
        have L9_y := Lib.hid (fun w' (q : Q z9 w') => L8_y.out w' (hq.trans q))
        clear L8_y
        have L9_d := Lib.hid (fun w' (q : Q z9 w') => L8_d.out w' (hq.trans q))
        clear L8_d
        have L9_s := Lib.hid (fun w' (q : Q z9 w') => L8_s.out w' (hq.trans q))
        clear L8_s
        have L9_b := Lib.hid (fun w' (q : Q z9 w') => L8_b.out w' (hq.trans q))
        clear L8_b
        have L9_t := Lib.hid (fun w' (q : Q z9 w') => L8_t.out w' (hq.trans q))
        clear L8_t
        have Q9 := Lib.hid (Q8.out.trans hq)
        clear hq Q8
        rcases HLT.out with ⟨hlt, hcc, hC, hD⟩ | ⟨hge, hcc, hC, hD⟩
        · subst hcc
          subst hC
          have hd := (L9_d.out _ (Q.refl _))
          rw [hD] at hd
          obtain ⟨a_d, c_d, hde, _, _⟩ := hd.form0 (n := 0) rfl
          subst hde
          clear hd hD hlt
          go_wp2_with fail
          refine (LV.out _).mono ?_
          rintro e z10 ⟨rfl, hq⟩
          have L10_R := Lib.hid (fun w' (q : Q z10 w') => L9_R.out w' (hq.trans q))
          clear L9_R
          have L10_P := Lib.hid (fun w' (q : Q z10 w') => L9_P.out w' (hq.trans q))
          clear L9_P
          have L10_x := Lib.hid (fun w' (q : Q z10 w') => L9_x.out w' (hq.trans q))
          clear L9_x
          have L10_y := Lib.hid (fun w' (q : Q z10 w') => L9_y.out w' (hq.trans q))
          clear L9_y
          have L10_d := Lib.hid (fun w' (q : Q z10 w') => L9_d.out w' (hq.trans q))
          clear L9_d
          have L10_s := Lib.hid (fun w' (q : Q z10 w') => L9_s.out w' (hq.trans q))
          clear L9_s
          have L10_b := Lib.hid (fun w' (q : Q z10 w') => L9_b.out w' (hq.trans q))
          clear L9_b
          have L10_t := Lib.hid (fun w' (q : Q z10 w') => L9_t.out w' (hq.trans q))
          clear L9_t
          have Q10 := Lib.hid (Q9.out.trans hq)
          clear hq Q9
          go_wp2_with fail
          go_ret
          exact ⟨rfl, Q10.out⟩
        · subst hC
          have LE2 := Lib.hid (fun va vb w h1 h2 => LE.out va vb w h1 h2 hge)
          have LD2 := Lib.hid (fun w' (q : Q z9 w') => (by have e := L9_d.out w' q; rwa [hD] at e : Lst w' _ E))
          clear hge hD
          go_wp2_with fail
          refine (LE2.out _ _ _ (L9_x.out _ (Q.refl _)) (L9_y.out _ (Q.refl _))).mono ?_
          rintro e z10 ⟨u_l, rfl, hu, hq⟩
          have L10_R := Lib.hid (fun w' (q : Q z10 w') => L9_R.out w' (hq.trans q))
          clear L9_R
          have L10_P := Lib.hid (fun w' (q : Q z10 w') => L9_P.out w' (hq.trans q))
          clear L9_P
          have L10_x := Lib.hid (fun w' (q : Q z10 w') => L9_x.out w' (hq.trans q))
          clear L9_x
          have L10_y := Lib.hid (fun w' (q : Q z10 w') => L9_y.out w' (hq.trans q))
          clear L9_y
          have L10_d := Lib.hid (fun w' (q : Q z10 w') => LD2.out w' (hq.trans q))
          clear LD2
          have L10_s := Lib.hid (fun w' (q : Q z10 w') => L9_s.out w' (hq.trans q))
          clear L9_s
          have L10_b := Lib.hid (fun w' (q : Q z10 w') => L9_b.out w' (hq.trans q))
          clear L9_b
          have L10_t := Lib.hid (fun w' (q : Q z10 w') => L9_t.out w' (hq.trans q))
          clear L9_t
          have L10_l := Lib.hid (fun w' (q : Q z10 w') => Lst.q hu.lst q)
          clear hu
          have Q10 := Lib.hid (Q9.out.trans hq)
          clear hq Q9
          go_wp2_with fail
          refine (SL.out _ _ _ (L10_d.out _ (Q.refl _)) (L10_l.out _ (Q.refl _))).mono ?_
          rintro e z11 ⟨rfl, hq⟩
          have L11_R := Lib.hid (fun w' (q : Q z11 w') => L10_R.out w' (hq.trans q))
          clear L10_R
          have L11_P := Lib.hid (fun w' (q : Q z11 w') => L10_P.out w' (hq.trans q))
          clear L10_P
          have L11_x := Lib.hid (fun w' (q : Q z11 w') => L10_x.out w' (hq.trans q))
          clear L10_x
          have L11_y := Lib.hid (fun w' (q : Q z11 w') => L10_y.out w' (hq.trans q))
          clear L10_y
          have L11_d := Lib.hid (fun w' (q : Q z11 w') => L10_d.out w' (hq.trans q))
          clear L10_d
          have L11_s := Lib.hid (fun w' (q : Q z11 w') => L10_s.out w' (hq.trans q))
          clear L10_s
          have L11_b := Lib.hid (fun w' (q : Q z11 w') => L10_b.out w' (hq.trans q))
          clear L10_b
          have L11_t := Lib.hid (fun w' (q : Q z11 w') => L10_t.out w' (hq.trans q))
          clear L10_t
          have L11_l := Lib.hid (fun w' (q : Q z11 w') => L10_l.out w' (hq.trans q))
          clear L10_l
          have Q11 := Lib.hid (Q10.out.trans hq)
          clear hq Q10
          go_wp2_with fail
          refine (LV.out _).mono ?_
          rintro e z12 ⟨rfl, hq⟩
          have L12_R := Lib.hid (fun w' (q : Q z12 w') => L11_R.out w' (hq.trans q))
          clear L11_R
          have L12_P := Lib.hid (fun w' (q : Q z12 w') => L11_P.out w' (hq.trans q))
          clear L11_P
          have L12_x := Lib.hid (fun w' (q : Q z12 w') => L11_x.out w' (hq.trans q))
          clear L11_x
          have L12_y := Lib.hid (fun w' (q : Q z12 w') => L11_y.out w' (hq.trans q))
          clear L11_y
          have L12_d := Lib.hid (fun w' (q : Q z12 w') => L11_d.out w' (hq.trans q))
          clear L11_d
          have L12_s := Lib.hid (fun w' (q : Q z12 w') => L11_s.out w' (hq.trans q))
          clear L11_s
          have L12_b := Lib.hid (fun w' (q : Q z12 w') => L11_b.out w' (hq.trans q))
          clear L11_b
          have L12_t := Lib.hid (fun w' (q : Q z12 w') => L11_t.out w' (hq.trans q))
          clear L11_t
          have L12_l := Lib.hid (fun w' (q : Q z12 w') => L11_l.out w' (hq.trans q))
          clear L11_l
          have Q12 := Lib.hid (Q11.out.trans hq)
          clear hq Q11
          go_wp2_with fail
          go_ret
          exact ⟨rfl, Q12.out⟩
      · have hc : (h_c == 1) = false := HC2.out rfl
        go_wp2_with fail
        refine (M1.out _ _ (L7_R.out _ (Q.refl _))).mono ?_
        rintro e y0 ⟨rfl, rfl⟩
        go_wp2_with fail
        refine (M2.out _ _ (L7_P.out _ (Q.refl _))).mono ?_
        rintro e y1 ⟨rfl, rfl⟩
        go_wp2_with fail
        refine (TR.out _ _ (L7_x.out _ (Q.refl _))).mono ?_
        rintro e z8 ⟨u_t, rfl, hu, hq⟩
        have L8_R := Lib.hid (fun w' (q : Q z8 w') => L7_R.out w' (hq.trans q))
        clear L7_R
        have L8_P := Lib.hid (fun w' (q : Q z8 w') => L7_P.out w' (hq.trans q))
        clear L7_P
        have L8_x := Lib.hid (fun w' (q : Q z8 w') => L7_x.out w' (hq.trans q))
        clear L7_x
        have L8_y := Lib.hid (fun w' (q : Q z8 w') => L7_y.out w' (hq.trans q))
        clear L7_y
        have L8_d := Lib.hid (fun w' (q : Q z8 w') => L7_d.out w' (hq.trans q))
        clear L7_d
        have L8_s := Lib.hid (fun w' (q : Q z8 w') => L7_s.out w' (hq.trans q))
        clear L7_s
        have L8_b := Lib.hid (fun w' (q : Q z8 w') => L7_b.out w' (hq.trans q))
        clear L7_b
        have L8_t := Lib.hid (fun w' (q : Q z8 w') => Lst.q hu.lst q)
        clear hu
        have Q8 := Lib.hid (Q7.out.trans hq)
        clear hq Q7
        go_wp2_with fail
        refine (SM.out _ _ _ (L8_b.out _ (Q.refl _)) (L8_t.out _ (Q.refl _))).mono ?_
        rintro e z9 ⟨rfl, hq⟩
        have L9_R := Lib.hid (fun w' (q : Q z9 w') => L8_R.out w' (hq.trans q))
        clear L8_R
        have L9_P := Lib.hid (fun w' (q : Q z9 w') => L8_P.out w' (hq.trans q))
        clear L8_P
        have L9_x := Lib.hid (fun w' (q : Q z9 w') => L8_x.out w' (hq.trans q))
        clear L8_x
        have L9_y := Lib.hid (fun w' (q : Q z9 w') => L8_y.out w' (hq.trans q))
        clear L8_y
        have L9_d := Lib.hid (fun w' (q : Q z9 w') => L8_d.out w' (hq.trans q))
        clear L8_d
        have L9_s := Lib.hid (fun w' (q : Q z9 w') => L8_s.out w' (hq.trans q))
        clear L8_s
        have L9_b := Lib.hid (fun w' (q : Q z9 w') => L8_b.out w' (hq.trans q))
        clear L8_b
        have L9_t := Lib.hid (fun w' (q : Q z9 w') => L8_t.out w' (hq.trans q))
        clear L8_t
        have Q9 := Lib.hid (Q8.out.trans hq)
        clear hq Q8
        rcases HLT.out with ⟨hlt, hcc, hC, hD⟩ | ⟨hge, hcc, hC, hD⟩
        · subst hcc
          subst hC
          have hd := (L9_d.out _ (Q.refl _))
          rw [hD] at hd
          obtain ⟨a_d, c_d, hde, _, _⟩ := hd.form0 (n := 0) rfl
          subst hde
          clear hd hD hlt
          go_wp2_with fail
          refine (LV.out _).mono ?_
          rintro e z10 ⟨rfl, hq⟩
          have L10_R := Lib.hid (fun w' (q : Q z10 w') => L9_R.out w' (hq.trans q))
          clear L9_R
          have L10_P := Lib.hid (fun w' (q : Q z10 w') => L9_P.out w' (hq.trans q))
          clear L9_P
          have L10_x := Lib.hid (fun w' (q : Q z10 w') => L9_x.out w' (hq.trans q))
          clear L9_x
          have L10_y := Lib.hid (fun w' (q : Q z10 w') => L9_y.out w' (hq.trans q))
          clear L9_y
          have L10_d := Lib.hid (fun w' (q : Q z10 w') => L9_d.out w' (hq.trans q))
          clear L9_d
          have L10_s := Lib.hid (fun w' (q : Q z10 w') => L9_s.out w' (hq.trans q))
          clear L9_s
          have L10_b := Lib.hid (fun w' (q : Q z10 w') => L9_b.out w' (hq.trans q))
          clear L9_b
          have L10_t := Lib.hid (fun w' (q : Q z10 w') => L9_t.out w' (hq.trans q))
          clear L9_t
          have Q10 := Lib.hid (Q9.out.trans hq)
          clear hq Q9
          go_wp2_with fail
          go_ret
          exact ⟨rfl, Q10.out⟩
        · subst hC
          have LE2 := Lib.hid (fun va vb w h1 h2 => LE.out va vb w h1 h2 hge)
          have LD2 := Lib.hid (fun w' (q : Q z9 w') => (by have e := L9_d.out w' q; rwa [hD] at e : Lst w' _ E))
          clear hge hD
          go_wp2_with fail
          refine (LE2.out _ _ _ (L9_x.out _ (Q.refl _)) (L9_y.out _ (Q.refl _))).mono ?_
          rintro e z10 ⟨u_l, rfl, hu, hq⟩
          have L10_R := Lib.hid (fun w' (q : Q z10 w') => L9_R.out w' (hq.trans q))
          clear L9_R
          have L10_P := Lib.hid (fun w' (q : Q z10 w') => L9_P.out w' (hq.trans q))
          clear L9_P
          have L10_x := Lib.hid (fun w' (q : Q z10 w') => L9_x.out w' (hq.trans q))
          clear L9_x
          have L10_y := Lib.hid (fun w' (q : Q z10 w') => L9_y.out w' (hq.trans q))
          clear L9_y
          have L10_d := Lib.hid (fun w' (q : Q z10 w') => LD2.out w' (hq.trans q))
          clear LD2
          have L10_s := Lib.hid (fun w' (q : Q z10 w') => L9_s.out w' (hq.trans q))
          clear L9_s
          have L10_b := Lib.hid (fun w' (q : Q z10 w') => L9_b.out w' (hq.trans q))
          clear L9_b
          have L10_t := Lib.hid (fun w' (q : Q z10 w') => L9_t.out w' (hq.trans q))
          clear L9_t
          have L10_l := Lib.hid (fun w' (q : Q z10 w') => Lst.q hu.lst q)
          clear hu
          have Q10 := Lib.hid (Q9.out.trans hq)
          clear hq Q9
          go_wp2_with fail
          refine (SL.out _ _ _ (L10_d.out _ (Q.refl _)) (L10_l.out _ (Q.refl _))).mono ?_
          rintro e z11 ⟨rfl, hq⟩
          have L11_R := Lib.hid (fun w' (q : Q z11 w') => L10_R.out w' (hq.trans q))
          clear L10_R
          have L11_P := Lib.hid (fun w' (q : Q z11 w') => L10_P.out w' (hq.trans q))
          clear L10_P
          have L11_x := Lib.hid (fun w' (q : Q z11 w') => L10_x.out w' (hq.trans q))
          clear L10_x
          have L11_y := Lib.hid (fun w' (q : Q z11 w') => L10_y.out w' (hq.trans q))
          clear L10_y
          have L11_d := Lib.hid (fun w' (q : Q z11 w') => L10_d.out w' (hq.trans q))
          clear L10_d
          have L11_s := Lib.hid (fun w' (q : Q z11 w') => L10_s.out w' (hq.trans q))
          clear L10_s
          have L11_b := Lib.hid (fun w' (q : Q z11 w') => L10_b.out w' (hq.trans q))
          clear L10_b
          have L11_t := Lib.hid (fun w' (q : Q z11 w') => L10_t.out w' (hq.trans q))
          clear L10_t
          have L11_l := Lib.hid (fun w' (q : Q z11 w') => L10_l.out w' (hq.trans q))
          clear L10_l
          have Q11 := Lib.hid (Q10.out.trans hq)
          clear hq Q10
          go_wp2_with fail
          refine (LV.out _).mono ?_
          rintro e z12 ⟨rfl, hq⟩
          have L12_R := Lib.hid (fun w' (q : Q z12 w') => L11_R.out w' (hq.trans q))
          clear L11_R
          have L12_P := Lib.hid (fun w' (q : Q z12 w') => L11_P.out w' (hq.trans q))
          clear L11_P
          have L12_x := Lib.hid (fun w' (q : Q z12 w') => L11_x.out w' (hq.trans q))
          clear L11_x
          have L12_y := Lib.hid (fun w' (q : Q z12 w') => L11_y.out w' (hq.trans q))
          clear L11_y
          have L12_d := Lib.hid (fun w' (q : Q z12 w') => L11_d.out w' (hq.trans q))
          clear L11_d
          have L12_s := Lib.hid (fun w' (q : Q z12 w') => L11_s.out w' (hq.trans q))
          clear L11_s
          have L12_b := Lib.hid (fun w' (q : Q z12 w') => L11_b.out w' (hq.trans q))
          clear L11_b
          have L12_t := Lib.hid (fun w' (q : Q z12 w') => L11_t.out w' (hq.trans q))
          clear L11_t
          have L12_l := Lib.hid (fun w' (q : Q z12 w') => L11_l.out w' (hq.trans q))
          clear L11_l
          have Q12 := Lib.hid (Q11.out.trans hq)
          clear hq Q11
          go_wp2_with fail
          go_ret
          exact ⟨rfl, Q12.out⟩

set_option maxRecDepth 100000 in
theorem lifted (os : Os) (started : os.Started) (H : Type) (enc : TypeId × Value → H) :
    ReturnsInHanded {} Try.checked os 7 .any (Rows.digitSubsSpec.pre6 enc Try.prog Try.f7 Rows.digitSubsRow.domain false) (Rows.digitSubsSpec.post enc Try.prog Try.f7 false true false false) := by
  refine returnsInHanded_of_change (C := Try.checked) own started (by kernel_rfl) Try.func7
    (ChangeSpec.witness6 (enc := enc) (C := Try.checked) false ⟨#[], #[.slice none 0 0, .slice none 0 0], []⟩ 8 (by kernel_rfl) (by kernel_rfl) (by kernel_rfl) (by kernel_rfl)) ?_
  intro W base args ds gs before hval0 hW hcnd _
  have hval : ∀ (j : Nat) t v, Try.f7.params[j]? = some t → args[j]? = some v → Value.okWide Try.prog W .any base t v := hval0
  have hW' := hW
  obtain ⟨p, q, hA0, hV, rfl, hfz, hnd⟩ := hW
  have hA : DataW.TrodAll enc Try.prog W 0 (fun _ => true) true Try.f7.params.toList args.toList ds p := hA0
  rw [Try.params7] at hA hval
  obtain ⟨v0, vs0, d0, ds0, p0, q0, hargs, rfl, rfl, h0, r0⟩ := trodAll_cons hA
  obtain ⟨v1, vs1, d1, ds1, p1, q1, rfl, rfl, rfl, h1, r1⟩ := trodAll_cons r0
  obtain ⟨rfl, rfl, rfl⟩ := trodAll_nil r1
  obtain rfl : args = #[v0, v1] := by cases args; simp_all
  obtain ⟨rfl, rfl⟩ := trodVars_none hV
  obtain ⟨a0, len0, cap0, rfl⟩ := okWide_slice Try.underlying22 (hval 0 22 v0 rfl rfl)
  have k0 := h0
  have lt0 : ∀ x ∈ p0, x.block < W.heap.size := by obtain ⟨m, hm⟩ := k0; exact DataW.trod_lt m _ _ _ hm
  obtain ⟨z0, w0⟩ : ∃ zs, IsRow .i64 W a0 len0 cap0 zs := by
    obtain ⟨fuel, hf⟩ := h0
    rcases open_ints Try.underlying22 Try.underlying3 (by kernel_rfl) hf with ⟨hcs, _⟩ | ⟨x, l, c, zs, hcs, _, hl, hm, hz, _, hcell, hwz⟩
    · simp [Value.cells] at hcs
      obtain ⟨rfl, rfl, rfl⟩ := hcs
      exact ⟨[], .inl ⟨rfl, rfl, rfl, rfl⟩⟩
    · simp [Value.cells] at hcs
      obtain ⟨rfl, rfl, rfl⟩ := hcs
      exact ⟨zs, .inr ⟨_, rfl, hl, hm, by simpa using hz, hcell, hwz⟩⟩
  obtain ⟨xs0, l0, _, b0⟩ := w0.lst
  obtain ⟨a1, len1, cap1, rfl⟩ := okWide_slice Try.underlying22 (hval 1 22 v1 rfl rfl)
  have k1 := h1
  have lt1 : ∀ x ∈ p1, x.block < W.heap.size := by obtain ⟨m, hm⟩ := k1; exact DataW.trod_lt m _ _ _ hm
  obtain ⟨z1, w1⟩ : ∃ zs, IsRow .i64 W a1 len1 cap1 zs := by
    obtain ⟨fuel, hf⟩ := h1
    rcases open_ints Try.underlying22 Try.underlying3 (by kernel_rfl) hf with ⟨hcs, _⟩ | ⟨x, l, c, zs, hcs, _, hl, hm, hz, _, hcell, hwz⟩
    · simp [Value.cells] at hcs
      obtain ⟨rfl, rfl, rfl⟩ := hcs
      exact ⟨[], .inl ⟨rfl, rfl, rfl, rfl⟩⟩
    · simp [Value.cells] at hcs
      obtain ⟨rfl, rfl, rfl⟩ := hcs
      exact ⟨zs, .inr ⟨_, rfl, hl, hm, by simpa using hz, hcell, hwz⟩⟩
  obtain ⟨xs1, l1, _, b1⟩ := w1.lst
  clear hA0 hval0
  refine (walk W (.slice a0 len0 cap0) xs0 l0 b0 (.slice a1 len1 cap1) xs1 l1 b1).mono fun e W' ⟨he, bel⟩ => ?_
  subst he
  exact ⟨_, rfl, _, _, _, [], _, [], hW', trodAll_mk1 (shut_bool Try.underlying4 _), (trodAll_cons_mk (Below.trod laidOut (by kernel_rfl) (of_decide_eq_true (by kernel_rfl)) k0 bel lt0) (trodAll_cons_mk (Below.trod laidOut (by kernel_rfl) (of_decide_eq_true (by kernel_rfl)) k1 bel lt1) trodAll_mk0)), rfl, bel.below.frame _, fun h => by cases h⟩

/-- The statement. -/
theorem proved : Rows.DigitSubsSaid :=
  OpenClaim.holds_of_wide 7 Try.f7 rfl rfl rfl rfl rfl rfl rfl ⟨rfl, rfl, rfl, rfl, rfl⟩ rfl rfl rfl rfl rfl (by kernel_rfl) Try.func7 (by kernel_rfl)
    (of_decide_eq_true (by kernel_rfl)) (by unfold Func.isWrapper; first | (rw [if_pos (by decide +kernel)]; kernel_rfl) | (rw [if_neg (by decide +kernel)]; exact ⟨rfl, rfl⟩))
    (fun os started H enc _ => lifted os started H enc)
#print axioms proved
end Go.Proofs.Ytcdpgibemkbclaa.digitSubs
