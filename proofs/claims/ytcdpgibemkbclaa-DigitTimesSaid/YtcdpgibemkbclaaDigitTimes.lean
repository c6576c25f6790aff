/- DigitTimes: of whatever list (the first 20 numbers; raw, and made digits) and whatever number (raw, and made 0 to 1000), a number so many times is the document's, or refused, and once and once more it is so many times together; no conditions. -/
import Derived.Test.YtcdpgibemkbclaaRows
import Derived.WalkKit
import Derived.ProofKit
import Derived.OpenShut
import Derived.ShutString
import Derived.ChangeOld
import Derived.Below
import Derived.Test.YtcdpgibemkbclaaInts
import Derived.Test.YtcdpgibemkbclaaUtfM
import Derived.Test.YtcdpgibemkbclaaUtfG
import Derived.Test.YtcdpgibemkbclaaUtfR
import Derived.Test.YtcdpgibemkbclaaDigM
import Derived.Test.YtcdpgibemkbclaaDigL
import Derived.Test.YtcdpgibemkbclaaDigW
import Derived.Test.YtcdpgibemkbclaaDigR
import Derived.Test.YtcdpgibemkbclaaDigO
import Derived.Test.YtcdpgibemkbclaaDigX
import Derived.Test.YtcdpgibemkbclaaDigY
import Derived.Test.YtcdpgibemkbclaaDigQ
set_option linter.unusedVariables false
set_option linter.unusedSimpArgs false
namespace Go.Proofs.Ytcdpgibemkbclaa.digitTimes
open Go.ChangeShapes Go.WideShapes Go.ChangeAt Go.RowKit
open Go.ChangeMaps (open_string shut_string)

theorem own : ownKnob Try.prog.godebug = none := by kernel_rfl
theorem laidOut : laidOutB Try.prog = true := by kernel_rfl


set_option maxHeartbeats 4000000 in
set_option maxRecDepth 100000 in
theorem walk (w : World) (v0 : Value) (xs0 : List Int) (w0 : Lst w v0 xs0) (b0 : ∀ n ∈ xs0, -9223372036854775808 ≤ n ∧ n ≤ 9223372036854775807) (a1 : Int) (w1 : -9223372036854775808 ≤ a1 ∧ a1 ≤ 9223372036854775807) :
    Calls Try.prog 8 #[v0, .int .i64 a1] w fun e w' => e = .returned (.bool true) ∧ Q w w' := by
  obtain ⟨ad0, cp0, rfl, hlc0, hcm0⟩ := w0.shape2
  unfold maxLen at hcm0
  have hbig0 : xs0.length ≤ 9223372036854775807 := by omega
  have G0 := Lib.hid (fun w' (q : Q w w') => Dr.good_any _ xs0 20 w' (w0.q q) hbig0 (by omega) b0)
  obtain ⟨n0, hn0⟩ : ∃ n : Nat, n = min xs0.length 20 := ⟨_, rfl⟩
  have hnl0 : n0 ≤ xs0.length := by omega
  have hr0 := w0.take n0 hnl0
  have ht0 : (xs0.take n0).length = n0 := by rw [List.length_take]; omega
  generalize xs0.take n0 = R0 at *
  have LR0 := Lib.hid (fun w' (q : Q w w') => hr0.q q)
  obtain ⟨l0, hl0⟩ : ∃ l, l = xs0.length := ⟨_, rfl⟩
  rw [← hl0] at hlc0 hnl0 hn0 G0 hbig0 ⊢
  have hcase0 : (l0 ≤ 20 ∧ l0 = n0) ∨ (20 < l0 ∧ n0 = 20) := by omega
  have hcn0 : n0 ≤ cp0 := by omega
  have HRL0 : R0.length < 1000000 := by omega
  have hX0 : (Dm.gdL xs0 20).length < 1000000 := by rw [Dm.gdL_len]; omega
  have hXM0 : (Dm.gdL xs0 20).length ≤ 20 := by rw [Dm.gdL_len]; omega
  have kX0 := Dm.gdL_ok xs0 20
  generalize Dm.gdL xs0 20 = X0 at *
  clear hn0 hl0 hr0 w0 b0 hbig0 ht0
  have A0 := Lib.hid (fun w => Ur.around_any a1 1001 w w1.1 w1.2 (by omega) (by omega))
  have hab := Um.around_bd a1 1001 (by omega)
  obtain ⟨y, hy⟩ : ∃ y : Nat, Um.around a1 1001 = (y : Int) := ⟨(Um.around a1 1001).toNat, by omega⟩
  rw [hy] at A0 hab
  clear hy
  have hN := Dm.num_lt X0 kX0
  have hN2 : Dm.num X0 < 10 ^ 20 := Nat.lt_of_lt_of_le hN (Nat.pow_le_pow_right (by omega) hXM0)
  have hb1 : Dm.num X0 * y ≤ Dm.num X0 * 1000 := Nat.mul_le_mul_left _ (by omega)
  have hb2 : Dm.num X0 * (1000 - y) ≤ Dm.num X0 * 1000 := Nat.mul_le_mul_left _ (by omega)
  have hsum : Dm.num X0 * y + Dm.num X0 * (1000 - y) = Dm.num X0 * 1000 := by rw [← Nat.mul_add]; congr 1; omega
  have d1 := Dm.dg_len_lt (Dm.num X0 * y) 40 (by omega)
  have d2 := Dm.dg_len_lt (Dm.num X0 * (1000 - y)) 40 (by omega)
  have d3 := Dm.dg_len_lt (Dm.num X0 * 1000) 40 (by omega)
  have T1 := Lib.hid (fun v w h => Dw.times_any v X0 y w h hX0 kX0 (by omega))
  have t2 := fun v w h => Dw.times_any v X0 (1000 - y) w h hX0 kX0 (by omega)
  rw [show ((1000 - y : Nat) : Int) = 1000 - (y : Int) from by omega] at t2
  have T2 := Lib.hid t2
  have T3 := Lib.hid (fun v w h => (Dw.times_any v X0 1000 w h hX0 kX0 (by omega)))
  have T4 := Lib.hid (fun v w h => Dr.times_any v X0 y w h hX0 kX0 (by omega))
  have su := fun w va vb h1 h2 => Dw.sum_two (w := w) (va := va) (vb := vb) (xs := Dm.dg (Dm.num X0 * y)) (ys := Dm.dg (Dm.num X0 * (1000 - y))) h1 h2 (by omega) (by omega) (Dm.okD_dg _) (Dm.okD_dg _)
  rw [Dm.num_dg, Dm.num_dg, hsum] at su
  have SU := Lib.hid su
  have S1 := Lib.hid (fun va vb w h1 h2 => Ur.same_any va vb (Dm.dg (Dm.num X0 * y)) (Dm.dg (Dm.num X0 * y)) w h1 h2 (by omega) (by omega))
  have S2 := Lib.hid (fun va vb w h1 h2 => Ur.same_any va vb (Dm.dg (Dm.num X0 * 1000)) (Dm.dg (Dm.num X0 * 1000)) w h1 h2 (by omega) (by omega))
  simp only [decide_true] at S1 S2
  generalize Dm.dg (Dm.num X0 * y) = A at *
  generalize Dm.dg (Dm.num X0 * (1000 - y)) = B at *
  generalize Dm.dg (Dm.num X0 * 1000) = C at *
  have M1 := Lib.hid (fun v w h => Dr.may_any v R0 w h (by omega))
  have HB := Lib.hid (fun v w h hb => Dw.times_bad v R0 a1 w h (by omega) hb)
  have HR := Lib.hid (fun v w h hb hk => Dw.times_range v R0 a1 w h (by omega) hb hk)
  have HO := Lib.hid (fun v w h hb (m : Nat) (hm : m ≤ 1000) => Dw.times_any v R0 m w h HRL0 ((Dm.okB_iff R0).1 hb) hm)
  have LV := Lib.hid Dw.lives_any
  obtain ⟨hab1, hab2⟩ := hab
  obtain ⟨hw1, hw2⟩ := w1
  clear su t2 hsum hb1 hb2 hN hN2 d1 d2 d3 hX0 kX0 HRL0
  rcases hcase0 with ⟨g1, rfl⟩ | ⟨g1, rfl⟩
  all_goals
    go_enter Try.func8, Try.ntmps8
    have Q0 := Lib.hid (Q.refl w)
    go_wp2_with fail
    refine (G0.out _ Q0.out).mono ?_
    rintro e z1 ⟨u_X, rfl, hu, hq⟩
    have L1_R := Lib.hid (fun w' (q : Q z1 w') => LR0.out w' (hq.trans q))
    clear LR0
    have L1_X := Lib.hid (fun w' (q : Q z1 w') => Lst.q hu.lst q)
    clear hu
    have Q1 := Lib.hid (Q0.out.trans hq)
    clear hq Q0
    go_wp2_with fail
    refine (A0.out _).mono ?_
    rintro e y0 ⟨rfl, rfl⟩
    go_wp2_with fail
    refine (T1.out _ _ (L1_X.out _ (Q.refl _))).mono ?_
    rintro e z2 ⟨u_a, rfl, hu, hq⟩
    have L2_R := Lib.hid (fun w' (q : Q z2 w') => L1_R.out w' (hq.trans q))
    clear L1_R
    have L2_X := Lib.hid (fun w' (q : Q z2 w') => L1_X.out w' (hq.trans q))
    clear L1_X
    have L2_a := Lib.hid (fun w' (q : Q z2 w') => Lst.q hu q)
    clear hu
    obtain ⟨a_a, c_a, hs⟩ := (L2_a.out _ (Q.refl _)).shape
    subst hs
    have Q2 := Lib.hid (Q1.out.trans hq)
    clear hq Q1
    go_wp2_with fail
    refine (T2.out _ _ (L2_X.out _ (Q.refl _))).mono ?_
    rintro e z3 ⟨u_b, rfl, hu, hq⟩
    have L3_R := Lib.hid (fun w' (q : Q z3 w') => L2_R.out w' (hq.trans q))
    clear L2_R
    have L3_X := Lib.hid (fun w' (q : Q z3 w') => L2_X.out w' (hq.trans q))
    clear L2_X
    have L3_a := Lib.hid (fun w' (q : Q z3 w') => L2_a.out w' (hq.trans q))
    clear L2_a
    have L3_b := Lib.hid (fun w' (q : Q z3 w') => Lst.q hu q)
    clear hu
    obtain ⟨a_b, c_b, hs⟩ := (L3_b.out _ (Q.refl _)).shape
    subst hs
    have Q3 := Lib.hid (Q2.out.trans hq)
    clear hq Q2
    go_wp2_with fail
    refine (SU.out _ _ _ (L3_a.out _ (Q.refl _)) (L3_b.out _ (Q.refl _))).mono ?_
    rintro e z4 ⟨u_s, rfl, hu, hq⟩
    have L4_R := Lib.hid (fun w' (q : Q z4 w') => L3_R.out w' (hq.trans q))
    clear L3_R
    have L4_X := Lib.hid (fun w' (q : Q z4 w') => L3_X.out w' (hq.trans q))
    clear L3_X
    have L4_a := Lib.hid (fun w' (q : Q z4 w') => L3_a.out w' (hq.trans q))
    clear L3_a
    have L4_b := Lib.hid (fun w' (q : Q z4 w') => L3_b.out w' (hq.trans q))
    clear L3_b
    have L4_s := Lib.hid (fun w' (q : Q z4 w') => Lst.q hu q)
    clear hu
    have Q4 := Lib.hid (Q3.out.trans hq)
    clear hq Q3
    go_wp2_with fail
    refine (T3.out _ _ (L4_X.out _ (Q.refl _))).mono ?_
    rintro e z5 ⟨u_c, rfl, hu, hq⟩
    have L5_R := Lib.hid (fun w' (q : Q z5 w') => L4_R.out w' (hq.trans q))
    clear L4_R
    have L5_X := Lib.hid (fun w' (q : Q z5 w') => L4_X.out w' (hq.trans q))
    clear L4_X
    have L5_a := Lib.hid (fun w' (q : Q z5 w') => L4_a.out w' (hq.trans q))
    clear L4_a
    have L5_b := Lib.hid (fun w' (q : Q z5 w') => L4_b.out w' (hq.trans q))
    clear L4_b
    have L5_s := Lib.hid (fun w' (q : Q z5 w') => L4_s.out w' (hq.trans q))
    clear L4_s
    have L5_c := Lib.hid (fun w' (q : Q z5 w') => Lst.q hu q)
    clear hu
    have Q5 := Lib.hid (Q4.out.trans hq)
    clear hq Q4
    cases hb : Dm.okB R0
    · have HB1 := Lib.hid (fun v w h => HB.out v w h hb)
      have M2 := Lib.hid (fun v w h => (by have e := M1.out v w h; rwa [hb] at e : Calls Try.prog 17 #[v] w fun e w' => e = .returned (.bool false) ∧ w = w'))
      clear hb HB M1
      rcases (show a1 < 0 ∨ (¬ a1 < 0 ∧ 1000 < a1) ∨ (¬ a1 < 0 ∧ ¬ 1000 < a1) from by omega) with h1 | ⟨h1, h2⟩ | ⟨h1, h2⟩
      all_goals
        go_wp2_with fail
        refine (HB1.out _ _ (L5_R.out _ (Q.refl _))).mono ?_
        rintro e y1 ⟨rfl, rfl⟩
        go_wp2_with fail
        refine (M2.out _ _ (L5_R.out _ (Q.refl _))).mono ?_
        rintro e y2 ⟨rfl, rfl⟩
        go_wp2_with fail
        refine (T4.out _ _ (L5_X.out _ (Q.refl _))).mono ?_
        rintro e z6 ⟨u_d, rfl, hu, hq⟩
        have L6_R := Lib.hid (fun w' (q : Q z6 w') => L5_R.out w' (hq.trans q))
        clear L5_R
        have L6_X := Lib.hid (fun w' (q : Q z6 w') => L5_X.out w' (hq.trans q))
        clear L5_X
        have L6_a := Lib.hid (fun w' (q : Q z6 w') => L5_a.out w' (hq.trans q))
        clear L5_a
        have L6_b := Lib.hid (fun w' (q : Q z6 w') => L5_b.out w' (hq.trans q))
        clear L5_b
        have L6_s := Lib.hid (fun w' (q : Q z6 w') => L5_s.out w' (hq.trans q))
        clear L5_s
        have L6_c := Lib.hid (fun w' (q : Q z6 w') => L5_c.out w' (hq.trans q))
        clear L5_c
        have L6_d := Lib.hid (fun w' (q : Q z6 w') => Lst.q hu.lst q)
        clear hu
        have Q6 := Lib.hid (Q5.out.trans hq)
        clear hq Q5
        go_wp2_with fail
        refine (S1.out _ _ _ (L6_a.out _ (Q.refl _)) (L6_d.out _ (Q.refl _))).mono ?_
        rintro e z7 ⟨rfl, hq⟩
        have L7_R := Lib.hid (fun w' (q : Q z7 w') => L6_R.out w' (hq.trans q))
        clear L6_R
        have L7_X := Lib.hid (fun w' (q : Q z7 w') => L6_X.out w' (hq.trans q))
        clear L6_X
        have L7_a := Lib.hid (fun w' (q : Q z7 w') => L6_a.out w' (hq.trans q))
        clear L6_a
        have L7_b := Lib.hid (fun w' (q : Q z7 w') => L6_b.out w' (hq.trans q))
        clear L6_b
        have L7_s := Lib.hid (fun w' (q : Q z7 w') => L6_s.out w' (hq.trans q))
        clear L6_s
        have L7_c := Lib.hid (fun w' (q : Q z7 w') => L6_c.out w' (hq.trans q))
        clear L6_c
        have L7_d := Lib.hid (fun w' (q : Q z7 w') => L6_d.out w' (hq.trans q))
        clear L6_d
        have Q7 := Lib.hid (Q6.out.trans hq)
        clear hq Q6
        go_wp2_with fail
        refine (S2.out _ _ _ (L7_s.out _ (Q.refl _)) (L7_c.out _ (Q.refl _))).mono ?_
        rintro e z8 ⟨rfl, hq⟩
        have L8_R := Lib.hid (fun w' (q : Q z8 w') => L7_R.out w' (hq.trans q))
        clear L7_R
        have L8_X := Lib.hid (fun w' (q : Q z8 w') => L7_X.out w' (hq.trans q))
        clear L7_X
        have L8_a := Lib.hid (fun w' (q : Q z8 w') => L7_a.out w' (hq.trans q))
        clear L7_a
        have L8_b := Lib.hid (fun w' (q : Q z8 w') => L7_b.out w' (hq.trans q))
        clear L7_b
        have L8_s := Lib.hid (fun w' (q : Q z8 w') => L7_s.out w' (hq.trans q))
        clear L7_s
        have L8_c := Lib.hid (fun w' (q : Q z8 w') => L7_c.out w' (hq.trans q))
        clear L7_c
        have L8_d := Lib.hid (fun w' (q : Q z8 w') => L7_d.out w' (hq.trans q))
        clear L7_d
        have Q8 := Lib.hid (Q7.out.trans hq)
        clear hq Q7
        go_wp2_with fail
        refine (LV.out _).mono ?_
        rintro e z9 ⟨rfl, hq⟩
        have L9_R := Lib.hid (fun w' (q : Q z9 w') => L8_R.out w' (hq.trans q))
        clear L8_R
        have L9_X := Lib.hid (fun w' (q : Q z9 w') => L8_X.out w' (hq.trans q))
        clear L8_X
        have L9_a := Lib.hid (fun w' (q : Q z9 w') => L8_a.out w' (hq.trans q))
        clear L8_a
        have L9_b := Lib.hid (fun w' (q : Q z9 w') => L8_b.out w' (hq.trans q))
        clear L8_b
        have L9_s := Lib.hid (fun w' (q : Q z9 w') => L8_s.out w' (hq.trans q))
        clear L8_s
        have L9_c := Lib.hid (fun w' (q : Q z9 w') => L8_c.out w' (hq.trans q))
        clear L8_c
        have L9_d := Lib.hid (fun w' (q : Q z9 w') => L8_d.out w' (hq.trans q))
        clear L8_d
        have Q9 := Lib.hid (Q8.out.trans hq)
        clear hq Q8
        go_wp2_with fail
        go_ret
        exact ⟨rfl, Q9.out⟩
    · have HR1 := Lib.hid (fun v w h hk => HR.out v w h hb hk)
      have HO1 := Lib.hid (fun v w h m hm => HO.out v w h hb m hm)
      have M2 := Lib.hid (fun v w h => (by have e := M1.out v w h; rwa [hb] at e : Calls Try.prog 17 #[v] w fun e w' => e = .returned (.bool true) ∧ w = w'))
      clear hb HR HO M1
      rcases (show a1 < 0 ∨ (¬ a1 < 0 ∧ 1000 < a1) ∨ (∃ m : Nat, a1 = (m : Int) ∧ m ≤ 1000) from by rcases (show a1 < 0 ∨ 1000 < a1 ∨ (0 ≤ a1 ∧ a1 ≤ 1000) from by omega) with h | h | h; exact .inl h; exact .inr (.inl ⟨by omega, h⟩); exact .inr (.inr ⟨a1.toNat, by omega, by omega⟩)) with h1 | ⟨h1, h2⟩ | ⟨m, rfl, h2⟩
      · have HR2 := Lib.hid (fun v w h => HR1.out v w h (by omega))
        go_wp2_with fail
        refine (HR2.out _ _ (L5_R.out _ (Q.refl _))).mono ?_
        rintro e y1 ⟨rfl, rfl⟩
        go_wp2_with fail
        refine (M2.out _ _ (L5_R.out _ (Q.refl _))).mono ?_
        rintro e y2 ⟨rfl, rfl⟩
        go_wp2_with fail
        refine (T4.out _ _ (L5_X.out _ (Q.refl _))).mono ?_
        rintro e z6 ⟨u_d, rfl, hu, hq⟩
        have L6_R := Lib.hid (fun w' (q : Q z6 w') => L5_R.out w' (hq.trans q))
        clear L5_R
        have L6_X := Lib.hid (fun w' (q : Q z6 w') => L5_X.out w' (hq.trans q))
        clear L5_X
        have L6_a := Lib.hid (fun w' (q : Q z6 w') => L5_a.out w' (hq.trans q))
        clear L5_a
        have L6_b := Lib.hid (fun w' (q : Q z6 w') => L5_b.out w' (hq.trans q))
        clear L5_b
        have L6_s := Lib.hid (fun w' (q : Q z6 w') => L5_s.out w' (hq.trans q))
        clear L5_s
        have L6_c := Lib.hid (fun w' (q : Q z6 w') => L5_c.out w' (hq.trans q))
        clear L5_c
        have L6_d := Lib.hid (fun w' (q : Q z6 w') => Lst.q hu.lst q)
        clear hu
        have Q6 := Lib.hid (Q5.out.trans hq)
        clear hq Q5
        go_wp2_with fail
        refine (S1.out _ _ _ (L6_a.out _ (Q.refl _)) (L6_d.out _ (Q.refl _))).mono ?_
        rintro e z7 ⟨rfl, hq⟩
        have L7_R := Lib.hid (fun w' (q : Q z7 w') => L6_R.out w' (hq.trans q))
        clear L6_R
        have L7_X := Lib.hid (fun w' (q : Q z7 w') => L6_X.out w' (hq.trans q))
        clear L6_X
        have L7_a := Lib.hid (fun w' (q : Q z7 w') => L6_a.out w' (hq.trans q))
        clear L6_a
        have L7_b := Lib.hid (fun w' (q : Q z7 w') => L6_b.out w' (hq.trans q))
        clear L6_b
        have L7_s := Lib.hid (fun w' (q : Q z7 w') => L6_s.out w' (hq.trans q))
        clear L6_s
        have L7_c := Lib.hid (fun w' (q : Q z7 w') => L6_c.out w' (hq.trans q))
        clear L6_c
        have L7_d := Lib.hid (fun w' (q : Q z7 w') => L6_d.out w' (hq.trans q))
        clear L6_d
        have Q7 := Lib.hid (Q6.out.trans hq)
        clear hq Q6
        go_wp2_with fail
        refine (S2.out _ _ _ (L7_s.out _ (Q.refl _)) (L7_c.out _ (Q.refl _))).mono ?_
        rintro e z8 ⟨rfl, hq⟩
        have L8_R := Lib.hid (fun w' (q : Q z8 w') => L7_R.out w' (hq.trans q))
        clear L7_R
        have L8_X := Lib.hid (fun w' (q : Q z8 w') => L7_X.out w' (hq.trans q))
        clear L7_X
        have L8_a := Lib.hid (fun w' (q : Q z8 w') => L7_a.out w' (hq.trans q))
        clear L7_a
        have L8_b := Lib.hid (fun w' (q : Q z8 w') => L7_b.out w' (hq.trans q))
        clear L7_b
        have L8_s := Lib.hid (fun w' (q : Q z8 w') => L7_s.out w' (hq.trans q))
        clear L7_s
        have L8_c := Lib.hid (fun w' (q : Q z8 w') => L7_c.out w' (hq.trans q))
        clear L7_c
        have L8_d := Lib.hid (fun w' (q : Q z8 w') => L7_d.out w' (hq.trans q))
        clear L7_d
        have Q8 := Lib.hid (Q7.out.trans hq)
        clear hq Q7
        go_wp2_with fail
        refine (LV.out _).mono ?_
        rintro e z9 ⟨rfl, hq⟩
        have L9_R := Lib.hid (fun w' (q : Q z9 w') => L8_R.out w' (hq.trans q))
        clear L8_R
        have L9_X := Lib.hid (fun w' (q : Q z9 w') => L8_X.out w' (hq.trans q))
        clear L8_X
        have L9_a := Lib.hid (fun w' (q : Q z9 w') => L8_a.out w' (hq.trans q))
        clear L8_a
        have L9_b := Lib.hid (fun w' (q : Q z9 w') => L8_b.out w' (hq.trans q))
        clear L8_b
        have L9_s := Lib.hid (fun w' (q : Q z9 w') => L8_s.out w' (hq.trans q))
        clear L8_s
        have L9_c := Lib.hid (fun w' (q : Q z9 w') => L8_c.out w' (hq.trans q))
        clear L8_c
        have L9_d := Lib.hid (fun w' (q : Q z9 w') => L8_d.out w' (hq.trans q))
        clear L8_d
        have Q9 := Lib.hid (Q8.out.trans hq)
        clear hq Q8
        go_wp2_with fail
        go_ret
        exact ⟨rfl, Q9.out⟩
      · have HR2 := Lib.hid (fun v w h => HR1.out v w h (by omega))
        go_wp2_with fail
        refine (HR2.out _ _ (L5_R.out _ (Q.refl _))).mono ?_
        rintro e y1 ⟨rfl, rfl⟩
        go_wp2_with fail
        refine (M2.out _ _ (L5_R.out _ (Q.refl _))).mono ?_
        rintro e y2 ⟨rfl, rfl⟩
        go_wp2_with fail
        refine (T4.out _ _ (L5_X.out _ (Q.refl _))).mono ?_
        rintro e z6 ⟨u_d, rfl, hu, hq⟩
        have L6_R := Lib.hid (fun w' (q : Q z6 w') => L5_R.out w' (hq.trans q))
        clear L5_R
        have L6_X := Lib.hid (fun w' (q : Q z6 w') => L5_X.out w' (hq.trans q))
        clear L5_X
        have L6_a := Lib.hid (fun w' (q : Q z6 w') => L5_a.out w' (hq.trans q))
        clear L5_a
        have L6_b := Lib.hid (fun w' (q : Q z6 w') => L5_b.out w' (hq.trans q))
        clear L5_b
        have L6_s := Lib.hid (fun w' (q : Q z6 w') => L5_s.out w' (hq.trans q))
        clear L5_s
        have L6_c := Lib.hid (fun w' (q : Q z6 w') => L5_c.out w' (hq.trans q))
        clear L5_c
        have L6_d := Lib.hid (fun w' (q : Q z6 w') => Lst.q hu.lst q)
        clear hu
        have Q6 := Lib.hid (Q5.out.trans hq)
        clear hq Q5
        go_wp2_with fail
        refine (S1.out _ _ _ (L6_a.out _ (Q.refl _)) (L6_d.out _ (Q.refl _))).mono ?_
        rintro e z7 ⟨rfl, hq⟩
        have L7_R := Lib.hid (fun w' (q : Q z7 w') => L6_R.out w' (hq.trans q))
        clear L6_R
        have L7_X := Lib.hid (fun w' (q : Q z7 w') => L6_X.out w' (hq.trans q))
        clear L6_X
        have L7_a := Lib.hid (fun w' (q : Q z7 w') => L6_a.out w' (hq.trans q))
        clear L6_a
        have L7_b := Lib.hid (fun w' (q : Q z7 w') => L6_b.out w' (hq.trans q))
        clear L6_b
        have L7_s := Lib.hid (fun w' (q : Q z7 w') => L6_s.out w' (hq.trans q))
        clear L6_s
        have L7_c := Lib.hid (fun w' (q : Q z7 w') => L6_c.out w' (hq.trans q))
        clear L6_c
        have L7_d := Lib.hid (fun w' (q : Q z7 w') => L6_d.out w' (hq.trans q))
        clear L6_d
        have Q7 := Lib.hid (Q6.out.trans hq)
        clear hq Q6
        go_wp2_with fail
        refine (S2.out _ _ _ (L7_s.out _ (Q.refl _)) (L7_c.out _ (Q.refl _))).mono ?_
        rintro e z8 ⟨rfl, hq⟩
        have L8_R := Lib.hid (fun w' (q : Q z8 w') => L7_R.out w' (hq.trans q))
        clear L7_R
        have L8_X := Lib.hid (fun w' (q : Q z8 w') => L7_X.out w' (hq.trans q))
        clear L7_X
        have L8_a := Lib.hid (fun w' (q : Q z8 w') => L7_a.out w' (hq.trans q))
        clear L7_a
        have L8_b := Lib.hid (fun w' (q : Q z8 w') => L7_b.out w' (hq.trans q))
        clear L7_b
        have L8_s := Lib.hid (fun w' (q : Q z8 w') => L7_s.out w' (hq.trans q))
        clear L7_s
        have L8_c := Lib.hid (fun w' (q : Q z8 w') => L7_c.out w' (hq.trans q))
        clear L7_c
        have L8_d := Lib.hid (fun w' (q : Q z8 w') => L7_d.out w' (hq.trans q))
        clear L7_d
        have Q8 := Lib.hid (Q7.out.trans hq)
        clear hq Q7
        go_wp2_with fail
        refine (LV.out _).mono ?_
        rintro e z9 ⟨rfl, hq⟩
        have L9_R := Lib.hid (fun w' (q : Q z9 w') => L8_R.out w' (hq.trans q))
        clear L8_R
        have L9_X := Lib.hid (fun w' (q : Q z9 w') => L8_X.out w' (hq.trans q))
        clear L8_X
        have L9_a := Lib.hid (fun w' (q : Q z9 w') => L8_a.out w' (hq.trans q))
        clear L8_a
        have L9_b := Lib.hid (fun w' (q : Q z9 w') => L8_b.out w' (hq.trans q))
        clear L8_b
        have L9_s := Lib.hid (fun w' (q : Q z9 w') => L8_s.out w' (hq.trans q))
        clear L8_s
        have L9_c := Lib.hid (fun w' (q : Q z9 w') => L8_c.out w' (hq.trans q))
        clear L8_c
        have L9_d := Lib.hid (fun w' (q : Q z9 w') => L8_d.out w' (hq.trans q))
        clear L8_d
        have Q9 := Lib.hid (Q8.out.trans hq)
        clear hq Q8
        go_wp2_with fail
        go_ret
        exact ⟨rfl, Q9.out⟩
      · have HO3 := Lib.hid (fun v w h => HO1.out v w h m h2)
        go_wp2_with fail
        refine (HO3.out _ _ (L5_R.out _ (Q.refl _))).mono ?_
        rintro e z6 ⟨u_r, rfl, hu, hq⟩
        have L6_R := Lib.hid (fun w' (q : Q z6 w') => L5_R.out w' (hq.trans q))
        clear L5_R
        have L6_X := Lib.hid (fun w' (q : Q z6 w') => L5_X.out w' (hq.trans q))
        clear L5_X
        have L6_a := Lib.hid (fun w' (q : Q z6 w') => L5_a.out w' (hq.trans q))
        clear L5_a
        have L6_b := Lib.hid (fun w' (q : Q z6 w') => L5_b.out w' (hq.trans q))
        clear L5_b
        have L6_s := Lib.hid (fun w' (q : Q z6 w') => L5_s.out w' (hq.trans q))
        clear L5_s
        have L6_c := Lib.hid (fun w' (q : Q z6 w') => L5_c.out w' (hq.trans q))
        clear L5_c
        have L6_r := Lib.hid (fun w' (q : Q z6 w') => Lst.q hu q)
        clear hu
        have Q6 := Lib.hid (Q5.out.trans hq)
        clear hq Q5
        go_wp2_with fail
        refine (M2.out _ _ (L6_R.out _ (Q.refl _))).mono ?_
        rintro e y1 ⟨rfl, rfl⟩
        go_wp2_with fail
        refine (T4.out _ _ (L6_X.out _ (Q.refl _))).mono ?_
        rintro e z7 ⟨u_d, rfl, hu, hq⟩
        have L7_R := Lib.hid (fun w' (q : Q z7 w') => L6_R.out w' (hq.trans q))
        clear L6_R
        have L7_X := Lib.hid (fun w' (q : Q z7 w') => L6_X.out w' (hq.trans q))
        clear L6_X
        have L7_a := Lib.hid (fun w' (q : Q z7 w') => L6_a.out w' (hq.trans q))
        clear L6_a
        have L7_b := Lib.hid (fun w' (q : Q z7 w') => L6_b.out w' (hq.trans q))
        clear L6_b
        have L7_s := Lib.hid (fun w' (q : Q z7 w') => L6_s.out w' (hq.trans q))
        clear L6_s
        have L7_c := Lib.hid (fun w' (q : Q z7 w') => L6_c.out w' (hq.trans q))
        clear L6_c
        have L7_r := Lib.hid (fun w' (q : Q z7 w') => L6_r.out w' (hq.trans q))
        clear L6_r
        have L7_d := Lib.hid (fun w' (q : Q z7 w') => Lst.q hu.lst q)
        clear hu
        have Q7 := Lib.hid (Q6.out.trans hq)
        clear hq Q6
        go_wp2_with fail
        refine (S1.out _ _ _ (L7_a.out _ (Q.refl _)) (L7_d.out _ (Q.refl _))).mono ?_
        rintro e z8 ⟨rfl, hq⟩
        have L8_R := Lib.hid (fun w' (q : Q z8 w') => L7_R.out w' (hq.trans q))
        clear L7_R
        have L8_X := Lib.hid (fun w' (q : Q z8 w') => L7_X.out w' (hq.trans q))
        clear L7_X
        have L8_a := Lib.hid (fun w' (q : Q z8 w') => L7_a.out w' (hq.trans q))
        clear L7_a
        have L8_b := Lib.hid (fun w' (q : Q z8 w') => L7_b.out w' (hq.trans q))
        clear L7_b
        have L8_s := Lib.hid (fun w' (q : Q z8 w') => L7_s.out w' (hq.trans q))
        clear L7_s
        have L8_c := Lib.hid (fun w' (q : Q z8 w') => L7_c.out w' (hq.trans q))
        clear L7_c
        have L8_r := Lib.hid (fun w' (q : Q z8 w') => L7_r.out w' (hq.trans q))
        clear L7_r
        have L8_d := Lib.hid (fun w' (q : Q z8 w') => L7_d.out w' (hq.trans q))
        clear L7_d
        have Q8 := Lib.hid (Q7.out.trans hq)
        clear hq Q7
        go_wp2_with fail
        refine (S2.out _ _ _ (L8_s.out _ (Q.refl _)) (L8_c.out _ (Q.refl _))).mono ?_
        rintro e z9 ⟨rfl, hq⟩
        have L9_R := Lib.hid (fun w' (q : Q z9 w') => L8_R.out w' (hq.trans q))
        clear L8_R
        have L9_X := Lib.hid (fun w' (q : Q z9 w') => L8_X.out w' (hq.trans q))
        clear L8_X
        have L9_a := Lib.hid (fun w' (q : Q z9 w') => L8_a.out w' (hq.trans q))
        clear L8_a
        have L9_b := Lib.hid (fun w' (q : Q z9 w') => L8_b.out w' (hq.trans q))
        clear L8_b
        have L9_s := Lib.hid (fun w' (q : Q z9 w') => L8_s.out w' (hq.trans q))
        clear L8_s
        have L9_c := Lib.hid (fun w' (q : Q z9 w') => L8_c.out w' (hq.trans q))
        clear L8_c
        have L9_r := Lib.hid (fun w' (q : Q z9 w') => L8_r.out w' (hq.trans q))
        clear L8_r
        have L9_d := Lib.hid (fun w' (q : Q z9 w') => L8_d.out w' (hq.trans q))
        clear L8_d
        have Q9 := Lib.hid (Q8.out.trans hq)
        clear hq Q8
        go_wp2_with fail
        refine (LV.out _).mono ?_
        rintro e z10 ⟨rfl, hq⟩
        have L10_R := Lib.hid (fun w' (q : Q z10 w') => L9_R.out w' (hq.trans q))
        clear L9_R
        have L10_X := Lib.hid (fun w' (q : Q z10 w') => L9_X.out w' (hq.trans q))
        clear L9_X
        have L10_a := Lib.hid (fun w' (q : Q z10 w') => L9_a.out w' (hq.trans q))
        clear L9_a
        have L10_b := Lib.hid (fun w' (q : Q z10 w') => L9_b.out w' (hq.trans q))
        clear L9_b
        have L10_s := Lib.hid (fun w' (q : Q z10 w') => L9_s.out w' (hq.trans q))
        clear L9_s
        have L10_c := Lib.hid (fun w' (q : Q z10 w') => L9_c.out w' (hq.trans q))
        clear L9_c
        have L10_r := Lib.hid (fun w' (q : Q z10 w') => L9_r.out w' (hq.trans q))
        clear L9_r
        have L10_d := Lib.hid (fun w' (q : Q z10 w') => L9_d.out w' (hq.trans q))
        clear L9_d
        have Q10 := Lib.hid (Q9.out.trans hq)
        clear hq Q9
        go_wp2_with fail
        go_ret
        exact ⟨rfl, Q10.out⟩

set_option maxRecDepth 100000 in
theorem lifted (os : Os) (started : os.Started) (H : Type) (enc : TypeId × Value → H) :
    ReturnsInHanded {} Try.checked os 8 .any (Rows.digitTimesSpec.pre6 enc Try.prog Try.f8 Rows.digitTimesRow.domain false) (Rows.digitTimesSpec.post enc Try.prog Try.f8 false true false false) := by
  refine returnsInHanded_of_change (C := Try.checked) own started (by kernel_rfl) Try.func8
    (ChangeSpec.witness6 (enc := enc) (C := Try.checked) false ⟨#[], #[.slice none 0 0, .int .i64 0], []⟩ 8 (by kernel_rfl) (by kernel_rfl) (by kernel_rfl) (by kernel_rfl)) ?_
  intro W base args ds gs before hval0 hW hcnd _
  have hval : ∀ (j : Nat) t v, Try.f8.params[j]? = some t → args[j]? = some v → Value.okWide Try.prog W .any base t v := hval0
  have hW' := hW
  obtain ⟨p, q, hA0, hV, rfl, hfz, hnd⟩ := hW
  have hA : DataW.TrodAll enc Try.prog W 0 (fun _ => true) true Try.f8.params.toList args.toList ds p := hA0
  rw [Try.params8] at hA hval
  obtain ⟨v0, vs0, d0, ds0, p0, q0, hargs, rfl, rfl, h0, r0⟩ := trodAll_cons hA
  obtain ⟨v1, vs1, d1, ds1, p1, q1, rfl, rfl, rfl, h1, r1⟩ := trodAll_cons r0
  obtain ⟨rfl, rfl, rfl⟩ := trodAll_nil r1
  obtain rfl : args = #[v0, v1] := by cases args; simp_all
  obtain ⟨rfl, rfl⟩ := trodVars_none hV
  obtain ⟨a0, len0, cap0, rfl⟩ := okWide_slice Try.underlying22 (hval 0 22 v0 rfl rfl)
  have k0 := h0
  have lt0 : ∀ x ∈ p0, x.block < W.heap.size := by obtain ⟨m, hm⟩ := k0; exact DataW.trod_lt m _ _ _ hm
  obtain ⟨z0, w0⟩ : ∃ zs, IsRow .i64 W a0 len0 cap0 zs := by
    obtain ⟨fuel, hf⟩ := h0
    rcases open_ints Try.underlying22 Try.underlying3 (by kernel_rfl) hf with ⟨hcs, _⟩ | ⟨x, l, c, zs, hcs, _, hl, hm, hz, _, hcell, hwz⟩
    · simp [Value.cells] at hcs
      obtain ⟨rfl, rfl, rfl⟩ := hcs
      exact ⟨[], .inl ⟨rfl, rfl, rfl, rfl⟩⟩
    · simp [Value.cells] at hcs
      obtain ⟨rfl, rfl, rfl⟩ := hcs
      exact ⟨zs, .inr ⟨_, rfl, hl, hm, by simpa using hz, hcell, hwz⟩⟩
  obtain ⟨xs0, l0, _, b0⟩ := w0.lst
  obtain ⟨a1, rfl, rfl, rfl, w1⟩ := open_int Try.underlying3 (hval 1 3 v1 rfl rfl) h1
  clear hA0 hval0
  refine (walk W (.slice a0 len0 cap0) xs0 l0 b0 a1 (bounds_i64 w1)).mono fun e W' ⟨he, bel⟩ => ?_
  subst he
  exact ⟨_, rfl, _, _, _, [], _, [], hW', trodAll_mk1 (shut_bool Try.underlying4 _), (trodAll_cons_mk (Below.trod laidOut (by kernel_rfl) (of_decide_eq_true (by kernel_rfl)) k0 bel lt0) (trodAll_cons_mk (shut_int Try.underlying3 w1) trodAll_mk0)), rfl, bel.below.frame _, fun h => by cases h⟩

/-- The statement. -/
theorem proved : Rows.DigitTimesSaid :=
  OpenClaim.holds_of_wide 8 Try.f8 rfl rfl rfl rfl rfl rfl rfl ⟨rfl, rfl, rfl, rfl, rfl⟩ rfl rfl rfl rfl rfl (by kernel_rfl) Try.func8 (by kernel_rfl)
    (of_decide_eq_true (by kernel_rfl)) (by unfold Func.isWrapper; first | (rw [if_pos (by decide +kernel)]; kernel_rfl) | (rw [if_neg (by decide +kernel)]; exact ⟨rfl, rfl⟩))
    (fun os started H enc _ => lifted os started H enc)
#print axioms proved
end Go.Proofs.Ytcdpgibemkbclaa.digitTimes
