/- DigitTrims: of whatever numbers (the first 30, made digits) behind whatever number of noughts (made 0 to 9), what is without noughts ahead, how many there are, and whether it is odd, is the document's; no conditions. -/
import Derived.Test.YtcdpgibemkbclaaRows
import Derived.WalkKit
import Derived.ProofKit
import Derived.OpenShut
import Derived.ShutString
import Derived.ChangeOld
import Derived.Below
import Derived.Test.YtcdpgibemkbclaaInts
import Derived.Test.YtcdpgibemkbclaaUtfM
import Derived.Test.YtcdpgibemkbclaaUtfG
import Derived.Test.YtcdpgibemkbclaaUtfR
import Derived.Test.YtcdpgibemkbclaaDigM
import Derived.Test.YtcdpgibemkbclaaDigL
import Derived.Test.YtcdpgibemkbclaaDigW
import Derived.Test.YtcdpgibemkbclaaDigV
import Derived.Test.YtcdpgibemkbclaaDigR
import Derived.Test.YtcdpgibemkbclaaDigQ
set_option linter.unusedVariables false
set_option linter.unusedSimpArgs false
namespace Go.Proofs.Ytcdpgibemkbclaa.digitTrims
open Go.ChangeShapes Go.WideShapes Go.ChangeAt Go.RowKit
open Go.ChangeMaps (open_string shut_string)

theorem own : ownKnob Try.prog.godebug = none := by kernel_rfl
theorem laidOut : laidOutB Try.prog = true := by kernel_rfl

theorem dgt_last (m : Nat) (X : List Int) (q : Nat) (h : X.length = q + 1) : Dm.dgt (List.replicate m 0 ++ X) 0 = X.getD q 0 := by
  unfold Dm.dgt
  rw [List.length_append, List.length_replicate, if_pos (by omega), List.getD_eq_getElem?_getD, List.getElem?_append_right (by rw [List.length_replicate]; omega), List.length_replicate, List.getD_eq_getElem?_getD]
  rw [show m + X.length - 1 - 0 - m = q from by omega]
theorem dgt_none (m : Nat) : Dm.dgt (List.replicate m 0) 0 = 0 := by
  unfold Dm.dgt
  split
  · rw [List.getD_eq_getElem?_getD, List.getElem?_replicate]; split <;> rfl
  · rfl
theorem okD_rep (m : Nat) (X : List Int) (h : Dm.okD X) : Dm.okD (List.replicate m 0 ++ X) := by
  rw [Dm.okD_append]
  refine ⟨fun d hd => ?_, h⟩
  have := List.eq_of_mem_replicate hd
  omega
theorem num_rep (m : Nat) (X : List Int) : Dm.num (List.replicate m 0 ++ X) = Dm.num X := by
  rw [← Dm.num_trim, Dm.trim_rep, Dm.num_trim]

set_option maxHeartbeats 8000000 in
set_option maxRecDepth 100000 in
theorem walk (w : World) (v0 : Value) (xs0 : List Int) (w0 : Lst w v0 xs0) (b0 : ∀ n ∈ xs0, -9223372036854775808 ≤ n ∧ n ≤ 9223372036854775807) (a1 : Int) (w1 : -9223372036854775808 ≤ a1 ∧ a1 ≤ 9223372036854775807) :
    Calls Try.prog 4 #[v0, .int .i64 a1] w fun e w' => e = .returned (.bool true) ∧ Q w w' := by
  have hl0 : xs0.length ≤ 9223372036854775807 := by obtain ⟨_, _, _, h1, h2⟩ := w0.shape2; unfold maxLen at h2; omega
  have G0 := Lib.hid (Dr.good_any v0 xs0 30 w w0 hl0 (by omega) b0)
  have hXM : (Dm.gdL xs0 30).length ≤ 30 := by rw [Dm.gdL_len]; omega
  have kX := Dm.gdL_ok xs0 30
  generalize Dm.gdL xs0 30 = X at *
  have A0 := Lib.hid (fun w => Ur.around_any a1 10 w w1.1 w1.2 (by omega) (by omega))
  have hab := Um.around_bd a1 10 (by omega)
  obtain ⟨m, hm⟩ : ∃ m : Nat, Um.around a1 10 = (m : Int) := ⟨(Um.around a1 10).toNat, by omega⟩
  rw [hm] at A0 hab
  obtain ⟨p, hp⟩ : ∃ p, p = X.length := ⟨_, rfl⟩
  have hzl := Dm.zer_le X
  have htl := Dm.trim_len X
  have kW := okD_rep m X kX
  have hWL : (List.replicate m 0 ++ X).length = m + p := by rw [List.length_append, List.length_replicate, hp]
  have tr := fun v w h => Dr.trim_any v (List.replicate m 0 ++ X) w h (by omega)
  have tr2 := fun v w h => Dw.trim_any v (List.replicate m 0 ++ X) w h (by omega)
  rw [Dm.trim_rep] at tr tr2
  have zw := fun v w h => Dw.zeros_any v (List.replicate m 0 ++ X) w h (by omega)
  rw [Dm.zer_rep] at zw
  have od := fun v w h => Dw.odd_any v (List.replicate m 0 ++ X) w h (by omega) kW
  have cw := fun va vb w h1 h2 => Dw.compare_any va vb (List.replicate m 0 ++ X) X w h1 h2 (by omega) (by omega) kW kX
  rw [num_rep, Dm.cmpZ_eq rfl] at cw
  have t3 := fun v w h => Dw.trim_any v (Dm.trimL X) w h (by omega)
  rw [Dm.trim_trim] at t3
  have SM := Lib.hid (fun va vb w h1 h2 => Ur.same_any va vb (Dm.trimL X) (Dm.trimL X) w h1 h2 (by omega) (by omega))
  simp only [decide_true] at SM
  have TR := Lib.hid tr
  have TR2 := Lib.hid tr2
  have ZW := Lib.hid zw
  have OD := Lib.hid od
  have CW := Lib.hid cw
  have T3 := Lib.hid t3
  have LV := Lib.hid Dw.lives_any
  have HP := Lib.hid hp
  have HWL := Lib.hid hWL
  obtain ⟨tl, htl2⟩ : ∃ tl, tl = (Dm.trimL X).length := ⟨_, rfl⟩
  have HTL := Lib.hid htl2
  have hzi : ((m + p : Nat) : Int) - (tl : Int) = ((m + Dm.zer X : Nat) : Int) := by omega
  have HBD := Lib.hid (fun (q : Nat) (hq : p = q + 1) => (by have h1 : X.getD q 0 ∈ X := (by rw [List.getD_eq_getElem?_getD, List.getElem?_eq_getElem (by omega)]; exact List.getElem_mem _); exact ⟨dgt_last m X q (by omega), kX _ h1⟩ : Dm.dgt (List.replicate m 0 ++ X) 0 = X.getD q 0 ∧ 0 ≤ X.getD q 0 ∧ X.getD q 0 ≤ 9))
  have HB0 := Lib.hid (fun (hq : p = 0) => (by have hx : X = [] := List.eq_nil_of_length_eq_zero (by omega); rw [hx, List.append_nil]; exact dgt_none m : Dm.dgt (List.replicate m 0 ++ X) 0 = 0))
  obtain ⟨z, hz⟩ : ∃ z, z = m + Dm.zer X := ⟨_, rfl⟩
  rw [← hz] at ZW hzi
  obtain ⟨N, hN⟩ : ∃ N, N = m + p := ⟨_, rfl⟩
  rw [← hN] at HWL hzi
  obtain ⟨W, hW⟩ : ∃ W, W = List.replicate m 0 ++ X := ⟨_, rfl⟩
  have HWE := Lib.hid hW
  rw [← hW] at TR TR2 ZW OD CW HWL HBD HB0
  generalize Dm.trimL X = T at *
  generalize Dm.dgt W 0 = dg at *
  have hm10 : m ≤ 9 := by omega
  have hpM : p ≤ 30 := by omega
  have hNb : N ≤ 39 := by omega
  have HZI := Lib.hid hzi
  clear tr tr2 zw od cw t3 kX kW hWL hzl htl htl2 hab hm hzi hz hN hW hp hXM w0 b0 hl0 w1
  go_enter Try.func4, Try.ntmps4
  go_wp2_with fail
  refine G0.out.mono ?_
  rintro e z1 ⟨u_x, rfl, ho, hq⟩
  obtain ⟨a_x, c_x, rfl, hxc, hxm⟩ := ho.lst.form0 HP.out.symm
  have LX1 := Lib.hid (fun w' (q : Q z1 w') => ho.lst.q q)
  have Q1 := Lib.hid hq
  clear ho hq
  go_wp2_with fail
  refine (A0.out _).mono ?_
  rintro e y1 ⟨rfl, rfl⟩
  go_wp2_with fail
  go_loopw [6, 7] (fun u i wr => ∃ j : Nat, i = .int .i64 j ∧ j ≤ m ∧ Own wr z1.heap.size u (List.replicate (m - j) 0) ∧ Q z1 wr) (fun _ i _ => (intOf i).toNat)
  case atStart => exact ⟨m, rfl, Nat.le_refl _, by rw [Nat.sub_self]; exact Own.nil _ _, Q.refl _⟩
  case round =>
    obtain ⟨j, rfl, hj, ho, hq⟩ := hrel
    have hB := hq.le
    by_cases hj0 : 0 < j
    · obtain ⟨i, rfl⟩ : ∃ i, j = i + 1 := ⟨j - 1, by omega⟩
      have HRS := Lib.hid (show List.replicate (m - (i + 1)) (0 : Int) ++ [0] = List.replicate (m - i) 0 from by rw [← List.replicate_succ', show m - (i + 1) + 1 = m - i from by omega])
      have hwl : (List.replicate (m - (i + 1)) (0 : Int)).length < 1099511627776 := by rw [List.length_replicate]; omega
      have HW := Lib.hid hwl
      have HO := Lib.hid ho
      have HQ := Lib.hid hq
      clear hwl ho hq
      go_wp2_with (at_builtin; refine push_int HO.out rfl _ _ rfl _ (by rfl) (by rfl) HW.out hB ?_)
      intro v2 w2 ho2 hg2 hat2
      have ho3 : Own w2 z1.heap.size v2 (List.replicate (m - i) 0) := by rw [← HRS.out]; exact ho2
      have HO2 := Lib.hid ho3
      have HQ2 := Lib.hid (HQ.out.grown hg2 (fun g h => (HO.out.lt g h).1))
      clear ho2 ho3 hg2 hat2
      go_wp2_with fail
      exact ⟨⟨i, by go_num, by omega, HO2.out, HQ2.out⟩, by simp [intOf]⟩
    · have hj1 : j = 0 := by omega
      subst hj1
      have HO := Lib.hid ho
      have LX2 := Lib.hid (LX1.out _ hq)
      have hwl : (List.replicate (m - 0) (0 : Int)).length + X.length < 1099511627776 := by rw [List.length_replicate, ← HP.out]; omega
      have HW := Lib.hid hwl
      have HQ := Lib.hid hq
      clear hwl ho hq
      go_wp2_with (at_builtin; refine push_list HO.out LX2.out rfl _ _ rfl (by rfl) (by rfl) HW.out hB ?_)
      intro u_w z3 ho3 hg3 hat3
      have hq3 := HQ.out.grown hg3 (fun g h => (HO.out.lt g h).1)
      have ho4 : Own z3 z1.heap.size u_w W := by rw [HWE.out]; exact ho3
      obtain ⟨a_w, c_w, rfl, hwc, hwm⟩ := ho4.lst.form0 HWL.out
      have LW3 := Lib.hid (fun w' (q : Q z3 w') => ho4.lst.q q)
      have LX3 := Lib.hid (fun w' (q : Q z3 w') => LX1.out w' (hq3.trans q))
      have Q3 := Lib.hid (Q1.out.trans hq3)
      clear ho3 ho4 hg3 hat3 hq3 HO LX2 HW HQ
      go_wp2_with fail
      refine (TR.out _ _ (LW3.out _ (Q.refl _))).mono ?_
      rintro e z4 ⟨u_t, rfl, hu, hq⟩
      have L4_x := Lib.hid (fun w' (q : Q z4 w') => LX3.out w' (hq.trans q))
      clear LX3
      have L4_w := Lib.hid (fun w' (q : Q z4 w') => LW3.out w' (hq.trans q))
      clear LW3
      have L4_t := Lib.hid (fun w' (q : Q z4 w') => Lst.q hu.lst q)
      clear hu
      have Q4 := Lib.hid (Q3.out.trans hq)
      clear hq Q3
      obtain ⟨a_t, c_t, hts, htc, htm⟩ := (L4_t.out _ (Q.refl _)).form0 HTL.out.symm
      subst hts
      have hzi := HZI.out
      have HPC := Lib.hid (fun (q : Nat) (hq : p = q + 1) => (L4_x.out _ (Q.refl _)).cellOf (n := p) (k := q) HP.out.symm (by omega))
      rcases (show p = 0 ∨ ∃ q, p = q + 1 from by cases p; exact .inl rfl; exact .inr ⟨_, rfl⟩) with hp0 | ⟨q, hpq⟩
      · have hd := HB0.out hp0
        subst hd
        subst hp0
        go_wp2_with fail
        refine (TR2.out _ _ (L4_w.out _ (Q.refl _))).mono ?_
        rintro e z5 ⟨u_r, rfl, hu, hq⟩
        have L5_x := Lib.hid (fun w' (q : Q z5 w') => L4_x.out w' (hq.trans q))
        clear L4_x
        have L5_w := Lib.hid (fun w' (q : Q z5 w') => L4_w.out w' (hq.trans q))
        clear L4_w
        have L5_t := Lib.hid (fun w' (q : Q z5 w') => L4_t.out w' (hq.trans q))
        clear L4_t
        have L5_r := Lib.hid (fun w' (q : Q z5 w') => Lst.q hu.lst q)
        clear hu
        have Q5 := Lib.hid (Q4.out.trans hq)
        clear hq Q4
        go_wp2_with fail
        refine (SM.out _ _ _ (L5_r.out _ (Q.refl _)) (L5_t.out _ (Q.refl _))).mono ?_
        rintro e z6 ⟨rfl, hq⟩
        have L6_x := Lib.hid (fun w' (q : Q z6 w') => L5_x.out w' (hq.trans q))
        clear L5_x
        have L6_w := Lib.hid (fun w' (q : Q z6 w') => L5_w.out w' (hq.trans q))
        clear L5_w
        have L6_t := Lib.hid (fun w' (q : Q z6 w') => L5_t.out w' (hq.trans q))
        clear L5_t
        have L6_r := Lib.hid (fun w' (q : Q z6 w') => L5_r.out w' (hq.trans q))
        clear L5_r
        have Q6 := Lib.hid (Q5.out.trans hq)
        clear hq Q5
        go_wp2_with fail
        refine (ZW.out _ _ (L6_w.out _ (Q.refl _))).mono ?_
        rintro e y0 ⟨rfl, rfl⟩
        go_wp2_with fail
        refine (OD.out _ _ (L6_w.out _ (Q.refl _))).mono ?_
        rintro e y1 ⟨rfl, rfl⟩
        go_wp2_with fail
        refine (CW.out _ _ _ (L6_w.out _ (Q.refl _)) (L6_x.out _ (Q.refl _))).mono ?_
        rintro e z7 ⟨rfl, hq⟩
        have L7_x := Lib.hid (fun w' (q : Q z7 w') => L6_x.out w' (hq.trans q))
        clear L6_x
        have L7_w := Lib.hid (fun w' (q : Q z7 w') => L6_w.out w' (hq.trans q))
        clear L6_w
        have L7_t := Lib.hid (fun w' (q : Q z7 w') => L6_t.out w' (hq.trans q))
        clear L6_t
        have L7_r := Lib.hid (fun w' (q : Q z7 w') => L6_r.out w' (hq.trans q))
        clear L6_r
        have Q7 := Lib.hid (Q6.out.trans hq)
        clear hq Q6
        go_wp2_with fail
        refine (T3.out _ _ (L7_t.out _ (Q.refl _))).mono ?_
        rintro e z8 ⟨u_k, rfl, hu, hq⟩
        have L8_x := Lib.hid (fun w' (q : Q z8 w') => L7_x.out w' (hq.trans q))
        clear L7_x
        have L8_w := Lib.hid (fun w' (q : Q z8 w') => L7_w.out w' (hq.trans q))
        clear L7_w
        have L8_t := Lib.hid (fun w' (q : Q z8 w') => L7_t.out w' (hq.trans q))
        clear L7_t
        have L8_r := Lib.hid (fun w' (q : Q z8 w') => L7_r.out w' (hq.trans q))
        clear L7_r
        have L8_k := Lib.hid (fun w' (q : Q z8 w') => Lst.q hu.lst q)
        clear hu
        have Q8 := Lib.hid (Q7.out.trans hq)
        clear hq Q7
        go_wp2_with fail
        refine (SM.out _ _ _ (L8_k.out _ (Q.refl _)) (L8_t.out _ (Q.refl _))).mono ?_
        rintro e z9 ⟨rfl, hq⟩
        have L9_x := Lib.hid (fun w' (q : Q z9 w') => L8_x.out w' (hq.trans q))
        clear L8_x
        have L9_w := Lib.hid (fun w' (q : Q z9 w') => L8_w.out w' (hq.trans q))
        clear L8_w
        have L9_t := Lib.hid (fun w' (q : Q z9 w') => L8_t.out w' (hq.trans q))
        clear L8_t
        have L9_r := Lib.hid (fun w' (q : Q z9 w') => L8_r.out w' (hq.trans q))
        clear L8_r
        have L9_k := Lib.hid (fun w' (q : Q z9 w') => L8_k.out w' (hq.trans q))
        clear L8_k
        have Q9 := Lib.hid (Q8.out.trans hq)
        clear hq Q8
        go_wp2_with fail
        refine (LV.out _).mono ?_
        rintro e z10 ⟨rfl, hq⟩
        have L10_x := Lib.hid (fun w' (q : Q z10 w') => L9_x.out w' (hq.trans q))
        clear L9_x
        have L10_w := Lib.hid (fun w' (q : Q z10 w') => L9_w.out w' (hq.trans q))
        clear L9_w
        have L10_t := Lib.hid (fun w' (q : Q z10 w') => L9_t.out w' (hq.trans q))
        clear L9_t
        have L10_r := Lib.hid (fun w' (q : Q z10 w') => L9_r.out w' (hq.trans q))
        clear L9_r
        have L10_k := Lib.hid (fun w' (q : Q z10 w') => L9_k.out w' (hq.trans q))
        clear L9_k
        have Q10 := Lib.hid (Q9.out.trans hq)
        clear hq Q9
        go_wp2_with fail
        go_ret
        exact ⟨rfl, Q10.out⟩
      · obtain ⟨hd, h1, h2⟩ := HBD.out q hpq
        obtain ⟨g, off, cap, hvv, hg, _, _, c1⟩ := HPC.out q hpq
        subst hpq
        cases hvv
        generalize X.getD q 0 = x at *
        subst hd
        have hqi : ((q + 1 : Nat) : Int) - 1 = (q : Int) := by omega
        rcases (show dg % 2 = 0 ∨ dg % 2 = 1 from by omega) with hr | hr
        · go_wp2_with fail
          refine (TR2.out _ _ (L4_w.out _ (Q.refl _))).mono ?_
          rintro e z5 ⟨u_r, rfl, hu, hq⟩
          have L5_x := Lib.hid (fun w' (q : Q z5 w') => L4_x.out w' (hq.trans q))
          clear L4_x
          have L5_w := Lib.hid (fun w' (q : Q z5 w') => L4_w.out w' (hq.trans q))
          clear L4_w
          have L5_t := Lib.hid (fun w' (q : Q z5 w') => L4_t.out w' (hq.trans q))
          clear L4_t
          have L5_r := Lib.hid (fun w' (q : Q z5 w') => Lst.q hu.lst q)
          clear hu
          have Q5 := Lib.hid (Q4.out.trans hq)
          clear hq Q4
          go_wp2_with fail
          refine (SM.out _ _ _ (L5_r.out _ (Q.refl _)) (L5_t.out _ (Q.refl _))).mono ?_
          rintro e z6 ⟨rfl, hq⟩
          have L6_x := Lib.hid (fun w' (q : Q z6 w') => L5_x.out w' (hq.trans q))
          clear L5_x
          have L6_w := Lib.hid (fun w' (q : Q z6 w') => L5_w.out w' (hq.trans q))
          clear L5_w
          have L6_t := Lib.hid (fun w' (q : Q z6 w') => L5_t.out w' (hq.trans q))
          clear L5_t
          have L6_r := Lib.hid (fun w' (q : Q z6 w') => L5_r.out w' (hq.trans q))
          clear L5_r
          have Q6 := Lib.hid (Q5.out.trans hq)
          clear hq Q5
          go_wp2_with fail
          refine (ZW.out _ _ (L6_w.out _ (Q.refl _))).mono ?_
          rintro e y0 ⟨rfl, rfl⟩
          go_wp2_with fail
          refine (OD.out _ _ (L6_w.out _ (Q.refl _))).mono ?_
          rintro e y1 ⟨rfl, rfl⟩
          go_wp2_with fail
          refine (CW.out _ _ _ (L6_w.out _ (Q.refl _)) (L6_x.out _ (Q.refl _))).mono ?_
          rintro e z7 ⟨rfl, hq⟩
          have L7_x := Lib.hid (fun w' (q : Q z7 w') => L6_x.out w' (hq.trans q))
          clear L6_x
          have L7_w := Lib.hid (fun w' (q : Q z7 w') => L6_w.out w' (hq.trans q))
          clear L6_w
          have L7_t := Lib.hid (fun w' (q : Q z7 w') => L6_t.out w' (hq.trans q))
          clear L6_t
          have L7_r := Lib.hid (fun w' (q : Q z7 w') => L6_r.out w' (hq.trans q))
          clear L6_r
          have Q7 := Lib.hid (Q6.out.trans hq)
          clear hq Q6
          go_wp2_with fail
          refine (T3.out _ _ (L7_t.out _ (Q.refl _))).mono ?_
          rintro e z8 ⟨u_k, rfl, hu, hq⟩
          have L8_x := Lib.hid (fun w' (q : Q z8 w') => L7_x.out w' (hq.trans q))
          clear L7_x
          have L8_w := Lib.hid (fun w' (q : Q z8 w') => L7_w.out w' (hq.trans q))
          clear L7_w
          have L8_t := Lib.hid (fun w' (q : Q z8 w') => L7_t.out w' (hq.trans q))
          clear L7_t
          have L8_r := Lib.hid (fun w' (q : Q z8 w') => L7_r.out w' (hq.trans q))
          clear L7_r
          have L8_k := Lib.hid (fun w' (q : Q z8 w') => Lst.q hu.lst q)
          clear hu
          have Q8 := Lib.hid (Q7.out.trans hq)
          clear hq Q7
          go_wp2_with fail
          refine (SM.out _ _ _ (L8_k.out _ (Q.refl _)) (L8_t.out _ (Q.refl _))).mono ?_
          rintro e z9 ⟨rfl, hq⟩
          have L9_x := Lib.hid (fun w' (q : Q z9 w') => L8_x.out w' (hq.trans q))
          clear L8_x
          have L9_w := Lib.hid (fun w' (q : Q z9 w') => L8_w.out w' (hq.trans q))
          clear L8_w
          have L9_t := Lib.hid (fun w' (q : Q z9 w') => L8_t.out w' (hq.trans q))
          clear L8_t
          have L9_r := Lib.hid (fun w' (q : Q z9 w') => L8_r.out w' (hq.trans q))
          clear L8_r
          have L9_k := Lib.hid (fun w' (q : Q z9 w') => L8_k.out w' (hq.trans q))
          clear L8_k
          have Q9 := Lib.hid (Q8.out.trans hq)
          clear hq Q8
          go_wp2_with fail
          refine (LV.out _).mono ?_
          rintro e z10 ⟨rfl, hq⟩
          have L10_x := Lib.hid (fun w' (q : Q z10 w') => L9_x.out w' (hq.trans q))
          clear L9_x
          have L10_w := Lib.hid (fun w' (q : Q z10 w') => L9_w.out w' (hq.trans q))
          clear L9_w
          have L10_t := Lib.hid (fun w' (q : Q z10 w') => L9_t.out w' (hq.trans q))
          clear L9_t
          have L10_r := Lib.hid (fun w' (q : Q z10 w') => L9_r.out w' (hq.trans q))
          clear L9_r
          have L10_k := Lib.hid (fun w' (q : Q z10 w') => L9_k.out w' (hq.trans q))
          clear L9_k
          have Q10 := Lib.hid (Q9.out.trans hq)
          clear hq Q9
          go_wp2_with fail
          go_ret
          exact ⟨rfl, Q10.out⟩
        · go_wp2_with fail
          refine (TR2.out _ _ (L4_w.out _ (Q.refl _))).mono ?_
          rintro e z5 ⟨u_r, rfl, hu, hq⟩
          have L5_x := Lib.hid (fun w' (q : Q z5 w') => L4_x.out w' (hq.trans q))
          clear L4_x
          have L5_w := Lib.hid (fun w' (q : Q z5 w') => L4_w.out w' (hq.trans q))
          clear L4_w
          have L5_t := Lib.hid (fun w' (q : Q z5 w') => L4_t.out w' (hq.trans q))
          clear L4_t
          have L5_r := Lib.hid (fun w' (q : Q z5 w') => Lst.q hu.lst q)
          clear hu
          have Q5 := Lib.hid (Q4.out.trans hq)
          clear hq Q4
          go_wp2_with fail
          refine (SM.out _ _ _ (L5_r.out _ (Q.refl _)) (L5_t.out _ (Q.refl _))).mono ?_
          rintro e z6 ⟨rfl, hq⟩
          have L6_x := Lib.hid (fun w' (q : Q z6 w') => L5_x.out w' (hq.trans q))
          clear L5_x
          have L6_w := Lib.hid (fun w' (q : Q z6 w') => L5_w.out w' (hq.trans q))
          clear L5_w
          have L6_t := Lib.hid (fun w' (q : Q z6 w') => L5_t.out w' (hq.trans q))
          clear L5_t
          have L6_r := Lib.hid (fun w' (q : Q z6 w') => L5_r.out w' (hq.trans q))
          clear L5_r
          have Q6 := Lib.hid (Q5.out.trans hq)
          clear hq Q5
          go_wp2_with fail
          refine (ZW.out _ _ (L6_w.out _ (Q.refl _))).mono ?_
          rintro e y0 ⟨rfl, rfl⟩
          go_wp2_with fail
          refine (OD.out _ _ (L6_w.out _ (Q.refl _))).mono ?_
          rintro e y1 ⟨rfl, rfl⟩
          go_wp2_with fail
          refine (CW.out _ _ _ (L6_w.out _ (Q.refl _)) (L6_x.out _ (Q.refl _))).mono ?_
          rintro e z7 ⟨rfl, hq⟩
          have L7_x := Lib.hid (fun w' (q : Q z7 w') => L6_x.out w' (hq.trans q))
          clear L6_x
          have L7_w := Lib.hid (fun w' (q : Q z7 w') => L6_w.out w' (hq.trans q))
          clear L6_w
          have L7_t := Lib.hid (fun w' (q : Q z7 w') => L6_t.out w' (hq.trans q))
          clear L6_t
          have L7_r := Lib.hid (fun w' (q : Q z7 w') => L6_r.out w' (hq.trans q))
          clear L6_r
          have Q7 := Lib.hid (Q6.out.trans hq)
          clear hq Q6
          go_wp2_with fail
          refine (T3.out _ _ (L7_t.out _ (Q.refl _))).mono ?_
          rintro e z8 ⟨u_k, rfl, hu, hq⟩
          have L8_x := Lib.hid (fun w' (q : Q z8 w') => L7_x.out w' (hq.trans q))
          clear L7_x
          have L8_w := Lib.hid (fun w' (q : Q z8 w') => L7_w.out w' (hq.trans q))
          clear L7_w
          have L8_t := Lib.hid (fun w' (q : Q z8 w') => L7_t.out w' (hq.trans q))
          clear L7_t
          have L8_r := Lib.hid (fun w' (q : Q z8 w') => L7_r.out w' (hq.trans q))
          clear L7_r
          have L8_k := Lib.hid (fun w' (q : Q z8 w') => Lst.q hu.lst q)
          clear hu
          have Q8 := Lib.hid (Q7.out.trans hq)
          clear hq Q7
          go_wp2_with fail
          refine (SM.out _ _ _ (L8_k.out _ (Q.refl _)) (L8_t.out _ (Q.refl _))).mono ?_
          rintro e z9 ⟨rfl, hq⟩
          have L9_x := Lib.hid (fun w' (q : Q z9 w') => L8_x.out w' (hq.trans q))
          clear L8_x
          have L9_w := Lib.hid (fun w' (q : Q z9 w') => L8_w.out w' (hq.trans q))
          clear L8_w
          have L9_t := Lib.hid (fun w' (q : Q z9 w') => L8_t.out w' (hq.trans q))
          clear L8_t
          have L9_r := Lib.hid (fun w' (q : Q z9 w') => L8_r.out w' (hq.trans q))
          clear L8_r
          have L9_k := Lib.hid (fun w' (q : Q z9 w') => L8_k.out w' (hq.trans q))
          clear L8_k
          have Q9 := Lib.hid (Q8.out.trans hq)
          clear hq Q8
          go_wp2_with fail
          refine (LV.out _).mono ?_
          rintro e z10 ⟨rfl, hq⟩
          have L10_x := Lib.hid (fun w' (q : Q z10 w') => L9_x.out w' (hq.trans q))
          clear L9_x
          have L10_w := Lib.hid (fun w' (q : Q z10 w') => L9_w.out w' (hq.trans q))
          clear L9_w
          have L10_t := Lib.hid (fun w' (q : Q z10 w') => L9_t.out w' (hq.trans q))
          clear L9_t
          have L10_r := Lib.hid (fun w' (q : Q z10 w') => L9_r.out w' (hq.trans q))
          clear L9_r
          have L10_k := Lib.hid (fun w' (q : Q z10 w') => L9_k.out w' (hq.trans q))
          clear L9_k
          have Q10 := Lib.hid (Q9.out.trans hq)
          clear hq Q9
          go_wp2_with fail
          go_ret
          exact ⟨rfl, Q10.out⟩

set_option maxRecDepth 100000 in
theorem lifted (os : Os) (started : os.Started) (H : Type) (enc : TypeId × Value → H) :
    ReturnsInHanded {} Try.checked os 4 .any (Rows.digitTrimsSpec.pre6 enc Try.prog Try.f4 Rows.digitTrimsRow.domain false) (Rows.digitTrimsSpec.post enc Try.prog Try.f4 false true false false) := by
  refine returnsInHanded_of_change (C := Try.checked) own started (by kernel_rfl) Try.func4
    (ChangeSpec.witness6 (enc := enc) (C := Try.checked) false ⟨#[], #[.slice none 0 0, .int .i64 0], []⟩ 8 (by kernel_rfl) (by kernel_rfl) (by kernel_rfl) (by kernel_rfl)) ?_
  intro W base args ds gs before hval0 hW hcnd _
  have hval : ∀ (j : Nat) t v, Try.f4.params[j]? = some t → args[j]? = some v → Value.okWide Try.prog W .any base t v := hval0
  have hW' := hW
  obtain ⟨p, q, hA0, hV, rfl, hfz, hnd⟩ := hW
  have hA : DataW.TrodAll enc Try.prog W 0 (fun _ => true) true Try.f4.params.toList args.toList ds p := hA0
  rw [Try.params4] at hA hval
  obtain ⟨v0, vs0, d0, ds0, p0, q0, hargs, rfl, rfl, h0, r0⟩ := trodAll_cons hA
  obtain ⟨v1, vs1, d1, ds1, p1, q1, rfl, rfl, rfl, h1, r1⟩ := trodAll_cons r0
  obtain ⟨rfl, rfl, rfl⟩ := trodAll_nil r1
  obtain rfl : args = #[v0, v1] := by cases args; simp_all
  obtain ⟨rfl, rfl⟩ := trodVars_none hV
  obtain ⟨a0, len0, cap0, rfl⟩ := okWide_slice Try.underlying22 (hval 0 22 v0 rfl rfl)
  have k0 := h0
  have lt0 : ∀ x ∈ p0, x.block < W.heap.size := by obtain ⟨m, hm⟩ := k0; exact DataW.trod_lt m _ _ _ hm
  obtain ⟨z0, w0⟩ : ∃ zs, IsRow .i64 W a0 len0 cap0 zs := by
    obtain ⟨fuel, hf⟩ := h0
    rcases open_ints Try.underlying22 Try.underlying3 (by kernel_rfl) hf with ⟨hcs, _⟩ | ⟨x, l, c, zs, hcs, _, hl, hm, hz, _, hcell, hwz⟩
    · simp [Value.cells] at hcs
      obtain ⟨rfl, rfl, rfl⟩ := hcs
      exact ⟨[], .inl ⟨rfl, rfl, rfl, rfl⟩⟩
    · simp [Value.cells] at hcs
      obtain ⟨rfl, rfl, rfl⟩ := hcs
      exact ⟨zs, .inr ⟨_, rfl, hl, hm, by simpa using hz, hcell, hwz⟩⟩
  obtain ⟨xs0, l0, _, b0⟩ := w0.lst
  obtain ⟨a1, rfl, rfl, rfl, w1⟩ := open_int Try.underlying3 (hval 1 3 v1 rfl rfl) h1
  clear hA0 hval0
  refine (walk W (.slice a0 len0 cap0) xs0 l0 b0 a1 (bounds_i64 w1)).mono fun e W' ⟨he, bel⟩ => ?_
  subst he
  exact ⟨_, rfl, _, _, _, [], _, [], hW', trodAll_mk1 (shut_bool Try.underlying4 _), (trodAll_cons_mk (Below.trod laidOut (by kernel_rfl) (of_decide_eq_true (by kernel_rfl)) k0 bel lt0) (trodAll_cons_mk (shut_int Try.underlying3 w1) trodAll_mk0)), rfl, bel.below.frame _, fun h => by cases h⟩

/-- The statement. -/
theorem proved : Rows.DigitTrimsSaid :=
  OpenClaim.holds_of_wide 4 Try.f4 rfl rfl rfl rfl rfl rfl rfl ⟨rfl, rfl, rfl, rfl, rfl⟩ rfl rfl rfl rfl rfl (by kernel_rfl) Try.func4 (by kernel_rfl)
    (of_decide_eq_true (by kernel_rfl)) (by unfold Func.isWrapper; first | (rw [if_pos (by decide +kernel)]; kernel_rfl) | (rw [if_neg (by decide +kernel)]; exact ⟨rfl, rfl⟩))
    (fun os started H enc _ => lifted os started H enc)
#print axioms proved
end Go.Proofs.Ytcdpgibemkbclaa.digitTrims
