/- ClassPlain: of whatever two lists (the first 6 numbers of each), raw and made of Others and Extends, which are plain is told as the document says; no conditions. -/
import Derived.Test.YthafeggcmojbdaaRows
import Derived.WalkKit
import Derived.ProofKit
import Derived.OpenShut
import Derived.ShutString
import Derived.ChangeOld
import Derived.Below
import Derived.Test.YthafeggcmojbdaaInts
import Derived.Test.YthafeggcmojbdaaUtfM
import Derived.Test.YthafeggcmojbdaaUtfG
import Derived.Test.YthafeggcmojbdaaClsM
import Derived.Test.YthafeggcmojbdaaPairs
import Derived.Test.YthafeggcmojbdaaRun
import Derived.Test.YthafeggcmojbdaaClsE
import Derived.Test.YthafeggcmojbdaaClsW
import Derived.Test.YthafeggcmojbdaaClsR
import Derived.Test.YthafeggcmojbdaaClsP
import Derived.Test.YthafeggcmojbdaaClsQ
set_option linter.unusedVariables false
set_option linter.unusedSimpArgs false
namespace Go.Proofs.Ythafeggcmojbdaa.classPlain
open Go.ChangeShapes Go.WideShapes Go.ChangeAt Go.RowKit
open Go.ChangeMaps (open_string shut_string)

theorem own : ownKnob Try.prog.godebug = none := by kernel_rfl
theorem laidOut : laidOutB Try.prog = true := by kernel_rfl

open Um Cm
theorem lit1 : plainB [769] = false := by decide +kernel
theorem lit2 : plainB [65, 13] = false := by decide +kernel

set_option maxHeartbeats 2000000 in
set_option maxRecDepth 100000 in
theorem walk (w : World) (v0 : Value) (xs0 : List Int) (w0 : Lst w v0 xs0) (b0 : ∀ n ∈ xs0, -9223372036854775808 ≤ n ∧ n ≤ 9223372036854775807) (v1 : Value) (xs1 : List Int) (w1 : Lst w v1 xs1) (b1 : ∀ n ∈ xs1, -9223372036854775808 ≤ n ∧ n ≤ 9223372036854775807) :
    Calls Try.prog 8 #[v0, v1] w fun e w' => e = .returned (.bool true) ∧ Q w w' := by
  obtain ⟨ad0, cp0, rfl, hlc0, hcm0⟩ := w0.shape2
  obtain ⟨ad1, cp1, rfl, hlc1, hcm1⟩ := w1.shape2
  unfold maxLen at hcm0 hcm1
  obtain ⟨n0, hn0⟩ : ∃ n : Nat, n = min xs0.length 6 := ⟨_, rfl⟩
  obtain ⟨n1, hn1⟩ : ∃ n : Nat, n = min xs1.length 6 := ⟨_, rfl⟩
  have hmin0 : min (xs0.length : Int) 6 = (n0 : Int) := by omega
  have hmin1 : min (xs1.length : Int) 6 = (n1 : Int) := by omega
  have hnl0 : n0 ≤ xs0.length := by omega
  have hnl1 : n1 ≤ xs1.length := by omega
  have h60 : n0 ≤ 6 := by omega
  have h61 : n1 ≤ 6 := by omega
  have hr0 := w0.take n0 hnl0
  have hr1 := w1.take n1 hnl1
  have hb0 : ∀ n ∈ xs0.take n0, -9223372036854775808 ≤ n ∧ n ≤ 9223372036854775807 := fun n hn => b0 n (List.mem_of_mem_take hn)
  have hb1 : ∀ n ∈ xs1.take n1, -9223372036854775808 ≤ n ∧ n ≤ 9223372036854775807 := fun n hn => b1 n (List.mem_of_mem_take hn)
  have ht0 : (xs0.take n0).length = n0 := by rw [List.length_take]; omega
  have ht1 : (xs1.take n1).length = n1 := by rw [List.length_take]; omega
  generalize hX : xs0.take n0 = X at *
  generalize hY : xs1.take n1 = Y at *
  obtain ⟨L0, hL0⟩ : ∃ L, L = xs0.length := ⟨_, rfl⟩
  obtain ⟨L1, hL1⟩ : ∃ L, L = xs1.length := ⟨_, rfl⟩
  rw [← hL0] at hlc0 hnl0 hmin0 ⊢
  rw [← hL1] at hlc1 hnl1 hmin1 ⊢
  have hcase0 : (L0 ≤ 6 ∧ L0 = n0) ∨ (6 < L0 ∧ n0 = 6) := by omega
  have hcase1 : (L1 ≤ 6 ∧ L1 = n1) ∨ (6 < L1 ∧ n1 = 6) := by omega
  have hcn0 : n0 ≤ cp0 := by omega
  have hcn1 : n1 ≤ cp1 := by omega
  clear hn0 hn1 hX hY hL0 hL1 w0 w1 b0 b1 hmin0 hmin1
  have H0 := Lib.hid hr0
  have H1 := Lib.hid hr1
  have P0 := Lib.hid (fun (w : World) (v : Value) (h : Lst w v X) => plainL_any v X w h (by omega) hb0)
  have P1 := Lib.hid (fun (w : World) (v : Value) (h : Lst w v Y) => plainL_any v Y w h (by omega) hb1)
  have hpl : (plG 0 X).length = n0 := by rw [plG_length, ht0]
  have hpm : (plG 0 Y).length = n1 := by rw [plG_length, ht1]
  have B0 := Lib.hid (fun (j : Nat) (h : j ≤ n0) => plainB_begin X j (by rw [ht0]; exact h))
  have B1 := Lib.hid (plainB_two X Y)
  have R0 := Lib.hid (fun (w : World) (h : Lst w (.slice ad0 n0 cp0) X) => plain_any (.slice ad0 n0 cp0) X w h (by omega))
  have R1 := Lib.hid (fun (w : World) (h : Lst w (.slice ad0 n0 cp0) X) => Cr.plain_any (.slice ad0 n0 cp0) X w h (by omega))
  have HPL := Lib.hid hpl
  have HPM := Lib.hid hpm
  clear hr0 hr1 hb0 hb1 ht0 ht1
  generalize plG 0 X = A at *
  generalize plG 0 Y = B at *
  generalize plainB X = bx at *
  clear hpl hpm
  rcases hcase0 with ⟨g0, rfl⟩ | ⟨g0, rfl⟩ <;> rcases hcase1 with ⟨g1, rfl⟩ | ⟨g1, rfl⟩
  all_goals
    go_enter Try.func8, Try.ntmps8
    go_wp2_with fail
    refine (P0.out _ _ H0.out).mono ?_
    rintro e u1 ⟨va, rfl, hA, hq1⟩
    go_wp2_with fail
    refine (P1.out _ _ (H1.out.q hq1)).mono ?_
    rintro e u2 ⟨vb, rfl, hB, hq2⟩
    have hA2 := hA.q hq2
    have hqq2 := hq1.trans hq2
    have hqs2 := hqq2.le
    have hlA := hA2.lst
    have hwl0 : ([] : List Int).length + A.length < 1099511627776 := by show 0 + A.length < _; rw [HPL.out]; omega
    go_wp2_with (at_builtin; refine push_list (Own.nil _ w.heap.size) hlA rfl _ _ rfl (by rfl) (by rfl) hwl0 hqs2 ?_)
    intro vc u3 hC hg3 hat3
    have hC : Own u3 w.heap.size vc A := hC
    have hq3 : Q u2 u3 := (Q.refl _).grown hg3 (fun g h => by cases h)
    have hap : Apart vc va := by
      intro g h1 h2
      rcases hat3 with e | e
      · rw [e] at h1; cases h1
      · rw [e] at h1; cases h1; have := (hA2.lt _ h2).2; omega
    have hqq3 := hqq2.trans hq3
    have hqs3 := hqq3.le
    have hlB := (hB.q hq3).lst
    have hwl1 : A.length + B.length < 1099511627776 := by rw [HPL.out, HPM.out]; omega
    go_wp2_with (at_builtin; refine push_list hC hlB rfl _ _ rfl (by rfl) (by rfl) hwl1 hqs3 ?_)
    intro vd u4 hD hg4 hat4
    have hqq4 := hqq3.grown hg4 (fun g h => (hC.lt g h).1)
    have hA4 := ((hA2.q hq3).other hg4 hap).lst
    have hlD := hD.lst
    obtain ⟨aA, cA, rfl, hcA, hcA2⟩ := hlA.form0 HPL.out
    unfold maxLen at hcA2
    have HA4 := Lib.hid hA4
    clear hA hA2 hB hC hD hlA hlB hA4 hg3 hg4 hat3 hat4 hap
    go_wp2_with fail
    go_loopw [9] (fun i wr => ∃ j : Nat, i = .int .i64 j ∧ j ≤ A.length + 1 ∧ Q u4 wr) (fun i _ => A.length + 1 - (intOf i).toNat)
    case atStart => exact ⟨0, rfl, by omega, Q.refl _⟩
    case round =>
      obtain ⟨j, rfl, hj, hq⟩ := hrel
      rw [HPL.out] at hj
      by_cases hlt : j ≤ A.length
      · rw [HPL.out] at hlt
        have hjc : j ≤ cA := by omega
        have hlj := (HA4.out.q hq).take j (by rw [HPL.out]; exact hlt)
        have hpj := fun (w : World) (h : Lst w (.slice aA j cA) (A.take j)) => plain_any (.slice aA j cA) (A.take j) w h (by rw [List.length_take]; omega)
        rw [B0.out j hlt] at hpj
        have HPJ := Lib.hid hpj
        have HLJ := Lib.hid hlj
        clear hpj hlj
        have hcj : j = 0 ∨ 0 < j := by omega
        rcases hcj with rfl | h0
        · go_wp2_with fail
          refine (HPJ.out _ HLJ.out).mono ?_
          rintro e u5 ⟨rfl, hq5⟩
          go_wp2_with fail
          go_roundw
          case rel => exact ⟨0 + 1, by go_num, by rw [HPL.out]; omega, hq.trans hq5⟩
          case measure => rw [HPL.out]; simp [intOf]
        · have hd : decide (0 < j) = true := decide_eq_true h0
          go_wp2_with fail
          refine (HPJ.out _ HLJ.out).mono ?_
          rintro e u5 ⟨rfl, hq5⟩
          go_wp2_with fail
          go_roundw
          case rel => exact ⟨j + 1, by go_num, by rw [HPL.out]; omega, hq.trans hq5⟩
          case measure => rw [HPL.out]; simp [intOf]; omega
      · rw [HPL.out] at hlt
        have hlen : (A ++ B).length = A.length + B.length := List.length_append
        obtain ⟨N, hN⟩ : ∃ N, N = (A ++ B).length := ⟨_, rfl⟩
        obtain ⟨aD, cD, rfl, _, _⟩ := hlD.form0 hN.symm
        have hN12 : N ≤ 12 := by rw [hN, hlen, HPL.out, HPM.out]; omega
        have HLD := Lib.hid (hlD.q hq)
        have hpd := fun (w : World) (h : Lst w (.slice aD N cD) (A ++ B)) => plain_any (.slice aD N cD) (A ++ B) w h (by rw [← hN]; omega)
        rw [B1.out, ← hN] at hpd
        have HPD := Lib.hid hpd
        have H0q := Lib.hid ((H0.out.q hqq4).q hq)
        clear hpd hlD hlen hN
        have k1 := fun w => plain_any _ [769] _ (Lst.made w [769] 1 rfl (by unfold maxLen; omega)) (by simp)
        have k2 := fun w => plain_any _ [65, 13] _ (Lst.made w [65, 13] 2 rfl (by unfold maxLen; omega)) (by simp)
        rw [lit1] at k1
        rw [lit2] at k2
        simp only [List.map_cons, List.map_nil] at k1 k2
        have K1 := Lib.hid k1
        have K2 := Lib.hid k2
        clear k1 k2
        have hcn : N = 0 ∨ 0 < N := by omega
        rcases hcn with rfl | hN0
        · cases bx
          all_goals
            go_wp2_with fail
            refine (R0.out _ H0q.out).mono ?_
            rintro e u5 ⟨rfl, hq5⟩
            go_wp2_with fail
            refine (R1.out _ (H0q.out.q hq5)).mono ?_
            rintro e u6 ⟨rfl, hq6⟩
            have hq56 := hq5.trans hq6
            go_wp2_with fail
            refine (HPD.out _ (HLD.out.q hq56)).mono ?_
            rintro e u7 ⟨rfl, hq7⟩
            go_wp2_with fail
            refine (K1.out _).mono ?_
            rintro e u8 ⟨rfl, hq8⟩
            go_wp2_with fail
            refine (K2.out _).mono ?_
            rintro e u9 ⟨rfl, hq9⟩
            go_wp2_with fail
            refine (lives2_any _).mono ?_
            rintro e u10 ⟨rfl, hq10⟩
            go_wp2_with fail
            go_ret
            exact ⟨rfl, ((((((hqq4.trans hq).trans hq56).trans hq7).alloc _).trans hq8).alloc _).trans (hq9.trans hq10)⟩
        · have hd : decide (0 < N) = true := decide_eq_true hN0
          cases bx
          all_goals
            go_wp2_with fail
            refine (R0.out _ H0q.out).mono ?_
            rintro e u5 ⟨rfl, hq5⟩
            go_wp2_with fail
            refine (R1.out _ (H0q.out.q hq5)).mono ?_
            rintro e u6 ⟨rfl, hq6⟩
            have hq56 := hq5.trans hq6
            go_wp2_with fail
            refine (HPD.out _ (HLD.out.q hq56)).mono ?_
            rintro e u7 ⟨rfl, hq7⟩
            go_wp2_with fail
            refine (K1.out _).mono ?_
            rintro e u8 ⟨rfl, hq8⟩
            go_wp2_with fail
            refine (K2.out _).mono ?_
            rintro e u9 ⟨rfl, hq9⟩
            go_wp2_with fail
            refine (lives2_any _).mono ?_
            rintro e u10 ⟨rfl, hq10⟩
            go_wp2_with fail
            go_ret
            exact ⟨rfl, ((((((hqq4.trans hq).trans hq56).trans hq7).alloc _).trans hq8).alloc _).trans (hq9.trans hq10)⟩

set_option maxRecDepth 100000 in
theorem lifted (os : Os) (started : os.Started) (H : Type) (enc : TypeId × Value → H) :
    ReturnsInHanded {} Try.checked os 8 .any (Rows.classPlainSpec.pre6 enc Try.prog Try.f8 Rows.classPlainRow.domain false) (Rows.classPlainSpec.post enc Try.prog Try.f8 false true false false) := by
  refine returnsInHanded_of_change (C := Try.checked) own started (by kernel_rfl) Try.func8
    (ChangeSpec.witness6 (enc := enc) (C := Try.checked) false ⟨#[], #[.slice none 0 0, .slice none 0 0], []⟩ 8 (by kernel_rfl) (by kernel_rfl) (by kernel_rfl) (by kernel_rfl)) ?_
  intro W base args ds gs before hval0 hW hcnd _
  have hval : ∀ (j : Nat) t v, Try.f8.params[j]? = some t → args[j]? = some v → Value.okWide Try.prog W .any base t v := hval0
  have hW' := hW
  obtain ⟨p, q, hA0, hV, rfl, hfz, hnd⟩ := hW
  have hA : DataW.TrodAll enc Try.prog W 0 (fun _ => true) true Try.f8.params.toList args.toList ds p := hA0
  rw [Try.params8] at hA hval
  obtain ⟨v0, vs0, d0, ds0, p0, q0, hargs, rfl, rfl, h0, r0⟩ := trodAll_cons hA
  obtain ⟨v1, vs1, d1, ds1, p1, q1, rfl, rfl, rfl, h1, r1⟩ := trodAll_cons r0
  obtain ⟨rfl, rfl, rfl⟩ := trodAll_nil r1
  obtain rfl : args = #[v0, v1] := by cases args; simp_all
  obtain ⟨rfl, rfl⟩ := trodVars_none hV
  obtain ⟨a0, len0, cap0, rfl⟩ := okWide_slice Try.underlying24 (hval 0 24 v0 rfl rfl)
  have k0 := h0
  have lt0 : ∀ x ∈ p0, x.block < W.heap.size := by obtain ⟨m, hm⟩ := k0; exact DataW.trod_lt m _ _ _ hm
  obtain ⟨z0, w0⟩ : ∃ zs, IsRow .i64 W a0 len0 cap0 zs := by
    obtain ⟨fuel, hf⟩ := h0
    rcases open_ints Try.underlying24 Try.underlying3 (by kernel_rfl) hf with ⟨hcs, _⟩ | ⟨x, l, c, zs, hcs, _, hl, hm, hz, _, hcell, hwz⟩
    · simp [Value.cells] at hcs
      obtain ⟨rfl, rfl, rfl⟩ := hcs
      exact ⟨[], .inl ⟨rfl, rfl, rfl, rfl⟩⟩
    · simp [Value.cells] at hcs
      obtain ⟨rfl, rfl, rfl⟩ := hcs
      exact ⟨zs, .inr ⟨_, rfl, hl, hm, by simpa using hz, hcell, hwz⟩⟩
  obtain ⟨xs0, l0, _, b0⟩ := w0.lst
  obtain ⟨a1, len1, cap1, rfl⟩ := okWide_slice Try.underlying24 (hval 1 24 v1 rfl rfl)
  have k1 := h1
  have lt1 : ∀ x ∈ p1, x.block < W.heap.size := by obtain ⟨m, hm⟩ := k1; exact DataW.trod_lt m _ _ _ hm
  obtain ⟨z1, w1⟩ : ∃ zs, IsRow .i64 W a1 len1 cap1 zs := by
    obtain ⟨fuel, hf⟩ := h1
    rcases open_ints Try.underlying24 Try.underlying3 (by kernel_rfl) hf with ⟨hcs, _⟩ | ⟨x, l, c, zs, hcs, _, hl, hm, hz, _, hcell, hwz⟩
    · simp [Value.cells] at hcs
      obtain ⟨rfl, rfl, rfl⟩ := hcs
      exact ⟨[], .inl ⟨rfl, rfl, rfl, rfl⟩⟩
    · simp [Value.cells] at hcs
      obtain ⟨rfl, rfl, rfl⟩ := hcs
      exact ⟨zs, .inr ⟨_, rfl, hl, hm, by simpa using hz, hcell, hwz⟩⟩
  obtain ⟨xs1, l1, _, b1⟩ := w1.lst
  clear hA0 hval0
  refine (walk W (.slice a0 len0 cap0) xs0 l0 b0 (.slice a1 len1 cap1) xs1 l1 b1).mono fun e W' ⟨he, bel⟩ => ?_
  subst he
  exact ⟨_, rfl, _, _, _, [], _, [], hW', trodAll_mk1 (shut_bool Try.underlying4 _), (trodAll_cons_mk (Below.trod laidOut (by kernel_rfl) (of_decide_eq_true (by kernel_rfl)) k0 bel lt0) (trodAll_cons_mk (Below.trod laidOut (by kernel_rfl) (of_decide_eq_true (by kernel_rfl)) k1 bel lt1) trodAll_mk0)), rfl, bel.below.frame _, fun h => by cases h⟩

/-- The statement. -/
theorem proved : Rows.ClassPlainSaid :=
  OpenClaim.holds_of_wide 8 Try.f8 rfl rfl rfl rfl rfl rfl rfl ⟨rfl, rfl, rfl, rfl, rfl⟩ rfl rfl rfl rfl rfl (by kernel_rfl) Try.func8 (by kernel_rfl)
    (of_decide_eq_true (by kernel_rfl)) (by unfold Func.isWrapper; first | (rw [if_pos (by decide +kernel)]; kernel_rfl) | (rw [if_neg (by decide +kernel)]; exact ⟨rfl, rfl⟩))
    (fun os started H enc _ => lifted os started H enc)
#print axioms proved
end Go.Proofs.Ythafeggcmojbdaa.classPlain
