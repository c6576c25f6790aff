/- DraftFrom: of whatever decimal (its first twelve numbers; raw, and made one that may be) and whatever two numbers of digits (raw, and made 0 to 12), its draft is the document's, or refused as there; and the draft of one that may be has its number, and the digits asked for; no conditions. -/
import Derived.Test.YtagpofhencpliaaRows
import Derived.WalkKit
import Derived.ProofKit
import Derived.OpenShut
import Derived.ShutString
import Derived.ChangeOld
import Derived.Below
import Derived.Lib.SmallJoins
import Derived.Test.YtagpofhencpliaaInts
import Derived.Test.YtagpofhencpliaaRows
import Derived.Test.YtagpofhencpliaaUtfM
import Derived.Test.YtagpofhencpliaaUtfG
import Derived.Test.YtagpofhencpliaaUtfR
import Derived.Test.YtagpofhencpliaaDigM
import Derived.Test.YtagpofhencpliaaDigL
import Derived.Test.YtagpofhencpliaaDigR
import Derived.Test.YtagpofhencpliaaDecM
import Derived.Test.YtagpofhencpliaaInts
import Derived.Test.YtagpofhencpliaaSto
import Derived.Test.YtagpofhencpliaaDecR
import Derived.Test.YtagpofhencpliaaDecS
import Derived.Test.YtagpofhencpliaaDecC
import Derived.Test.YtagpofhencpliaaBlk
import Derived.Test.YtagpofhencpliaaLdR
import Derived.Test.YtagpofhencpliaaFrH
import Derived.Test.YtagpofhencpliaaTmM
import Derived.Test.YtagpofhencpliaaTmS
import Derived.Test.YtagpofhencpliaaTmA
import Derived.Test.YtagpofhencpliaaTmB
import Derived.Test.YtagpofhencpliaaTmC
import Derived.Test.YtagpofhencpliaaTmD
import Derived.Test.YtagpofhencpliaaTmE
import Derived.Test.YtagpofhencpliaaTmF
import Derived.Test.YtagpofhencpliaaTmG
import Derived.Test.YtagpofhencpliaaTrA
import Derived.Test.YtagpofhencpliaaTrB
import Derived.Test.YtagpofhencpliaaTrC
import Derived.Test.YtagpofhencpliaaTrD
import Derived.Test.YtagpofhencpliaaTrE
import Derived.Test.YtagpofhencpliaaTlA
import Derived.Test.YtagpofhencpliaaTlB
set_option linter.unusedVariables false
set_option linter.unusedSimpArgs false
namespace Go.Proofs.Ytagpofhencpliaa.draftFrom
open Go.ChangeShapes Go.WideShapes Go.ChangeAt Go.RowKit
open Go.ChangeMaps (open_string shut_string)

theorem own : ownKnob Try.prog.godebug = none := by kernel_rfl
theorem laidOut : laidOutB Try.prog = true := by kernel_rfl


set_option maxHeartbeats 8000000 in
set_option maxRecDepth 100000 in
theorem walk (w : World) (g0 : Bool) (v0 : Value) (xs0 : List Int) (w0 : Lst w v0 xs0) (b0 : ∀ n ∈ xs0, -9223372036854775808 ≤ n ∧ n ≤ 9223372036854775807) (s0 : Int) (ws0 : -9223372036854775808 ≤ s0 ∧ s0 ≤ 9223372036854775807) (a1 : Int) (w1 : -9223372036854775808 ≤ a1 ∧ a1 ≤ 9223372036854775807) (a2 : Int) (w2 : -9223372036854775808 ≤ a2 ∧ a2 ≤ 9223372036854775807) :
    Calls Try.prog 5 #[.agg #[.bool g0, v0, .int .i64 s0], .int .i64 a1, .int .i64 a2] w fun e w' => e = .returned (.bool true) ∧ Q w w' := by
  obtain ⟨A0, C0, rfl, hca, hcb⟩ := w0.shape2
  obtain ⟨l0, hl0⟩ : ∃ x, x = xs0.length := ⟨_, rfl⟩
  rw [← hl0] at hca w0 ⊢
  obtain ⟨t, ht⟩ : ∃ t : Nat, Um.around s0 10 = (t : Int) := ⟨(Um.around s0 10).toNat, by have := Um.around_bd s0 10 (by omega); omega⟩
  have tb : t ≤ 9 := by have := Um.around_bd s0 10 (by omega); omega
  have xl := Dm.gdL_len xs0 12
  have xk := Dm.gdL_ok xs0 12
  obtain ⟨X, hX⟩ : ∃ X, X = Dm.gdL xs0 12 := ⟨_, rfl⟩
  rw [← hX] at xl xk
  obtain ⟨xn, hxn⟩ : ∃ x, x = X.length := ⟨_, rfl⟩
  have HX := Lib.hid (fun u (q : Q w u) => (by
    refine (Er.good_any g0 (.slice A0 l0 C0) s0 xs0 12 u (w0.q q) ws0 (by omega) b0).mono ?_
    rintro e w' ⟨x, rfl, hx, hq⟩
    obtain ⟨xa, xc, rfl⟩ := hx.shape
    rw [← hX] at hx ⊢
    rw [← hxn] at hx ⊢
    rw [ht]
    exact ⟨xa, xc, rfl, hx.lst, hq⟩ : Calls Try.prog 31 #[.agg #[.bool g0, .slice A0 l0 C0, .int .i64 s0], .int .i64 12] u fun e w' => ∃ xa xc, e = .returned (.agg #[.bool g0, .slice xa xn xc, .int .i64 (t : Nat)]) ∧ Lst w' (.slice xa xn xc) X ∧ Q u w'))
  have xb : xn ≤ 12 := by omega
  obtain ⟨f, hf⟩ : ∃ x, x = min l0 12 := ⟨_, rfl⟩
  have fb : f ≤ 12 := by omega
  have HW := Lib.hid (fun u => (by rw [hf]; exact Er.few_any g0 A0 l0 C0 s0 12 u hca hcb (by omega) : Calls Try.prog 32 #[.agg #[.bool g0, .slice A0 l0 C0, .int .i64 s0], .int .i64 12] u fun e w' => e = .returned (.agg #[.bool g0, .slice A0 f C0, .int .i64 s0]) ∧ Q u w'))
  have hr := Lst.take w0 f (by omega)
  have rn : (xs0.take f).length = f := by rw [List.length_take]; omega
  obtain ⟨R, hR⟩ : ∃ R, R = xs0.take f := ⟨_, rfl⟩
  rw [← hR] at hr rn
  have HRW := Lib.hid (fun u (q : Q w u) => hr.q q)
  obtain ⟨pz, hp⟩ : ∃ p, p = Um.around a1 13 := ⟨_, rfl⟩
  obtain ⟨qz, hq⟩ : ∃ p, p = Um.around a2 13 := ⟨_, rfl⟩
  have pb := Um.around_bd a1 13 (by omega)
  have qb := Um.around_bd a2 13 (by omega)
  rw [← hp] at pb
  rw [← hq] at qb
  have HR1 := Lib.hid (fun u => (by
    refine (Ur.around_any a1 13 u w1.1 w1.2 (by omega) (by omega)).mono ?_
    rintro e w' ⟨rfl, rfl⟩
    exact ⟨by rw [hp], Q.refl _⟩ : Calls Try.prog 11 #[.int .i64 a1, .int .i64 13] u fun e w' => e = .returned (.int .i64 pz) ∧ Q u w'))
  have HR2 := Lib.hid (fun u => (by
    refine (Ur.around_any a2 13 u w2.1 w2.2 (by omega) (by omega)).mono ?_
    rintro e w' ⟨rfl, rfl⟩
    exact ⟨by rw [hq], Q.refl _⟩ : Calls Try.prog 11 #[.int .i64 a2, .int .i64 13] u fun e w' => e = .returned (.int .i64 qz) ∧ Q u w'))
  obtain ⟨p, rfl⟩ : ∃ p : Nat, pz = p := ⟨pz.toNat, by omega⟩
  obtain ⟨q, rfl⟩ : ∃ p : Nat, qz = p := ⟨qz.toNat, by omega⟩
  have okx := (Dm.okB_iff X).2 xk
  have hfr := Tm.frC_in (g := g0) okx (show t ≤ 1000 from by omega) (show p ≤ 64 from by omega) (show q ≤ 64 from by omega)
  have hdm := Tm.fr_may g0 X t p q
  have hdl := Tm.fr_len g0 X t p q
  have hdh := Tm.fr_hi g0 X t p q xk
  have hdc := Tm.fr_cmp g0 X t p q
  have hdz := Tm.fr_zl g0 X t p q xk
  have HF1 := Lib.hid (fun u a c (hv : Lst u (.slice a xn c) X) => (by
    have h := Tp.from_any g0 a xn c t p q X u hv hxn.symm (by omega) (by omega)
    rw [hfr.1, hfr.2] at h
    exact h))
  have HG1 := Lib.hid (fun u a c (hv : Lst u (.slice a xn c) X) => (by
    have h := Tr.from_any g0 a xn c t p q X u hv hxn.symm (by omega) (by omega)
    rw [hfr.1, hfr.2] at h
    exact h))
  have HF2 := Lib.hid (fun u (qq : Q w u) => Tp.from_any g0 _ f _ s0 a1 a2 R u (hr.q qq) rn (by omega) ws0)
  have HG2 := Lib.hid (fun u (qq : Q w u) => Tr.from_any g0 _ f _ s0 a1 a2 R u (hr.q qq) rn (by omega) ws0)
  have HF3 := Lib.hid (fun u (qq : Q w u) => Tp.from_any g0 _ f _ s0 p q R u (hr.q qq) rn (by omega) ws0)
  have HG3 := Lib.hid (fun u (qq : Q w u) => Tr.from_any g0 _ f _ s0 p q R u (hr.q qq) rn (by omega) ws0)
  obtain ⟨D, hD⟩ : ∃ D, D = Tm.frD g0 X t p q := ⟨_, rfl⟩
  rw [← hD] at HF1 HG1 hdm hdl hdh hdc hdz
  clear hfr hD
  have hbU := Tm.frR_bd g0 R s0 a1 a2 (by omega)
  have hbY := Tm.frR_bd g0 R s0 p q (by omega)
  generalize Tm.frC R s0 a1 a2 = C2 at *
  generalize Tm.frR g0 R s0 a1 a2 = U at *
  generalize Tm.frC R s0 p q = C3 at *
  generalize Tm.frR g0 R s0 p q = Y at *
  obtain ⟨okiD, okfD, _⟩ := Tm.may_dig hdm
  obtain ⟨iD, hiD⟩ : ∃ n, n = D.i.length := ⟨_, rfl⟩
  obtain ⟨fD, hfD⟩ : ∃ n, n = D.f.length := ⟨_, rfl⟩
  have HDL := Lib.hid (⟨hiD.symm, hfD.symm⟩ : D.i.length = iD ∧ D.f.length = fD)
  obtain ⟨iU, hiU⟩ : ∃ n, n = U.i.length := ⟨_, rfl⟩
  obtain ⟨fU, hfU⟩ : ∃ n, n = U.f.length := ⟨_, rfl⟩
  have HUL := Lib.hid (⟨hiU.symm, hfU.symm⟩ : U.i.length = iU ∧ U.f.length = fU)
  obtain ⟨iY, hiY⟩ : ∃ n, n = Y.i.length := ⟨_, rfl⟩
  obtain ⟨fY, hfY⟩ : ∃ n, n = Y.f.length := ⟨_, rfl⟩
  have HYL := Lib.hid (⟨hiY.symm, hfY.symm⟩ : Y.i.length = iY ∧ Y.f.length = fY)
  rw [← hfD] at hdc hdz
  rw [← hiD, ← hfD] at hdl hdh
  clear hiD hfD hiU hfU hiY hfY
  have hbU' : iU < 1000000 ∧ fU < 1000000 := by rw [HUL.out.1, HUL.out.2] at hbU; omega
  have hbY' : iY < 1000000 ∧ fY < 1000000 := by rw [HYL.out.1, HYL.out.2] at hbY; omega
  have hbD' : iD < 1000000 ∧ fD < 1000000 := by omega
  clear hbU hbY
  have hD5 : iD ≤ 100000 ∧ fD ≤ 100000 := by omega
  have hpi : ((iD : Int) ≥ (p : Int)) := by omega
  have hqf : ((fD : Int) ≥ (q : Int)) := by omega
  obtain ⟨k, hk⟩ : ∃ k, k = (Tm.sep D.s).length := ⟨_, rfl⟩
  have hk1 : k ≤ 1 := by rw [hk]; exact Tm.sep_len D.s
  obtain ⟨N, hN⟩ : ∃ N, N = iD + k + fD := ⟨_, rfl⟩
  have hN0 : (N : Int) > 0 := by have h := hdl.2.2; rw [Tm.ats_len, HDL.out.1, HDL.out.2, ← hk, ← hN] at h; omega
  have hN1 : 0 < N := by omega
  have HLN := Lib.hid (fun u a c b d => ((Tp.len_any D.g D.s a b iD fD c d u (by omega) (by omega)).mono fun _ _ h => ⟨h.1.trans (retI (by omega)), h.2⟩ : Calls Try.prog 17 #[.agg #[.bool D.g, .slice a iD c, .bool D.s, .slice b fD d]] u fun e w' => e = .returned (.int .i64 (N : Nat)) ∧ Q u w'))
  have HMX := Lib.hid (fun u a c b d (h1 : Lst u (.slice a iD c) D.i) (h2 : Lst u (.slice b fD d) D.f) => (by
    have h := Tp.may_any D.g D.s _ _ D.i D.f u h1 h2 (by rw [HDL.out.1]; omega) (by rw [HDL.out.2]; omega)
    rw [show Tm.may ⟨D.g, D.i, D.s, D.f⟩ = true from hdm] at h
    exact h : Calls Try.prog 12 #[.agg #[.bool D.g, .slice a iD c, .bool D.s, .slice b fD d]] u fun e w' => e = .returned (.bool true) ∧ Q u w'))
  have HSM := Lib.hid (fun (T : Tm.T) i f u a c b d a' c' b' d' (hi : T.i.length = i) (hf : T.f.length = f) (h5 : i < 1000000 ∧ f < 1000000) (h1 : Lst u (.slice a i c) T.i) (h2 : Lst u (.slice b f d) T.f) (h3 : Lst u (.slice a' i c') T.i) (h4 : Lst u (.slice b' f d') T.f) => (by
    have h := Tr.same_any T.g T.s T.g T.s _ _ _ _ T.i T.f T.i T.f u h1 h2 h3 h4 (by omega) (by omega) (by omega) (by omega)
    rw [(Tm.same_iff _ _).2 rfl] at h
    exact h))
  have HD1 := Lib.hid (fun u a c b d (h1 : Lst u (.slice a iD c) D.i) (h2 : Lst u (.slice b fD d) D.f) => Tp.dec_any D.g D.s a b iD fD c d D.i D.f u h1 h2 HDL.out.1 HDL.out.2 (by omega) (by omega) okiD okfD)
  have hzo := Dm.okD_dg (Dm.st (Dm.num (D.i ++ D.f)) fD).1
  generalize Dm.cg D.g (Dm.num (D.i ++ D.f)) = cs at *
  generalize (Dm.st (Dm.num (D.i ++ D.f)) fD).2 = S at *
  generalize Dm.dg (Dm.st (Dm.num (D.i ++ D.f)) fD).1 = Z at *
  obtain ⟨zl, hzle⟩ : ∃ zl, zl = Z.length := ⟨_, rfl⟩
  rw [← hzle] at HD1 hdz
  have HCM := Lib.hid (fun u a c b d (h1 : Lst u (.slice a zl c) Z) (h2 : Lst u (.slice b xn d) X) => (by
    have h := Er.compare_any cs g0 _ _ S t Z X u h1 h2 (by omega) (by omega) hzo xk (by omega) (by omega)
    rw [hdc] at h
    exact h : Calls Try.prog 35 #[.agg #[.bool cs, .slice a zl c, .int .i64 (S : Nat)], .agg #[.bool g0, .slice b xn d, .int .i64 (t : Nat)]] u fun e w' => e = .returned (.int .i64 0) ∧ Q u w'))
  have HLV := Lib.hid Tl.lives_any
  have HAS := Lib.hid Tl.as_q
  clear hdm hdl hdh hdc hdz hzo hzle okx xk xl hX hxn hf hr rn hR ht hp hq hk hN okiD okfD hca hcb w0 b0 w1 w2 ws0 hl0
  obtain ⟨y0, hy0⟩ : ∃ y, y = w.alloc (.cells #[.bool g0, .slice A0 l0 C0, .int .i64 s0] 40) := ⟨_, rfl⟩
  have hq : Q w y0 := by rw [hy0]; exact (Q.refl _).alloc _
  have hb : Bk y0 (w.heap.size) 40 [.bool g0, .slice A0 l0 C0, .int .i64 s0] := by rw [hy0]; exact Bk.new _ _ _
  have hs0 : y0.heap.size = w.heap.size + 1 := by rw [hy0]; simp
  have HQ := Lib.hid hq
  have HA := Lib.hid hb
  clear hq hb
  go_enter Try.func5, Try.ntmps5
  go_upto_region 1 with fail
  first | rw [← hy0] | (rw [← hy0])
  clear hy0 hs0
  have d0 := HA.out.cell 0 rfl
  have d1 := HA.out.cell 1 rfl
  have d2 := HA.out.cell 2 rfl
  go_wp2_with fail
  refine (HX.out _ HQ.out).mono ?_
  rintro e v1 ⟨xa, xc, rfl, ho, hq⟩
  clear d0 d1 d2
  replace HQ := Lib.hid (Q.trans HQ.out hq)
  replace HA := Lib.hid (Bk.q HA.out hq)
  have HOX := Lib.hid ho
  clear hq ho
  obtain ⟨v2, hv2⟩ : ∃ y, y = v1.alloc (.cells #[.bool g0, .slice xa xn xc, .int .i64 (t : Nat)] 40) := ⟨_, rfl⟩
  have hqb : Q v1 v2 := by rw [hv2]; exact (Q.refl _).alloc _
  have hbx : Bk v2 v1.heap.size 40 [.bool g0, .slice xa xn xc, .int .i64 (t : Nat)] := by rw [hv2]; exact Bk.new _ _ _
  obtain ⟨bxx, hbxx⟩ : ∃ b, b = v1.heap.size := ⟨_, rfl⟩
  rw [← hbxx] at hbx
  replace HQ := Lib.hid (Q.trans HQ.out hqb)
  replace HA := Lib.hid (Bk.q HA.out hqb)
  replace HOX := Lib.hid (Lst.q HOX.out hqb)
  have HBxx := Lib.hid hbx
  clear hqb hbx
  go_upto_region 2 with fail
  rw [← hv2, ← hbxx]
  clear hv2 hbxx
  have d0 := HA.out.cell 0 rfl
  have d1 := HA.out.cell 1 rfl
  have d2 := HA.out.cell 2 rfl
  go_wp2_with fail
  refine (HW.out _).mono ?_
  rintro e v3 ⟨rfl, hq⟩
  clear d0 d1 d2
  replace HQ := Lib.hid (Q.trans HQ.out hq)
  replace HA := Lib.hid (Bk.q HA.out hq)
  replace HOX := Lib.hid (Lst.q HOX.out hq)
  replace HBxx := Lib.hid (Bk.q HBxx.out hq)
  clear hq
  obtain ⟨v4, hv4⟩ : ∃ y, y = v3.alloc (.cells #[.bool g0, .slice A0 f C0, .int .i64 s0] 40) := ⟨_, rfl⟩
  have hqb : Q v3 v4 := by rw [hv4]; exact (Q.refl _).alloc _
  have hbx : Bk v4 v3.heap.size 40 [.bool g0, .slice A0 f C0, .int .i64 s0] := by rw [hv4]; exact Bk.new _ _ _
  obtain ⟨brw, hbrw⟩ : ∃ b, b = v3.heap.size := ⟨_, rfl⟩
  rw [← hbrw] at hbx
  replace HQ := Lib.hid (Q.trans HQ.out hqb)
  replace HA := Lib.hid (Bk.q HA.out hqb)
  replace HOX := Lib.hid (Lst.q HOX.out hqb)
  replace HBxx := Lib.hid (Bk.q HBxx.out hqb)
  have HBrw := Lib.hid hbx
  clear hqb hbx
  go_upto_region 3 with fail
  rw [← hv4, ← hbrw]
  clear hv4 hbrw
  go_wp2_with fail
  refine (HR1.out _).mono ?_
  rintro e v5 ⟨rfl, hq⟩
  replace HQ := Lib.hid (Q.trans HQ.out hq)
  replace HA := Lib.hid (Bk.q HA.out hq)
  replace HOX := Lib.hid (Lst.q HOX.out hq)
  replace HBxx := Lib.hid (Bk.q HBxx.out hq)
  replace HBrw := Lib.hid (Bk.q HBrw.out hq)
  clear hq
  go_wp2_with fail
  refine (HR2.out _).mono ?_
  rintro e v6 ⟨rfl, hq⟩
  replace HQ := Lib.hid (Q.trans HQ.out hq)
  replace HA := Lib.hid (Bk.q HA.out hq)
  replace HOX := Lib.hid (Lst.q HOX.out hq)
  replace HBxx := Lib.hid (Bk.q HBxx.out hq)
  replace HBrw := Lib.hid (Bk.q HBrw.out hq)
  clear hq
  have d0 := HBxx.out.cell 0 rfl
  have d1 := HBxx.out.cell 1 rfl
  have d2 := HBxx.out.cell 2 rfl
  go_wp2_with fail
  refine (HF1.out _ _ _ HOX.out).mono ?_
  rintro e v7 ⟨xo, rfl, ⟨qada, qcda, qbda, qdda, rfl, ho1, ho2⟩, hq⟩
  rw [HDL.out.1] at ho1 ⊢
  rw [HDL.out.2] at ho2 ⊢
  clear d0 d1 d2
  replace HQ := Lib.hid (Q.trans HQ.out hq)
  replace HA := Lib.hid (Bk.q HA.out hq)
  replace HOX := Lib.hid (Lst.q HOX.out hq)
  replace HBxx := Lib.hid (Bk.q HBxx.out hq)
  replace HBrw := Lib.hid (Bk.q HBrw.out hq)
  have HIda := Lib.hid ho1.lst
  have HFda := Lib.hid ho2.lst
  clear hq ho1 ho2
  obtain ⟨v8, hv8⟩ : ∃ y, y = v7.alloc (.cells #[.bool D.g, .slice qada iD qcda, .bool D.s, .slice qbda fD qdda] 30) := ⟨_, rfl⟩
  have hqb : Q v7 v8 := by rw [hv8]; exact (Q.refl _).alloc _
  have hbx : Bk v8 v7.heap.size 30 [.bool D.g, .slice qada iD qcda, .bool D.s, .slice qbda fD qdda] := by rw [hv8]; exact Bk.new _ _ _
  obtain ⟨bda, hbda⟩ : ∃ b, b = v7.heap.size := ⟨_, rfl⟩
  rw [← hbda] at hbx
  replace HQ := Lib.hid (Q.trans HQ.out hqb)
  replace HA := Lib.hid (Bk.q HA.out hqb)
  replace HOX := Lib.hid (Lst.q HOX.out hqb)
  replace HBxx := Lib.hid (Bk.q HBxx.out hqb)
  replace HBrw := Lib.hid (Bk.q HBrw.out hqb)
  replace HIda := Lib.hid (Lst.q HIda.out hqb)
  replace HFda := Lib.hid (Lst.q HFda.out hqb)
  have HBda := Lib.hid hbx
  clear hqb hbx
  go_upto_region 6 with fail
  rw [← hv8, ← hbda]
  clear hv8 hbda
  have d0 := HBxx.out.cell 0 rfl
  have d1 := HBxx.out.cell 1 rfl
  have d2 := HBxx.out.cell 2 rfl
  go_wp2_with fail
  refine (HG1.out _ _ _ HOX.out).mono ?_
  rintro e v9 ⟨xo, rfl, ⟨qadb, qcdb, qbdb, qddb, rfl, ho1, ho2⟩, hq⟩
  rw [HDL.out.1] at ho1 ⊢
  rw [HDL.out.2] at ho2 ⊢
  clear d0 d1 d2
  replace HQ := Lib.hid (Q.trans HQ.out hq)
  replace HA := Lib.hid (Bk.q HA.out hq)
  replace HOX := Lib.hid (Lst.q HOX.out hq)
  replace HBxx := Lib.hid (Bk.q HBxx.out hq)
  replace HBrw := Lib.hid (Bk.q HBrw.out hq)
  replace HIda := Lib.hid (Lst.q HIda.out hq)
  replace HFda := Lib.hid (Lst.q HFda.out hq)
  replace HBda := Lib.hid (Bk.q HBda.out hq)
  have HIdb := Lib.hid ho1.lst
  have HFdb := Lib.hid ho2.lst
  clear hq ho1 ho2
  obtain ⟨v10, hv10⟩ : ∃ y, y = v9.alloc (.cells #[.bool D.g, .slice qadb iD qcdb, .bool D.s, .slice qbdb fD qddb] 24) := ⟨_, rfl⟩
  have hqb : Q v9 v10 := by rw [hv10]; exact (Q.refl _).alloc _
  have hbx : Bk v10 v9.heap.size 24 [.bool D.g, .slice qadb iD qcdb, .bool D.s, .slice qbdb fD qddb] := by rw [hv10]; exact Bk.new _ _ _
  obtain ⟨bdb, hbdb⟩ : ∃ b, b = v9.heap.size := ⟨_, rfl⟩
  rw [← hbdb] at hbx
  replace HQ := Lib.hid (Q.trans HQ.out hqb)
  replace HA := Lib.hid (Bk.q HA.out hqb)
  replace HOX := Lib.hid (Lst.q HOX.out hqb)
  replace HBxx := Lib.hid (Bk.q HBxx.out hqb)
  replace HBrw := Lib.hid (Bk.q HBrw.out hqb)
  replace HIda := Lib.hid (Lst.q HIda.out hqb)
  replace HFda := Lib.hid (Lst.q HFda.out hqb)
  replace HBda := Lib.hid (Bk.q HBda.out hqb)
  replace HIdb := Lib.hid (Lst.q HIdb.out hqb)
  replace HFdb := Lib.hid (Lst.q HFdb.out hqb)
  have HBdb := Lib.hid hbx
  clear hqb hbx
  go_upto_region 7 with fail
  rw [← hv10, ← hbdb]
  clear hv10 hbdb
  have d0 := HBrw.out.cell 0 rfl
  have d1 := HBrw.out.cell 1 rfl
  have d2 := HBrw.out.cell 2 rfl
  go_wp2_with fail
  refine (HF2.out _ HQ.out).mono ?_
  rintro e v11 ⟨xo, rfl, ⟨qapa, qcpa, qbpa, qdpa, rfl, ho1, ho2⟩, hq⟩
  rw [HUL.out.1] at ho1 ⊢
  rw [HUL.out.2] at ho2 ⊢
  clear d0 d1 d2
  replace HQ := Lib.hid (Q.trans HQ.out hq)
  replace HA := Lib.hid (Bk.q HA.out hq)
  replace HOX := Lib.hid (Lst.q HOX.out hq)
  replace HBxx := Lib.hid (Bk.q HBxx.out hq)
  replace HBrw := Lib.hid (Bk.q HBrw.out hq)
  replace HIda := Lib.hid (Lst.q HIda.out hq)
  replace HFda := Lib.hid (Lst.q HFda.out hq)
  replace HBda := Lib.hid (Bk.q HBda.out hq)
  replace HIdb := Lib.hid (Lst.q HIdb.out hq)
  replace HFdb := Lib.hid (Lst.q HFdb.out hq)
  replace HBdb := Lib.hid (Bk.q HBdb.out hq)
  have HIpa := Lib.hid ho1.lst
  have HFpa := Lib.hid ho2.lst
  clear hq ho1 ho2
  obtain ⟨v12, hv12⟩ : ∃ y, y = v11.alloc (.cells #[.bool U.g, .slice qapa iU qcpa, .bool U.s, .slice qbpa fU qdpa] 30) := ⟨_, rfl⟩
  have hqb : Q v11 v12 := by rw [hv12]; exact (Q.refl _).alloc _
  have hbx : Bk v12 v11.heap.size 30 [.bool U.g, .slice qapa iU qcpa, .bool U.s, .slice qbpa fU qdpa] := by rw [hv12]; exact Bk.new _ _ _
  obtain ⟨bpa, hbpa⟩ : ∃ b, b = v11.heap.size := ⟨_, rfl⟩
  rw [← hbpa] at hbx
  replace HQ := Lib.hid (Q.trans HQ.out hqb)
  replace HA := Lib.hid (Bk.q HA.out hqb)
  replace HOX := Lib.hid (Lst.q HOX.out hqb)
  replace HBxx := Lib.hid (Bk.q HBxx.out hqb)
  replace HBrw := Lib.hid (Bk.q HBrw.out hqb)
  replace HIda := Lib.hid (Lst.q HIda.out hqb)
  replace HFda := Lib.hid (Lst.q HFda.out hqb)
  replace HBda := Lib.hid (Bk.q HBda.out hqb)
  replace HIdb := Lib.hid (Lst.q HIdb.out hqb)
  replace HFdb := Lib.hid (Lst.q HFdb.out hqb)
  replace HBdb := Lib.hid (Bk.q HBdb.out hqb)
  replace HIpa := Lib.hid (Lst.q HIpa.out hqb)
  replace HFpa := Lib.hid (Lst.q HFpa.out hqb)
  have HBpa := Lib.hid hbx
  clear hqb hbx
  go_upto_region 8 with fail
  rw [← hv12, ← hbpa]
  clear hv12 hbpa
  have d0 := HBrw.out.cell 0 rfl
  have d1 := HBrw.out.cell 1 rfl
  have d2 := HBrw.out.cell 2 rfl
  go_wp2_with fail
  refine (HG2.out _ HQ.out).mono ?_
  rintro e v13 ⟨xo, rfl, ⟨qapb, qcpb, qbpb, qdpb, rfl, ho1, ho2⟩, hq⟩
  rw [HUL.out.1] at ho1 ⊢
  rw [HUL.out.2] at ho2 ⊢
  clear d0 d1 d2
  replace HQ := Lib.hid (Q.trans HQ.out hq)
  replace HA := Lib.hid (Bk.q HA.out hq)
  replace HOX := Lib.hid (Lst.q HOX.out hq)
  replace HBxx := Lib.hid (Bk.q HBxx.out hq)
  replace HBrw := Lib.hid (Bk.q HBrw.out hq)
  replace HIda := Lib.hid (Lst.q HIda.out hq)
  replace HFda := Lib.hid (Lst.q HFda.out hq)
  replace HBda := Lib.hid (Bk.q HBda.out hq)
  replace HIdb := Lib.hid (Lst.q HIdb.out hq)
  replace HFdb := Lib.hid (Lst.q HFdb.out hq)
  replace HBdb := Lib.hid (Bk.q HBdb.out hq)
  replace HIpa := Lib.hid (Lst.q HIpa.out hq)
  replace HFpa := Lib.hid (Lst.q HFpa.out hq)
  replace HBpa := Lib.hid (Bk.q HBpa.out hq)
  have HIpb := Lib.hid ho1.lst
  have HFpb := Lib.hid ho2.lst
  clear hq ho1 ho2
  obtain ⟨v14, hv14⟩ : ∃ y, y = v13.alloc (.cells #[.bool U.g, .slice qapb iU qcpb, .bool U.s, .slice qbpb fU qdpb] 24) := ⟨_, rfl⟩
  have hqb : Q v13 v14 := by rw [hv14]; exact (Q.refl _).alloc _
  have hbx : Bk v14 v13.heap.size 24 [.bool U.g, .slice qapb iU qcpb, .bool U.s, .slice qbpb fU qdpb] := by rw [hv14]; exact Bk.new _ _ _
  obtain ⟨bpb, hbpb⟩ : ∃ b, b = v13.heap.size := ⟨_, rfl⟩
  rw [← hbpb] at hbx
  replace HQ := Lib.hid (Q.trans HQ.out hqb)
  replace HA := Lib.hid (Bk.q HA.out hqb)
  replace HOX := Lib.hid (Lst.q HOX.out hqb)
  replace HBxx := Lib.hid (Bk.q HBxx.out hqb)
  replace HBrw := Lib.hid (Bk.q HBrw.out hqb)
  replace HIda := Lib.hid (Lst.q HIda.out hqb)
  replace HFda := Lib.hid (Lst.q HFda.out hqb)
  replace HBda := Lib.hid (Bk.q HBda.out hqb)
  replace HIdb := Lib.hid (Lst.q HIdb.out hqb)
  replace HFdb := Lib.hid (Lst.q HFdb.out hqb)
  replace HBdb := Lib.hid (Bk.q HBdb.out hqb)
  replace HIpa := Lib.hid (Lst.q HIpa.out hqb)
  replace HFpa := Lib.hid (Lst.q HFpa.out hqb)
  replace HBpa := Lib.hid (Bk.q HBpa.out hqb)
  replace HIpb := Lib.hid (Lst.q HIpb.out hqb)
  replace HFpb := Lib.hid (Lst.q HFpb.out hqb)
  have HBpb := Lib.hid hbx
  clear hqb hbx
  go_upto_region 9 with fail
  rw [← hv14, ← hbpb]
  clear hv14 hbpb
  have d0 := HBrw.out.cell 0 rfl
  have d1 := HBrw.out.cell 1 rfl
  have d2 := HBrw.out.cell 2 rfl
  go_wp2_with fail
  refine (HF3.out _ HQ.out).mono ?_
  rintro e v15 ⟨xo, rfl, ⟨qama, qcma, qbma, qdma, rfl, ho1, ho2⟩, hq⟩
  rw [HYL.out.1] at ho1 ⊢
  rw [HYL.out.2] at ho2 ⊢
  clear d0 d1 d2
  replace HQ := Lib.hid (Q.trans HQ.out hq)
  replace HA := Lib.hid (Bk.q HA.out hq)
  replace HOX := Lib.hid (Lst.q HOX.out hq)
  replace HBxx := Lib.hid (Bk.q HBxx.out hq)
  replace HBrw := Lib.hid (Bk.q HBrw.out hq)
  replace HIda := Lib.hid (Lst.q HIda.out hq)
  replace HFda := Lib.hid (Lst.q HFda.out hq)
  replace HBda := Lib.hid (Bk.q HBda.out hq)
  replace HIdb := Lib.hid (Lst.q HIdb.out hq)
  replace HFdb := Lib.hid (Lst.q HFdb.out hq)
  replace HBdb := Lib.hid (Bk.q HBdb.out hq)
  replace HIpa := Lib.hid (Lst.q HIpa.out hq)
  replace HFpa := Lib.hid (Lst.q HFpa.out hq)
  replace HBpa := Lib.hid (Bk.q HBpa.out hq)
  replace HIpb := Lib.hid (Lst.q HIpb.out hq)
  replace HFpb := Lib.hid (Lst.q HFpb.out hq)
  replace HBpb := Lib.hid (Bk.q HBpb.out hq)
  have HIma := Lib.hid ho1.lst
  have HFma := Lib.hid ho2.lst
  clear hq ho1 ho2
  obtain ⟨v16, hv16⟩ : ∃ y, y = v15.alloc (.cells #[.bool Y.g, .slice qama iY qcma, .bool Y.s, .slice qbma fY qdma] 30) := ⟨_, rfl⟩
  have hqb : Q v15 v16 := by rw [hv16]; exact (Q.refl _).alloc _
  have hbx : Bk v16 v15.heap.size 30 [.bool Y.g, .slice qama iY qcma, .bool Y.s, .slice qbma fY qdma] := by rw [hv16]; exact Bk.new _ _ _
  obtain ⟨bma, hbma⟩ : ∃ b, b = v15.heap.size := ⟨_, rfl⟩
  rw [← hbma] at hbx
  replace HQ := Lib.hid (Q.trans HQ.out hqb)
  replace HA := Lib.hid (Bk.q HA.out hqb)
  replace HOX := Lib.hid (Lst.q HOX.out hqb)
  replace HBxx := Lib.hid (Bk.q HBxx.out hqb)
  replace HBrw := Lib.hid (Bk.q HBrw.out hqb)
  replace HIda := Lib.hid (Lst.q HIda.out hqb)
  replace HFda := Lib.hid (Lst.q HFda.out hqb)
  replace HBda := Lib.hid (Bk.q HBda.out hqb)
  replace HIdb := Lib.hid (Lst.q HIdb.out hqb)
  replace HFdb := Lib.hid (Lst.q HFdb.out hqb)
  replace HBdb := Lib.hid (Bk.q HBdb.out hqb)
  replace HIpa := Lib.hid (Lst.q HIpa.out hqb)
  replace HFpa := Lib.hid (Lst.q HFpa.out hqb)
  replace HBpa := Lib.hid (Bk.q HBpa.out hqb)
  replace HIpb := Lib.hid (Lst.q HIpb.out hqb)
  replace HFpb := Lib.hid (Lst.q HFpb.out hqb)
  replace HBpb := Lib.hid (Bk.q HBpb.out hqb)
  replace HIma := Lib.hid (Lst.q HIma.out hqb)
  replace HFma := Lib.hid (Lst.q HFma.out hqb)
  have HBma := Lib.hid hbx
  clear hqb hbx
  go_upto_region 10 with fail
  rw [← hv16, ← hbma]
  clear hv16 hbma
  have d0 := HBrw.out.cell 0 rfl
  have d1 := HBrw.out.cell 1 rfl
  have d2 := HBrw.out.cell 2 rfl
  go_wp2_with fail
  refine (HG3.out _ HQ.out).mono ?_
  rintro e v17 ⟨xo, rfl, ⟨qamb, qcmb, qbmb, qdmb, rfl, ho1, ho2⟩, hq⟩
  rw [HYL.out.1] at ho1 ⊢
  rw [HYL.out.2] at ho2 ⊢
  clear d0 d1 d2
  replace HQ := Lib.hid (Q.trans HQ.out hq)
  replace HA := Lib.hid (Bk.q HA.out hq)
  replace HOX := Lib.hid (Lst.q HOX.out hq)
  replace HBxx := Lib.hid (Bk.q HBxx.out hq)
  replace HBrw := Lib.hid (Bk.q HBrw.out hq)
  replace HIda := Lib.hid (Lst.q HIda.out hq)
  replace HFda := Lib.hid (Lst.q HFda.out hq)
  replace HBda := Lib.hid (Bk.q HBda.out hq)
  replace HIdb := Lib.hid (Lst.q HIdb.out hq)
  replace HFdb := Lib.hid (Lst.q HFdb.out hq)
  replace HBdb := Lib.hid (Bk.q HBdb.out hq)
  replace HIpa := Lib.hid (Lst.q HIpa.out hq)
  replace HFpa := Lib.hid (Lst.q HFpa.out hq)
  replace HBpa := Lib.hid (Bk.q HBpa.out hq)
  replace HIpb := Lib.hid (Lst.q HIpb.out hq)
  replace HFpb := Lib.hid (Lst.q HFpb.out hq)
  replace HBpb := Lib.hid (Bk.q HBpb.out hq)
  replace HIma := Lib.hid (Lst.q HIma.out hq)
  replace HFma := Lib.hid (Lst.q HFma.out hq)
  replace HBma := Lib.hid (Bk.q HBma.out hq)
  have HImb := Lib.hid ho1.lst
  have HFmb := Lib.hid ho2.lst
  clear hq ho1 ho2
  obtain ⟨v18, hv18⟩ : ∃ y, y = v17.alloc (.cells #[.bool Y.g, .slice qamb iY qcmb, .bool Y.s, .slice qbmb fY qdmb] 24) := ⟨_, rfl⟩
  have hqb : Q v17 v18 := by rw [hv18]; exact (Q.refl _).alloc _
  have hbx : Bk v18 v17.heap.size 24 [.bool Y.g, .slice qamb iY qcmb, .bool Y.s, .slice qbmb fY qdmb] := by rw [hv18]; exact Bk.new _ _ _
  obtain ⟨bmb, hbmb⟩ : ∃ b, b = v17.heap.size := ⟨_, rfl⟩
  rw [← hbmb] at hbx
  replace HQ := Lib.hid (Q.trans HQ.out hqb)
  replace HA := Lib.hid (Bk.q HA.out hqb)
  replace HOX := Lib.hid (Lst.q HOX.out hqb)
  replace HBxx := Lib.hid (Bk.q HBxx.out hqb)
  replace HBrw := Lib.hid (Bk.q HBrw.out hqb)
  replace HIda := Lib.hid (Lst.q HIda.out hqb)
  replace HFda := Lib.hid (Lst.q HFda.out hqb)
  replace HBda := Lib.hid (Bk.q HBda.out hqb)
  replace HIdb := Lib.hid (Lst.q HIdb.out hqb)
  replace HFdb := Lib.hid (Lst.q HFdb.out hqb)
  replace HBdb := Lib.hid (Bk.q HBdb.out hqb)
  replace HIpa := Lib.hid (Lst.q HIpa.out hqb)
  replace HFpa := Lib.hid (Lst.q HFpa.out hqb)
  replace HBpa := Lib.hid (Bk.q HBpa.out hqb)
  replace HIpb := Lib.hid (Lst.q HIpb.out hqb)
  replace HFpb := Lib.hid (Lst.q HFpb.out hqb)
  replace HBpb := Lib.hid (Bk.q HBpb.out hqb)
  replace HIma := Lib.hid (Lst.q HIma.out hqb)
  replace HFma := Lib.hid (Lst.q HFma.out hqb)
  replace HBma := Lib.hid (Bk.q HBma.out hqb)
  replace HImb := Lib.hid (Lst.q HImb.out hqb)
  replace HFmb := Lib.hid (Lst.q HFmb.out hqb)
  have HBmb := Lib.hid hbx
  clear hqb hbx
  go_upto_region 11 with fail
  rw [← hv18, ← hbmb]
  clear hv18 hbmb
  go_cut [110] (fun b wx => b = .bool false ∧ Q v18 wx)
  case first =>
    refine wp_region_held_drew (S := fun u => Q v18 u) (by kernel_rfl) (by exact (Q.refl v18).drew) (fun hHeld => ?_)
    have hS : Q v18 v18.drew := hHeld
    clear hHeld
    have hq : Q v18 v18.drew := (Q.refl _).drew
    clear hq
    generalize v18.drew = yR1x0 at *
    change wpAnyH _ _ _ _ _ _ #[false, false, false, false, false, false, false, false, false, false, false, false, false, false, false, false, false, false, false, false, false, false, false, false, false, false, false, false, false, false, false, false, false, false, false, false, false, false] _ _
    refine wpAnyH_take (i := 0) (v := ?vR1x1) (by (try simp only [List.getElem?_toArray, List.getElem?_cons_succ, List.getElem?_cons_zero]); rfl) (by kernel_rfl) (by kernel_rfl) (by kernel_rfl) (by exact fun _ _ _ h => h) (Or.inl ⟨by first | kernel_rfl | rfl, ?hyR1x1⟩) (by exact hS) ?rsR1x1
    case hyR1x1 => (intro uz hSw; (try dsimp only at hSw); go_simp; try with_reducible rfl)
    try simp only [Act.put, List.setIfInBounds_toArray, List.set_cons_zero, List.set_cons_succ]
    change wpAnyH _ _ _ _ _ _ #[true, false, false, false, false, false, false, false, false, false, false, false, false, false, false, false, false, false, false, false, false, false, false, false, false, false, false, false, false, false, false, false, false, false, false, false, false, false] _ _
    refine wpAnyH_take (i := 1) (v := ?vR1x2) (by (try simp only [List.getElem?_toArray, List.getElem?_cons_succ, List.getElem?_cons_zero]); rfl) (by kernel_rfl) (by kernel_rfl) (by kernel_rfl) (by exact fun _ _ _ h => h) (Or.inl ⟨by first | kernel_rfl | rfl, ?hyR1x2⟩) (by exact hS) ?rsR1x2
    case hyR1x2 => (intro uz hSw; (try dsimp only at hSw); go_simp; try with_reducible rfl)
    try simp only [Act.put, List.setIfInBounds_toArray, List.set_cons_zero, List.set_cons_succ]
    change wpAnyH _ _ _ _ _ _ #[true, true, false, false, false, false, false, false, false, false, false, false, false, false, false, false, false, false, false, false, false, false, false, false, false, false, false, false, false, false, false, false, false, false, false, false, false, false] _ _
    refine wpAnyH_take (i := 2) (v := ?vR1x3) (by (try simp only [List.getElem?_toArray, List.getElem?_cons_succ, List.getElem?_cons_zero]); rfl) (by kernel_rfl) (by kernel_rfl) (by kernel_rfl) (by exact fun _ _ _ h => h) (Or.inl ⟨by first | kernel_rfl | rfl, ?hyR1x3⟩) (by exact hS) ?rsR1x3
    case hyR1x3 => (intro uz hSw; (try dsimp only at hSw); go_simp; try with_reducible rfl)
    try simp only [Act.put, List.setIfInBounds_toArray, List.set_cons_zero, List.set_cons_succ]
    change wpAnyH _ _ _ _ _ _ #[true, true, true, false, false, false, false, false, false, false, false, false, false, false, false, false, false, false, false, false, false, false, false, false, false, false, false, false, false, false, false, false, false, false, false, false, false, false] _ _
    refine wpAnyH_take (i := 3) (v := ?vR1x4) (by (try simp only [List.getElem?_toArray, List.getElem?_cons_succ, List.getElem?_cons_zero]); rfl) (by kernel_rfl) (by kernel_rfl) (by kernel_rfl) (by exact fun _ _ _ h => h) (Or.inl ⟨by first | kernel_rfl | rfl, ?hyR1x4⟩) (by exact hS) ?rsR1x4
    case hyR1x4 => (intro uz hSw; (try dsimp only at hSw); go_simp; try with_reducible rfl)
    try simp only [Act.put, List.setIfInBounds_toArray, List.set_cons_zero, List.set_cons_succ]
    change wpAnyH _ _ _ _ _ _ #[true, true, true, true, false, false, false, false, false, false, false, false, false, false, false, false, false, false, false, false, false, false, false, false, false, false, false, false, false, false, false, false, false, false, false, false, false, false] _ _
    refine wpAnyH_take (i := 4) (v := ?vR1x5) (by (try simp only [List.getElem?_toArray, List.getElem?_cons_succ, List.getElem?_cons_zero]); rfl) (by kernel_rfl) (by kernel_rfl) (by kernel_rfl) (by exact fun _ _ _ h => h) (Or.inl ⟨by first | kernel_rfl | rfl, ?hyR1x5⟩) (by exact hS) ?rsR1x5
    case hyR1x5 => (intro uz hSw; (try dsimp only at hSw); go_simp; try with_reducible rfl)
    try simp only [Act.put, List.setIfInBounds_toArray, List.set_cons_zero, List.set_cons_succ]
    change wpAnyH _ _ _ _ _ _ #[true, true, true, true, true, false, false, false, false, false, false, false, false, false, false, false, false, false, false, false, false, false, false, false, false, false, false, false, false, false, false, false, false, false, false, false, false, false] _ _
    refine wpAnyH_take (i := 5) (v := ?vR1x6) (by (try simp only [List.getElem?_toArray, List.getElem?_cons_succ, List.getElem?_cons_zero]); rfl) (by kernel_rfl) (by kernel_rfl) (by kernel_rfl) (by exact fun _ _ _ h => h) (Or.inl ⟨by first | kernel_rfl | rfl, ?hyR1x6⟩) (by exact hS) ?rsR1x6
    case hyR1x6 => (intro uz hSw; (try dsimp only at hSw); go_simp; try with_reducible rfl)
    try simp only [Act.put, List.setIfInBounds_toArray, List.set_cons_zero, List.set_cons_succ]
    change wpAnyH _ _ _ _ _ _ #[true, true, true, true, true, true, false, false, false, false, false, false, false, false, false, false, false, false, false, false, false, false, false, false, false, false, false, false, false, false, false, false, false, false, false, false, false, false] _ _
    refine wpAnyH_take (i := 6) (v := ?vR1x7) (by (try simp only [List.getElem?_toArray, List.getElem?_cons_succ, List.getElem?_cons_zero]); rfl) (by kernel_rfl) (by kernel_rfl) (by kernel_rfl) (by exact fun _ _ _ h => h) (Or.inl ⟨by first | kernel_rfl | rfl, ?hyR1x7⟩) (by exact hS) ?rsR1x7
    case hyR1x7 => (intro uz hSw; (try dsimp only at hSw); go_simp; try with_reducible rfl)
    try simp only [Act.put, List.setIfInBounds_toArray, List.set_cons_zero, List.set_cons_succ]
    change wpAnyH _ _ _ _ _ _ #[true, true, true, true, true, true, true, false, false, false, false, false, false, false, false, false, false, false, false, false, false, false, false, false, false, false, false, false, false, false, false, false, false, false, false, false, false, false] _ _
    refine wpAnyH_take (i := 7) (v := ?vR1x8) (by (try simp only [List.getElem?_toArray, List.getElem?_cons_succ, List.getElem?_cons_zero]); rfl) (by kernel_rfl) (by kernel_rfl) (by kernel_rfl) (by exact fun _ _ _ h => h) (Or.inl ⟨by first | kernel_rfl | rfl, ?hyR1x8⟩) (by exact hS) ?rsR1x8
    case hyR1x8 => (intro uz hSw; (try dsimp only at hSw); go_simp; try with_reducible rfl)
    try simp only [Act.put, List.setIfInBounds_toArray, List.set_cons_zero, List.set_cons_succ]
    change wpAnyH _ _ _ _ _ _ #[true, true, true, true, true, true, true, true, false, false, false, false, false, false, false, false, false, false, false, false, false, false, false, false, false, false, false, false, false, false, false, false, false, false, false, false, false, false] _ _
    refine wpAnyH_take (i := 8) (v := ?vR1x9) (by (try simp only [List.getElem?_toArray, List.getElem?_cons_succ, List.getElem?_cons_zero]); rfl) (by kernel_rfl) (by kernel_rfl) (by kernel_rfl) (by exact fun _ _ _ h => h) (Or.inl ⟨by first | kernel_rfl | rfl, ?hyR1x9⟩) (by exact hS) ?rsR1x9
    case hyR1x9 => (intro uz hSw; (try dsimp only at hSw); go_simp; try with_reducible rfl)
    try simp only [Act.put, List.setIfInBounds_toArray, List.set_cons_zero, List.set_cons_succ]
    change wpAnyH _ _ _ _ _ _ #[true, true, true, true, true, true, true, true, true, false, false, false, false, false, false, false, false, false, false, false, false, false, false, false, false, false, false, false, false, false, false, false, false, false, false, false, false, false] _ _
    refine wpAnyH_take (i := 9) (v := ?vR1x10) (by (try simp only [List.getElem?_toArray, List.getElem?_cons_succ, List.getElem?_cons_zero]); rfl) (by kernel_rfl) (by kernel_rfl) (by kernel_rfl) (by exact fun _ _ _ h => h) (Or.inl ⟨by first | kernel_rfl | rfl, ?hyR1x10⟩) (by exact hS) ?rsR1x10
    case hyR1x10 => (intro uz hSw; (try dsimp only at hSw); go_simp; try with_reducible rfl)
    try simp only [Act.put, List.setIfInBounds_toArray, List.set_cons_zero, List.set_cons_succ]
    change wpAnyH _ _ _ _ _ _ #[true, true, true, true, true, true, true, true, true, true, false, false, false, false, false, false, false, false, false, false, false, false, false, false, false, false, false, false, false, false, false, false, false, false, false, false, false, false] _ _
    refine wpAnyH_take (i := 10) (v := ?vR1x11) (by (try simp only [List.getElem?_toArray, List.getElem?_cons_succ, List.getElem?_cons_zero]); rfl) (by kernel_rfl) (by kernel_rfl) (by kernel_rfl) (by exact fun _ _ _ h => h) (Or.inl ⟨by first | kernel_rfl | rfl, ?hyR1x11⟩) (by exact hS) ?rsR1x11
    case hyR1x11 => (intro uz hSw; (try dsimp only at hSw); go_simp; try with_reducible rfl)
    try simp only [Act.put, List.setIfInBounds_toArray, List.set_cons_zero, List.set_cons_succ]
    change wpAnyH _ _ _ _ _ _ #[true, true, true, true, true, true, true, true, true, true, true, false, false, false, false, false, false, false, false, false, false, false, false, false, false, false, false, false, false, false, false, false, false, false, false, false, false, false] _ _
    refine wpAnyH_take (i := 11) (v := ?vR1x12) (by (try simp only [List.getElem?_toArray, List.getElem?_cons_succ, List.getElem?_cons_zero]); rfl) (by kernel_rfl) (by kernel_rfl) (by kernel_rfl) (by exact fun _ _ _ h => h) (Or.inl ⟨by first | kernel_rfl | rfl, ?hyR1x12⟩) (by exact hS) ?rsR1x12
    case hyR1x12 => (intro uz hSw; (try dsimp only at hSw); go_simp; try with_reducible rfl)
    try simp only [Act.put, List.setIfInBounds_toArray, List.set_cons_zero, List.set_cons_succ]
    change wpAnyH _ _ _ _ _ _ #[true, true, true, true, true, true, true, true, true, true, true, true, false, false, false, false, false, false, false, false, false, false, false, false, false, false, false, false, false, false, false, false, false, false, false, false, false, false] _ _
    refine wpAnyH_take (i := 12) (v := ?vR1x13) (by (try simp only [List.getElem?_toArray, List.getElem?_cons_succ, List.getElem?_cons_zero]); rfl) (by kernel_rfl) (by kernel_rfl) (by kernel_rfl) (by exact fun _ _ _ h => h) (Or.inl ⟨by first | kernel_rfl | rfl, ?hyR1x13⟩) (by exact hS) ?rsR1x13
    case hyR1x13 => (intro uz hSw; (try dsimp only at hSw); go_simp; try with_reducible rfl)
    try simp only [Act.put, List.setIfInBounds_toArray, List.set_cons_zero, List.set_cons_succ]
    change wpAnyH _ _ _ _ _ _ #[true, true, true, true, true, true, true, true, true, true, true, true, true, false, false, false, false, false, false, false, false, false, false, false, false, false, false, false, false, false, false, false, false, false, false, false, false, false] _ _
    refine wpAnyH_take (i := 13) (v := ?vR1x14) (by (try simp only [List.getElem?_toArray, List.getElem?_cons_succ, List.getElem?_cons_zero]); rfl) (by kernel_rfl) (by kernel_rfl) (by kernel_rfl) (by exact fun _ _ _ h => h) (Or.inl ⟨by first | kernel_rfl | rfl, ?hyR1x14⟩) (by exact hS) ?rsR1x14
    case hyR1x14 => (intro uz hSw; (try dsimp only at hSw); go_simp; try with_reducible rfl)
    try simp only [Act.put, List.setIfInBounds_toArray, List.set_cons_zero, List.set_cons_succ]
    change wpAnyH _ _ _ _ _ _ #[true, true, true, true, true, true, true, true, true, true, true, true, true, true, false, false, false, false, false, false, false, false, false, false, false, false, false, false, false, false, false, false, false, false, false, false, false, false] _ _
    refine wpAnyH_take (i := 14) (v := ?vR1x15) (by (try simp only [List.getElem?_toArray, List.getElem?_cons_succ, List.getElem?_cons_zero]); rfl) (by kernel_rfl) (by kernel_rfl) (by kernel_rfl) (by exact fun _ _ _ h => h) (Or.inl ⟨by first | kernel_rfl | rfl, ?hyR1x15⟩) (by exact hS) ?rsR1x15
    case hyR1x15 => (intro uz hSw; (try dsimp only at hSw); go_simp; try with_reducible rfl)
    try simp only [Act.put, List.setIfInBounds_toArray, List.set_cons_zero, List.set_cons_succ]
    change wpAnyH _ _ _ _ _ _ #[true, true, true, true, true, true, true, true, true, true, true, true, true, true, true, false, false, false, false, false, false, false, false, false, false, false, false, false, false, false, false, false, false, false, false, false, false, false] _ _
    refine wpAnyH_take (i := 15) (v := ?vR1x16) (by (try simp only [List.getElem?_toArray, List.getElem?_cons_succ, List.getElem?_cons_zero]); rfl) (by kernel_rfl) (by kernel_rfl) (by kernel_rfl) (by exact fun _ _ _ h => h) (Or.inl ⟨by first | kernel_rfl | rfl, ?hyR1x16⟩) (by exact hS) ?rsR1x16
    case hyR1x16 => (intro uz hSw; (try dsimp only at hSw); go_simp; try with_reducible rfl)
    try simp only [Act.put, List.setIfInBounds_toArray, List.set_cons_zero, List.set_cons_succ]
    change wpAnyH _ _ _ _ _ _ #[true, true, true, true, true, true, true, true, true, true, true, true, true, true, true, true, false, false, false, false, false, false, false, false, false, false, false, false, false, false, false, false, false, false, false, false, false, false] _ _
    refine wpAnyH_take (i := 16) (v := ?vR1x17) (by (try simp only [List.getElem?_toArray, List.getElem?_cons_succ, List.getElem?_cons_zero]); rfl) (by kernel_rfl) (by kernel_rfl) (by kernel_rfl) (by exact fun _ _ _ h => h) (Or.inl ⟨by first | kernel_rfl | rfl, ?hyR1x17⟩) (by exact hS) ?rsR1x17
    case hyR1x17 => (intro uz hSw; (try dsimp only at hSw); go_simp; try with_reducible rfl)
    try simp only [Act.put, List.setIfInBounds_toArray, List.set_cons_zero, List.set_cons_succ]
    change wpAnyH _ _ _ _ _ _ #[true, true, true, true, true, true, true, true, true, true, true, true, true, true, true, true, true, false, false, false, false, false, false, false, false, false, false, false, false, false, false, false, false, false, false, false, false, false] _ _
    refine wpAnyH_take (i := 17) (v := ?vR1x18) (by (try simp only [List.getElem?_toArray, List.getElem?_cons_succ, List.getElem?_cons_zero]); rfl) (by kernel_rfl) (by kernel_rfl) (by kernel_rfl) (by exact fun _ _ _ h => h) (Or.inl ⟨by first | kernel_rfl | rfl, ?hyR1x18⟩) (by exact hS) ?rsR1x18
    case hyR1x18 => (intro uz hSw; (try dsimp only at hSw); go_simp; try with_reducible rfl)
    try simp only [Act.put, List.setIfInBounds_toArray, List.set_cons_zero, List.set_cons_succ]
    change wpAnyH _ _ _ _ _ _ #[true, true, true, true, true, true, true, true, true, true, true, true, true, true, true, true, true, true, false, false, false, false, false, false, false, false, false, false, false, false, false, false, false, false, false, false, false, false] _ _
    refine wpAnyH_take (i := 18) (v := ?vR1x19) (by (try simp only [List.getElem?_toArray, List.getElem?_cons_succ, List.getElem?_cons_zero]); rfl) (by kernel_rfl) (by kernel_rfl) (by kernel_rfl) (by exact fun _ _ _ h => h) (Or.inl ⟨by first | kernel_rfl | rfl, ?hyR1x19⟩) (by exact hS) ?rsR1x19
    case hyR1x19 => (intro uz hSw; (try dsimp only at hSw); have hxx := HBda.out.q hSw; have d0 := hxx.cell 0 rfl; have d1 := hxx.cell 1 rfl; have d2 := hxx.cell 2 rfl; have d3 := hxx.cell 3 rfl; clear hxx; go_simp; try with_reducible rfl)
    try simp only [Act.put, List.setIfInBounds_toArray, List.set_cons_zero, List.set_cons_succ]
    change wpAnyH _ _ _ _ _ _ #[true, true, true, true, true, true, true, true, true, true, true, true, true, true, true, true, true, true, true, false, false, false, false, false, false, false, false, false, false, false, false, false, false, false, false, false, false, false] _ _
    refine wpAnyH_take (i := 20) (v := ?vR1x20) (by (try simp only [List.getElem?_toArray, List.getElem?_cons_succ, List.getElem?_cons_zero]); rfl) (by kernel_rfl) (by kernel_rfl) (by kernel_rfl) (by exact fun _ _ _ h => h) (Or.inl ⟨by first | kernel_rfl | rfl, ?hyR1x20⟩) (by exact hS) ?rsR1x20
    case hyR1x20 => (intro uz hSw; (try dsimp only at hSw); have hxx := HBdb.out.q hSw; have d0 := hxx.cell 0 rfl; have d1 := hxx.cell 1 rfl; have d2 := hxx.cell 2 rfl; have d3 := hxx.cell 3 rfl; clear hxx; go_simp; try with_reducible rfl)
    try simp only [Act.put, List.setIfInBounds_toArray, List.set_cons_zero, List.set_cons_succ]
    change wpAnyH _ _ _ _ _ _ #[true, true, true, true, true, true, true, true, true, true, true, true, true, true, true, true, true, true, true, false, true, false, false, false, false, false, false, false, false, false, false, false, false, false, false, false, false, false] _ _
    refine wpAnyH_ready (rs := [19]) (by kernel_rfl) (by simp) ?_
    refine (AllReadyH.cons (by (try simp only [List.getElem?_toArray, List.getElem?_cons_succ, List.getElem?_cons_zero]); rfl) (fun K hK => ?_) AllReadyH.nil)
    go_simp
    refine (HAS.out _ _ _ _ _ _ _ _ _).mono ?_
    rintro e yR1x21 ⟨rfl, hq⟩
    try (go_wp2_with fail)
    have hS2 := Q.trans hS hq
    refine hK.out _ _ (by exact hS2) (fun hHeld => ?_)
    clear hK K hHeld hS hq
    have hS := hS2
    clear hS2
    try simp only [Act.put, List.setIfInBounds_toArray, List.set_cons_zero, List.set_cons_succ]
    change wpAnyH _ _ _ _ _ _ #[true, true, true, true, true, true, true, true, true, true, true, true, true, true, true, true, true, true, true, true, true, false, false, false, false, false, false, false, false, false, false, false, false, false, false, false, false, false] _ _
    refine wpAnyH_ready (rs := [21]) (by kernel_rfl) (by simp) ?_
    refine (AllReadyH.cons (by (try simp only [List.getElem?_toArray, List.getElem?_cons_succ, List.getElem?_cons_zero]); rfl) (fun K hK => ?_) AllReadyH.nil)
    go_simp
    refine (HSM.out D _ _ _ _ _ _ _ _ _ _ _ HDL.out.1 HDL.out.2 hbD' (HIda.out.q hS) (HFda.out.q hS) (HIdb.out.q hS) (HFdb.out.q hS)).mono ?_
    rintro e yR1x22 ⟨rfl, hq⟩
    try (go_wp2_with fail)
    have hS2 := Q.trans hS hq
    refine hK.out _ _ (by exact hS2) (fun hHeld => ?_)
    clear hK K hHeld hS hq
    have hS := hS2
    clear hS2
    try simp only [Act.put, List.setIfInBounds_toArray, List.set_cons_zero, List.set_cons_succ]
    change wpAnyH _ _ _ _ _ _ #[true, true, true, true, true, true, true, true, true, true, true, true, true, true, true, true, true, true, true, true, true, true, false, false, false, false, false, false, false, false, false, false, false, false, false, false, false, false] _ _
    refine wpAnyH_take (i := 22) (v := ?vR1x23) (by (try simp only [List.getElem?_toArray, List.getElem?_cons_succ, List.getElem?_cons_zero]); rfl) (by kernel_rfl) (by kernel_rfl) (by kernel_rfl) (by exact fun _ _ _ h => h) (Or.inl ⟨by first | kernel_rfl | rfl, ?hyR1x23⟩) (by exact hS) ?rsR1x23
    case hyR1x23 => (intro uz hSw; (try dsimp only at hSw); go_simp; try with_reducible rfl)
    try simp only [Act.put, List.setIfInBounds_toArray, List.set_cons_zero, List.set_cons_succ]
    change wpAnyH _ _ _ _ _ _ #[true, true, true, true, true, true, true, true, true, true, true, true, true, true, true, true, true, true, true, true, true, true, true, false, false, false, false, false, false, false, false, false, false, false, false, false, false, false] _ _
    refine wpAnyH_take (i := 23) (v := ?vR1x24) (by (try simp only [List.getElem?_toArray, List.getElem?_cons_succ, List.getElem?_cons_zero]); rfl) (by kernel_rfl) (by kernel_rfl) (by kernel_rfl) (by exact fun _ _ _ h => h) (Or.inl ⟨by first | kernel_rfl | rfl, ?hyR1x24⟩) (by exact hS) ?rsR1x24
    case hyR1x24 => (intro uz hSw; (try dsimp only at hSw); go_simp; try with_reducible rfl)
    try simp only [Act.put, List.setIfInBounds_toArray, List.set_cons_zero, List.set_cons_succ]
    change wpAnyH _ _ _ _ _ _ #[true, true, true, true, true, true, true, true, true, true, true, true, true, true, true, true, true, true, true, true, true, true, true, true, false, false, false, false, false, false, false, false, false, false, false, false, false, false] _ _
    refine wpAnyH_take (i := 24) (v := ?vR1x25) (by (try simp only [List.getElem?_toArray, List.getElem?_cons_succ, List.getElem?_cons_zero]); rfl) (by kernel_rfl) (by kernel_rfl) (by kernel_rfl) (by exact fun _ _ _ h => h) (Or.inl ⟨by first | kernel_rfl | rfl, ?hyR1x25⟩) (by exact hS) ?rsR1x25
    case hyR1x25 => (intro uz hSw; (try dsimp only at hSw); go_simp; try with_reducible rfl)
    try simp only [Act.put, List.setIfInBounds_toArray, List.set_cons_zero, List.set_cons_succ]
    change wpAnyH _ _ _ _ _ _ #[true, true, true, true, true, true, true, true, true, true, true, true, true, true, true, true, true, true, true, true, true, true, true, true, true, false, false, false, false, false, false, false, false, false, false, false, false, false] _ _
    refine wpAnyH_take (i := 25) (v := ?vR1x26) (by (try simp only [List.getElem?_toArray, List.getElem?_cons_succ, List.getElem?_cons_zero]); rfl) (by kernel_rfl) (by kernel_rfl) (by kernel_rfl) (by exact fun _ _ _ h => h) (Or.inl ⟨by first | kernel_rfl | rfl, ?hyR1x26⟩) (by exact hS) ?rsR1x26
    case hyR1x26 => (intro uz hSw; (try dsimp only at hSw); have hxx := HBpa.out.q hSw; have d0 := hxx.cell 0 rfl; have d1 := hxx.cell 1 rfl; have d2 := hxx.cell 2 rfl; have d3 := hxx.cell 3 rfl; clear hxx; go_simp; try with_reducible rfl)
    try simp only [Act.put, List.setIfInBounds_toArray, List.set_cons_zero, List.set_cons_succ]
    change wpAnyH _ _ _ _ _ _ #[true, true, true, true, true, true, true, true, true, true, true, true, true, true, true, true, true, true, true, true, true, true, true, true, true, true, false, false, false, false, false, false, false, false, false, false, false, false] _ _
    refine wpAnyH_take (i := 27) (v := ?vR1x27) (by (try simp only [List.getElem?_toArray, List.getElem?_cons_succ, List.getElem?_cons_zero]); rfl) (by kernel_rfl) (by kernel_rfl) (by kernel_rfl) (by exact fun _ _ _ h => h) (Or.inl ⟨by first | kernel_rfl | rfl, ?hyR1x27⟩) (by exact hS) ?rsR1x27
    case hyR1x27 => (intro uz hSw; (try dsimp only at hSw); have hxx := HBpb.out.q hSw; have d0 := hxx.cell 0 rfl; have d1 := hxx.cell 1 rfl; have d2 := hxx.cell 2 rfl; have d3 := hxx.cell 3 rfl; clear hxx; go_simp; try with_reducible rfl)
    try simp only [Act.put, List.setIfInBounds_toArray, List.set_cons_zero, List.set_cons_succ]
    change wpAnyH _ _ _ _ _ _ #[true, true, true, true, true, true, true, true, true, true, true, true, true, true, true, true, true, true, true, true, true, true, true, true, true, true, false, true, false, false, false, false, false, false, false, false, false, false] _ _
    refine wpAnyH_ready (rs := [26]) (by kernel_rfl) (by simp) ?_
    refine (AllReadyH.cons (by (try simp only [List.getElem?_toArray, List.getElem?_cons_succ, List.getElem?_cons_zero]); rfl) (fun K hK => ?_) AllReadyH.nil)
    go_simp
    refine (HAS.out _ _ _ _ _ _ _ _ _).mono ?_
    rintro e yR1x28 ⟨rfl, hq⟩
    try (go_wp2_with fail)
    have hS2 := Q.trans hS hq
    refine hK.out _ _ (by exact hS2) (fun hHeld => ?_)
    clear hK K hHeld hS hq
    have hS := hS2
    clear hS2
    try simp only [Act.put, List.setIfInBounds_toArray, List.set_cons_zero, List.set_cons_succ]
    change wpAnyH _ _ _ _ _ _ #[true, true, true, true, true, true, true, true, true, true, true, true, true, true, true, true, true, true, true, true, true, true, true, true, true, true, true, true, false, false, false, false, false, false, false, false, false, false] _ _
    refine wpAnyH_ready (rs := [28]) (by kernel_rfl) (by simp) ?_
    refine (AllReadyH.cons (by (try simp only [List.getElem?_toArray, List.getElem?_cons_succ, List.getElem?_cons_zero]); rfl) (fun K hK => ?_) AllReadyH.nil)
    go_simp
    refine (HSM.out U _ _ _ _ _ _ _ _ _ _ _ HUL.out.1 HUL.out.2 hbU' (HIpa.out.q hS) (HFpa.out.q hS) (HIpb.out.q hS) (HFpb.out.q hS)).mono ?_
    rintro e yR1x29 ⟨rfl, hq⟩
    try (go_wp2_with fail)
    have hS2 := Q.trans hS hq
    refine hK.out _ _ (by exact hS2) (fun hHeld => ?_)
    clear hK K hHeld hS hq
    have hS := hS2
    clear hS2
    try simp only [Act.put, List.setIfInBounds_toArray, List.set_cons_zero, List.set_cons_succ]
    change wpAnyH _ _ _ _ _ _ #[true, true, true, true, true, true, true, true, true, true, true, true, true, true, true, true, true, true, true, true, true, true, true, true, true, true, true, true, true, false, false, false, false, false, false, false, false, false] _ _
    refine wpAnyH_take (i := 29) (v := ?vR1x30) (by (try simp only [List.getElem?_toArray, List.getElem?_cons_succ, List.getElem?_cons_zero]); rfl) (by kernel_rfl) (by kernel_rfl) (by kernel_rfl) (by exact fun _ _ _ h => h) (Or.inl ⟨by first | kernel_rfl | rfl, ?hyR1x30⟩) (by exact hS) ?rsR1x30
    case hyR1x30 => (intro uz hSw; (try dsimp only at hSw); go_simp; try with_reducible rfl)
    try simp only [Act.put, List.setIfInBounds_toArray, List.set_cons_zero, List.set_cons_succ]
    change wpAnyH _ _ _ _ _ _ #[true, true, true, true, true, true, true, true, true, true, true, true, true, true, true, true, true, true, true, true, true, true, true, true, true, true, true, true, true, true, false, false, false, false, false, false, false, false] _ _
    refine wpAnyH_take (i := 30) (v := ?vR1x31) (by (try simp only [List.getElem?_toArray, List.getElem?_cons_succ, List.getElem?_cons_zero]); rfl) (by kernel_rfl) (by kernel_rfl) (by kernel_rfl) (by exact fun _ _ _ h => h) (Or.inl ⟨by first | kernel_rfl | rfl, ?hyR1x31⟩) (by exact hS) ?rsR1x31
    case hyR1x31 => (intro uz hSw; (try dsimp only at hSw); go_simp; try with_reducible rfl)
    try simp only [Act.put, List.setIfInBounds_toArray, List.set_cons_zero, List.set_cons_succ]
    change wpAnyH _ _ _ _ _ _ #[true, true, true, true, true, true, true, true, true, true, true, true, true, true, true, true, true, true, true, true, true, true, true, true, true, true, true, true, true, true, true, false, false, false, false, false, false, false] _ _
    refine wpAnyH_take (i := 31) (v := ?vR1x32) (by (try simp only [List.getElem?_toArray, List.getElem?_cons_succ, List.getElem?_cons_zero]); rfl) (by kernel_rfl) (by kernel_rfl) (by kernel_rfl) (by exact fun _ _ _ h => h) (Or.inl ⟨by first | kernel_rfl | rfl, ?hyR1x32⟩) (by exact hS) ?rsR1x32
    case hyR1x32 => (intro uz hSw; (try dsimp only at hSw); go_simp; try with_reducible rfl)
    try simp only [Act.put, List.setIfInBounds_toArray, List.set_cons_zero, List.set_cons_succ]
    change wpAnyH _ _ _ _ _ _ #[true, true, true, true, true, true, true, true, true, true, true, true, true, true, true, true, true, true, true, true, true, true, true, true, true, true, true, true, true, true, true, true, false, false, false, false, false, false] _ _
    refine wpAnyH_take (i := 32) (v := ?vR1x33) (by (try simp only [List.getElem?_toArray, List.getElem?_cons_succ, List.getElem?_cons_zero]); rfl) (by kernel_rfl) (by kernel_rfl) (by kernel_rfl) (by exact fun _ _ _ h => h) (Or.inl ⟨by first | kernel_rfl | rfl, ?hyR1x33⟩) (by exact hS) ?rsR1x33
    case hyR1x33 => (intro uz hSw; (try dsimp only at hSw); have hxx := HBma.out.q hSw; have d0 := hxx.cell 0 rfl; have d1 := hxx.cell 1 rfl; have d2 := hxx.cell 2 rfl; have d3 := hxx.cell 3 rfl; clear hxx; go_simp; try with_reducible rfl)
    try simp only [Act.put, List.setIfInBounds_toArray, List.set_cons_zero, List.set_cons_succ]
    change wpAnyH _ _ _ _ _ _ #[true, true, true, true, true, true, true, true, true, true, true, true, true, true, true, true, true, true, true, true, true, true, true, true, true, true, true, true, true, true, true, true, true, false, false, false, false, false] _ _
    refine wpAnyH_take (i := 34) (v := ?vR1x34) (by (try simp only [List.getElem?_toArray, List.getElem?_cons_succ, List.getElem?_cons_zero]); rfl) (by kernel_rfl) (by kernel_rfl) (by kernel_rfl) (by exact fun _ _ _ h => h) (Or.inl ⟨by first | kernel_rfl | rfl, ?hyR1x34⟩) (by exact hS) ?rsR1x34
    case hyR1x34 => (intro uz hSw; (try dsimp only at hSw); have hxx := HBmb.out.q hSw; have d0 := hxx.cell 0 rfl; have d1 := hxx.cell 1 rfl; have d2 := hxx.cell 2 rfl; have d3 := hxx.cell 3 rfl; clear hxx; go_simp; try with_reducible rfl)
    try simp only [Act.put, List.setIfInBounds_toArray, List.set_cons_zero, List.set_cons_succ]
    change wpAnyH _ _ _ _ _ _ #[true, true, true, true, true, true, true, true, true, true, true, true, true, true, true, true, true, true, true, true, true, true, true, true, true, true, true, true, true, true, true, true, true, false, true, false, false, false] _ _
    refine wpAnyH_ready (rs := [33]) (by kernel_rfl) (by simp) ?_
    refine (AllReadyH.cons (by (try simp only [List.getElem?_toArray, List.getElem?_cons_succ, List.getElem?_cons_zero]); rfl) (fun K hK => ?_) AllReadyH.nil)
    go_simp
    refine (HAS.out _ _ _ _ _ _ _ _ _).mono ?_
    rintro e yR1x35 ⟨rfl, hq⟩
    try (go_wp2_with fail)
    have hS2 := Q.trans hS hq
    refine hK.out _ _ (by exact hS2) (fun hHeld => ?_)
    clear hK K hHeld hS hq
    have hS := hS2
    clear hS2
    try simp only [Act.put, List.setIfInBounds_toArray, List.set_cons_zero, List.set_cons_succ]
    change wpAnyH _ _ _ _ _ _ #[true, true, true, true, true, true, true, true, true, true, true, true, true, true, true, true, true, true, true, true, true, true, true, true, true, true, true, true, true, true, true, true, true, true, true, false, false, false] _ _
    refine wpAnyH_ready (rs := [35]) (by kernel_rfl) (by simp) ?_
    refine (AllReadyH.cons (by (try simp only [List.getElem?_toArray, List.getElem?_cons_succ, List.getElem?_cons_zero]); rfl) (fun K hK => ?_) AllReadyH.nil)
    go_simp
    refine (HSM.out Y _ _ _ _ _ _ _ _ _ _ _ HYL.out.1 HYL.out.2 hbY' (HIma.out.q hS) (HFma.out.q hS) (HImb.out.q hS) (HFmb.out.q hS)).mono ?_
    rintro e yR1x36 ⟨rfl, hq⟩
    try (go_wp2_with fail)
    have hS2 := Q.trans hS hq
    refine hK.out _ _ (by exact hS2) (fun hHeld => ?_)
    clear hK K hHeld hS hq
    have hS := hS2
    clear hS2
    try simp only [Act.put, List.setIfInBounds_toArray, List.set_cons_zero, List.set_cons_succ]
    change wpAnyH _ _ _ _ _ _ #[true, true, true, true, true, true, true, true, true, true, true, true, true, true, true, true, true, true, true, true, true, true, true, true, true, true, true, true, true, true, true, true, true, true, true, true, false, false] _ _
    refine wpAnyH_take (i := 36) (v := ?vR1x37) (by (try simp only [List.getElem?_toArray, List.getElem?_cons_succ, List.getElem?_cons_zero]); rfl) (by kernel_rfl) (by kernel_rfl) (by kernel_rfl) (by exact fun _ _ _ h => h) (Or.inl ⟨by first | kernel_rfl | rfl, ?hyR1x37⟩) (by exact hS) ?rsR1x37
    case hyR1x37 => (intro uz hSw; (try dsimp only at hSw); go_simp; try with_reducible rfl)
    try simp only [Act.put, List.setIfInBounds_toArray, List.set_cons_zero, List.set_cons_succ]
    change wpAnyH _ _ _ _ _ _ #[true, true, true, true, true, true, true, true, true, true, true, true, true, true, true, true, true, true, true, true, true, true, true, true, true, true, true, true, true, true, true, true, true, true, true, true, true, false] _ _
    refine wpAnyH_take (i := 37) (v := ?vR1x38) (by (try simp only [List.getElem?_toArray, List.getElem?_cons_succ, List.getElem?_cons_zero]); rfl) (by kernel_rfl) (by kernel_rfl) (by kernel_rfl) (by exact fun _ _ _ h => h) (Or.inl ⟨by first | kernel_rfl | rfl, ?hyR1x38⟩) (by exact hS) ?rsR1x38
    case hyR1x38 => (intro uz hSw; (try dsimp only at hSw); go_simp; try with_reducible rfl)
    try simp only [Act.put, List.setIfInBounds_toArray, List.set_cons_zero, List.set_cons_succ]
    change wpAnyH _ _ _ _ _ _ #[true, true, true, true, true, true, true, true, true, true, true, true, true, true, true, true, true, true, true, true, true, true, true, true, true, true, true, true, true, true, true, true, true, true, true, true, true, true] _ _
    refine wpAnyH_done (by kernel_rfl) ?_ _
    go_wp2_with fail
    go_meet
    exact ⟨rfl, hS⟩
  case rest =>
    obtain ⟨rfl, hqc⟩ := hcut
    obtain ⟨v18n, hv18n⟩ : ∃ x, x = wc := ⟨_, rfl⟩
    subst hv18n
    replace HQ := Lib.hid (Q.trans HQ.out hqc)
    replace HA := Lib.hid (Bk.q HA.out hqc)
    replace HOX := Lib.hid (Lst.q HOX.out hqc)
    replace HBxx := Lib.hid (Bk.q HBxx.out hqc)
    replace HBrw := Lib.hid (Bk.q HBrw.out hqc)
    replace HIda := Lib.hid (Lst.q HIda.out hqc)
    replace HFda := Lib.hid (Lst.q HFda.out hqc)
    replace HBda := Lib.hid (Bk.q HBda.out hqc)
    replace HIdb := Lib.hid (Lst.q HIdb.out hqc)
    replace HFdb := Lib.hid (Lst.q HFdb.out hqc)
    replace HBdb := Lib.hid (Bk.q HBdb.out hqc)
    replace HIpa := Lib.hid (Lst.q HIpa.out hqc)
    replace HFpa := Lib.hid (Lst.q HFpa.out hqc)
    replace HBpa := Lib.hid (Bk.q HBpa.out hqc)
    replace HIpb := Lib.hid (Lst.q HIpb.out hqc)
    replace HFpb := Lib.hid (Lst.q HFpb.out hqc)
    replace HBpb := Lib.hid (Bk.q HBpb.out hqc)
    replace HIma := Lib.hid (Lst.q HIma.out hqc)
    replace HFma := Lib.hid (Lst.q HFma.out hqc)
    replace HBma := Lib.hid (Bk.q HBma.out hqc)
    replace HImb := Lib.hid (Lst.q HImb.out hqc)
    replace HFmb := Lib.hid (Lst.q HFmb.out hqc)
    replace HBmb := Lib.hid (Bk.q HBmb.out hqc)
    clear hqc
    go_upto_region 13 with fail
    refine wp_region_held_drew (S := fun u => Q v18n u) (by kernel_rfl) (by exact (Q.refl v18n).drew) (fun hHeld => ?_)
    have hS : Q v18n v18n.drew := hHeld
    clear hHeld
    have hq : Q v18n v18n.drew := (Q.refl _).drew
    clear hq
    generalize v18n.drew = yR2x0 at *
    change wpAnyH _ _ _ _ _ _ #[false, false, false, false, false, false, false, false, false, false, false, false, false, false, false, false, false, false, false, false, false, false, false, false, false, false, false, false, false, false, false, false] _ _
    refine wpAnyH_take (i := 0) (v := ?vR2x1) (by (try simp only [List.getElem?_toArray, List.getElem?_cons_succ, List.getElem?_cons_zero]); rfl) (by kernel_rfl) (by kernel_rfl) (by kernel_rfl) (by exact fun _ _ _ h => h) (Or.inl ⟨by first | kernel_rfl | rfl, ?hyR2x1⟩) (by exact hS) ?rsR2x1
    case hyR2x1 => (intro uz hSw; (try dsimp only at hSw); have hxx := HBda.out.q hSw; have d0 := hxx.cell 0 rfl; have d1 := hxx.cell 1 rfl; have d2 := hxx.cell 2 rfl; have d3 := hxx.cell 3 rfl; clear hxx; go_simp; try with_reducible rfl)
    try simp only [Act.put, List.setIfInBounds_toArray, List.set_cons_zero, List.set_cons_succ]
    change wpAnyH _ _ _ _ _ _ #[true, false, false, false, false, false, false, false, false, false, false, false, false, false, false, false, false, false, false, false, false, false, false, false, false, false, false, false, false, false, false, false] _ _
    refine wpAnyH_ready (rs := [1]) (by kernel_rfl) (by simp) ?_
    refine (AllReadyH.cons (by (try simp only [List.getElem?_toArray, List.getElem?_cons_succ, List.getElem?_cons_zero]); rfl) (fun K hK => ?_) AllReadyH.nil)
    go_simp
    refine (HMX.out _ _ _ _ _ (HIda.out.q hS) (HFda.out.q hS)).mono ?_
    rintro e yR2x2 ⟨rfl, hq⟩
    try (go_wp2_with fail)
    have hS2 := Q.trans hS hq
    refine hK.out _ _ (by exact hS2) (fun hHeld => ?_)
    clear hK K hHeld hS hq
    have hS := hS2
    clear hS2
    try simp only [Act.put, List.setIfInBounds_toArray, List.set_cons_zero, List.set_cons_succ]
    change wpAnyH _ _ _ _ _ _ #[true, true, false, false, false, false, false, false, false, false, false, false, false, false, false, false, false, false, false, false, false, false, false, false, false, false, false, false, false, false, false, false] _ _
    refine wpAnyH_take (i := 2) (v := ?vR2x3) (by (try simp only [List.getElem?_toArray, List.getElem?_cons_succ, List.getElem?_cons_zero]); rfl) (by kernel_rfl) (by kernel_rfl) (by kernel_rfl) (by exact fun _ _ _ h => h) (Or.inl ⟨by first | kernel_rfl | rfl, ?hyR2x3⟩) (by exact hS) ?rsR2x3
    case hyR2x3 => (intro uz hSw; (try dsimp only at hSw); go_simp; try with_reducible rfl)
    try simp only [Act.put, List.setIfInBounds_toArray, List.set_cons_zero, List.set_cons_succ]
    change wpAnyH _ _ _ _ _ _ #[true, true, true, false, false, false, false, false, false, false, false, false, false, false, false, false, false, false, false, false, false, false, false, false, false, false, false, false, false, false, false, false] _ _
    refine wpAnyH_take (i := 3) (v := ?vR2x4) (by (try simp only [List.getElem?_toArray, List.getElem?_cons_succ, List.getElem?_cons_zero]); rfl) (by kernel_rfl) (by kernel_rfl) (by kernel_rfl) (by exact fun _ _ _ h => h) (Or.inl ⟨by first | kernel_rfl | rfl, ?hyR2x4⟩) (by exact hS) ?rsR2x4
    case hyR2x4 => (intro uz hSw; (try dsimp only at hSw); have hxx := HBda.out.q hSw; have d0 := hxx.cell 0 rfl; have d1 := hxx.cell 1 rfl; have d2 := hxx.cell 2 rfl; have d3 := hxx.cell 3 rfl; clear hxx; go_simp; try with_reducible rfl)
    try simp only [Act.put, List.setIfInBounds_toArray, List.set_cons_zero, List.set_cons_succ]
    change wpAnyH _ _ _ _ _ _ #[true, true, true, true, false, false, false, false, false, false, false, false, false, false, false, false, false, false, false, false, false, false, false, false, false, false, false, false, false, false, false, false] _ _
    refine wpAnyH_take (i := 5) (v := ?vR2x5) (by (try simp only [List.getElem?_toArray, List.getElem?_cons_succ, List.getElem?_cons_zero]); rfl) (by kernel_rfl) (by kernel_rfl) (by kernel_rfl) (by exact fun _ _ _ h => h) (Or.inl ⟨by first | kernel_rfl | rfl, ?hyR2x5⟩) (by exact hS) ?rsR2x5
    case hyR2x5 => (intro uz hSw; (try dsimp only at hSw); have hxx := HBxx.out.q hSw; have d0 := hxx.cell 0 rfl; have d1 := hxx.cell 1 rfl; have d2 := hxx.cell 2 rfl; clear hxx; go_simp; try with_reducible rfl)
    try simp only [Act.put, List.setIfInBounds_toArray, List.set_cons_zero, List.set_cons_succ]
    change wpAnyH _ _ _ _ _ _ #[true, true, true, true, false, true, false, false, false, false, false, false, false, false, false, false, false, false, false, false, false, false, false, false, false, false, false, false, false, false, false, false] _ _
    refine wpAnyH_ready (rs := [4]) (by kernel_rfl) (by simp) ?_
    refine (AllReadyH.cons (by (try simp only [List.getElem?_toArray, List.getElem?_cons_succ, List.getElem?_cons_zero]); rfl) (fun K hK => ?_) AllReadyH.nil)
    go_simp
    refine (HD1.out _ _ _ _ _ (HIda.out.q hS) (HFda.out.q hS)).mono ?_
    rintro e yR2x6 ⟨sa, sc, rfl, ho, hq⟩
    have HZ1 := Lib.hid ho
    clear ho
    try (go_wp2_with fail)
    have hS2 := Q.trans hS hq
    refine hK.out _ _ (by exact hS2) (fun hHeld => ?_)
    clear hK K hHeld hS hq
    have hS := hS2
    clear hS2
    try simp only [Act.put, List.setIfInBounds_toArray, List.set_cons_zero, List.set_cons_succ]
    change wpAnyH _ _ _ _ _ _ #[true, true, true, true, true, true, false, false, false, false, false, false, false, false, false, false, false, false, false, false, false, false, false, false, false, false, false, false, false, false, false, false] _ _
    refine wpAnyH_ready (rs := [6]) (by kernel_rfl) (by simp) ?_
    refine (AllReadyH.cons (by (try simp only [List.getElem?_toArray, List.getElem?_cons_succ, List.getElem?_cons_zero]); rfl) (fun K hK => ?_) AllReadyH.nil)
    go_simp
    refine (HCM.out _ _ _ _ _ HZ1.out (HOX.out.q hS)).mono ?_
    rintro e yR2x7 ⟨rfl, hq⟩
    try (go_wp2_with fail)
    have HZ1 := Lib.hid (Lst.q HZ1.out hq)
    have hS2 := Q.trans hS hq
    refine hK.out _ _ (by exact hS2) (fun hHeld => ?_)
    clear hK K hHeld hS hq
    have hS := hS2
    clear hS2
    try simp only [Act.put, List.setIfInBounds_toArray, List.set_cons_zero, List.set_cons_succ]
    change wpAnyH _ _ _ _ _ _ #[true, true, true, true, true, true, true, false, false, false, false, false, false, false, false, false, false, false, false, false, false, false, false, false, false, false, false, false, false, false, false, false] _ _
    refine wpAnyH_take (i := 7) (v := ?vR2x8) (by (try simp only [List.getElem?_toArray, List.getElem?_cons_succ, List.getElem?_cons_zero]); rfl) (by kernel_rfl) (by kernel_rfl) (by kernel_rfl) (by exact fun _ _ _ h => h) (Or.inl ⟨by first | kernel_rfl | rfl, ?hyR2x8⟩) (by exact hS) ?rsR2x8
    case hyR2x8 => (intro uz hSw; (try dsimp only at hSw); go_simp; try with_reducible rfl)
    try simp only [Act.put, List.setIfInBounds_toArray, List.set_cons_zero, List.set_cons_succ]
    change wpAnyH _ _ _ _ _ _ #[true, true, true, true, true, true, true, true, false, false, false, false, false, false, false, false, false, false, false, false, false, false, false, false, false, false, false, false, false, false, false, false] _ _
    refine wpAnyH_take (i := 8) (v := ?vR2x9) (by (try simp only [List.getElem?_toArray, List.getElem?_cons_succ, List.getElem?_cons_zero]); rfl) (by kernel_rfl) (by kernel_rfl) (by kernel_rfl) (by exact fun _ _ _ h => h) (Or.inl ⟨by first | kernel_rfl | rfl, ?hyR2x9⟩) (by exact hS) ?rsR2x9
    case hyR2x9 => (intro uz hSw; (try dsimp only at hSw); go_simp; try with_reducible rfl)
    try simp only [Act.put, List.setIfInBounds_toArray, List.set_cons_zero, List.set_cons_succ]
    change wpAnyH _ _ _ _ _ _ #[true, true, true, true, true, true, true, true, true, false, false, false, false, false, false, false, false, false, false, false, false, false, false, false, false, false, false, false, false, false, false, false] _ _
    refine wpAnyH_take (i := 9) (v := ?vR2x10) (by (try simp only [List.getElem?_toArray, List.getElem?_cons_succ, List.getElem?_cons_zero]); rfl) (by kernel_rfl) (by kernel_rfl) (by kernel_rfl) (by exact fun _ _ _ h => h) (Or.inl ⟨by first | kernel_rfl | rfl, ?hyR2x10⟩) (by exact hS) ?rsR2x10
    case hyR2x10 => (intro uz hSw; (try dsimp only at hSw); go_simp; try with_reducible rfl)
    try simp only [Act.put, List.setIfInBounds_toArray, List.set_cons_zero, List.set_cons_succ]
    change wpAnyH _ _ _ _ _ _ #[true, true, true, true, true, true, true, true, true, true, false, false, false, false, false, false, false, false, false, false, false, false, false, false, false, false, false, false, false, false, false, false] _ _
    refine wpAnyH_take (i := 10) (v := ?vR2x11) (by (try simp only [List.getElem?_toArray, List.getElem?_cons_succ, List.getElem?_cons_zero]); rfl) (by kernel_rfl) (by kernel_rfl) (by kernel_rfl) (by exact fun _ _ _ h => h) (Or.inl ⟨by first | kernel_rfl | rfl, ?hyR2x11⟩) (by exact hS) ?rsR2x11
    case hyR2x11 => (intro uz hSw; (try dsimp only at hSw); go_simp; try with_reducible rfl)
    try simp only [Act.put, List.setIfInBounds_toArray, List.set_cons_zero, List.set_cons_succ]
    change wpAnyH _ _ _ _ _ _ #[true, true, true, true, true, true, true, true, true, true, true, false, false, false, false, false, false, false, false, false, false, false, false, false, false, false, false, false, false, false, false, false] _ _
    refine wpAnyH_take (i := 11) (v := ?vR2x12) (by (try simp only [List.getElem?_toArray, List.getElem?_cons_succ, List.getElem?_cons_zero]); rfl) (by kernel_rfl) (by kernel_rfl) (by kernel_rfl) (by exact fun _ _ _ h => h) (Or.inl ⟨by first | kernel_rfl | rfl, ?hyR2x12⟩) (by exact hS) ?rsR2x12
    case hyR2x12 => (intro uz hSw; (try dsimp only at hSw); have hxx := HBda.out.q hSw; have d0 := hxx.cell 0 rfl; have d1 := hxx.cell 1 rfl; have d2 := hxx.cell 2 rfl; have d3 := hxx.cell 3 rfl; clear hxx; go_simp; try with_reducible rfl)
    try simp only [Act.put, List.setIfInBounds_toArray, List.set_cons_zero, List.set_cons_succ]
    change wpAnyH _ _ _ _ _ _ #[true, true, true, true, true, true, true, true, true, true, true, true, false, false, false, false, false, false, false, false, false, false, false, false, false, false, false, false, false, false, false, false] _ _
    refine wpAnyH_take (i := 12) (v := ?vR2x13) (by (try simp only [List.getElem?_toArray, List.getElem?_cons_succ, List.getElem?_cons_zero]); rfl) (by kernel_rfl) (by kernel_rfl) (by kernel_rfl) (by exact fun _ _ _ h => h) (Or.inl ⟨by first | kernel_rfl | rfl, ?hyR2x13⟩) (by exact hS) ?rsR2x13
    case hyR2x13 => (intro uz hSw; (try dsimp only at hSw); go_simp; try with_reducible rfl)
    try simp only [Act.put, List.setIfInBounds_toArray, List.set_cons_zero, List.set_cons_succ]
    change wpAnyH _ _ _ _ _ _ #[true, true, true, true, true, true, true, true, true, true, true, true, true, false, false, false, false, false, false, false, false, false, false, false, false, false, false, false, false, false, false, false] _ _
    refine wpAnyH_take (i := 13) (v := ?vR2x14) (by (try simp only [List.getElem?_toArray, List.getElem?_cons_succ, List.getElem?_cons_zero]); rfl) (by kernel_rfl) (by kernel_rfl) (by kernel_rfl) (by exact fun _ _ _ h => h) (Or.inl ⟨by first | kernel_rfl | rfl, ?hyR2x14⟩) (by exact hS) ?rsR2x14
    case hyR2x14 => (intro uz hSw; (try dsimp only at hSw); go_simp; try with_reducible rfl)
    try simp only [Act.put, List.setIfInBounds_toArray, List.set_cons_zero, List.set_cons_succ]
    change wpAnyH _ _ _ _ _ _ #[true, true, true, true, true, true, true, true, true, true, true, true, true, true, false, false, false, false, false, false, false, false, false, false, false, false, false, false, false, false, false, false] _ _
    refine wpAnyH_take (i := 14) (v := ?vR2x15) (by (try simp only [List.getElem?_toArray, List.getElem?_cons_succ, List.getElem?_cons_zero]); rfl) (by kernel_rfl) (by kernel_rfl) (by kernel_rfl) (by exact fun _ _ _ h => h) (Or.inl ⟨by first | kernel_rfl | rfl, ?hyR2x15⟩) (by exact hS) ?rsR2x15
    case hyR2x15 => (intro uz hSw; (try dsimp only at hSw); go_simp; try with_reducible rfl)
    try simp only [Act.put, List.setIfInBounds_toArray, List.set_cons_zero, List.set_cons_succ]
    change wpAnyH _ _ _ _ _ _ #[true, true, true, true, true, true, true, true, true, true, true, true, true, true, true, false, false, false, false, false, false, false, false, false, false, false, false, false, false, false, false, false] _ _
    refine wpAnyH_take (i := 15) (v := ?vR2x16) (by (try simp only [List.getElem?_toArray, List.getElem?_cons_succ, List.getElem?_cons_zero]); rfl) (by kernel_rfl) (by kernel_rfl) (by kernel_rfl) (by exact fun _ _ _ h => h) (Or.inl ⟨by first | kernel_rfl | rfl, ?hyR2x16⟩) (by exact hS) ?rsR2x16
    case hyR2x16 => (intro uz hSw; (try dsimp only at hSw); go_simp; try with_reducible rfl)
    try simp only [Act.put, List.setIfInBounds_toArray, List.set_cons_zero, List.set_cons_succ]
    change wpAnyH _ _ _ _ _ _ #[true, true, true, true, true, true, true, true, true, true, true, true, true, true, true, true, false, false, false, false, false, false, false, false, false, false, false, false, false, false, false, false] _ _
    refine wpAnyH_take (i := 16) (v := ?vR2x17) (by (try simp only [List.getElem?_toArray, List.getElem?_cons_succ, List.getElem?_cons_zero]); rfl) (by kernel_rfl) (by kernel_rfl) (by kernel_rfl) (by exact fun _ _ _ h => h) (Or.inl ⟨by first | kernel_rfl | rfl, ?hyR2x17⟩) (by exact hS) ?rsR2x17
    case hyR2x17 => (intro uz hSw; (try dsimp only at hSw); go_simp; try with_reducible rfl)
    try simp only [Act.put, List.setIfInBounds_toArray, List.set_cons_zero, List.set_cons_succ]
    change wpAnyH _ _ _ _ _ _ #[true, true, true, true, true, true, true, true, true, true, true, true, true, true, true, true, true, false, false, false, false, false, false, false, false, false, false, false, false, false, false, false] _ _
    refine wpAnyH_take (i := 17) (v := ?vR2x18) (by (try simp only [List.getElem?_toArray, List.getElem?_cons_succ, List.getElem?_cons_zero]); rfl) (by kernel_rfl) (by kernel_rfl) (by kernel_rfl) (by exact fun _ _ _ h => h) (Or.inl ⟨by first | kernel_rfl | rfl, ?hyR2x18⟩) (by exact hS) ?rsR2x18
    case hyR2x18 => (intro uz hSw; (try dsimp only at hSw); go_simp; try with_reducible rfl)
    try simp only [Act.put, List.setIfInBounds_toArray, List.set_cons_zero, List.set_cons_succ]
    change wpAnyH _ _ _ _ _ _ #[true, true, true, true, true, true, true, true, true, true, true, true, true, true, true, true, true, true, false, false, false, false, false, false, false, false, false, false, false, false, false, false] _ _
    refine wpAnyH_take (i := 18) (v := ?vR2x19) (by (try simp only [List.getElem?_toArray, List.getElem?_cons_succ, List.getElem?_cons_zero]); rfl) (by kernel_rfl) (by kernel_rfl) (by kernel_rfl) (by exact fun _ _ _ h => h) (Or.inl ⟨by first | kernel_rfl | rfl, ?hyR2x19⟩) (by exact hS) ?rsR2x19
    case hyR2x19 => (intro uz hSw; (try dsimp only at hSw); have hxx := HBda.out.q hSw; have d0 := hxx.cell 0 rfl; have d1 := hxx.cell 1 rfl; have d2 := hxx.cell 2 rfl; have d3 := hxx.cell 3 rfl; clear hxx; go_simp; try with_reducible rfl)
    try simp only [Act.put, List.setIfInBounds_toArray, List.set_cons_zero, List.set_cons_succ]
    change wpAnyH _ _ _ _ _ _ #[true, true, true, true, true, true, true, true, true, true, true, true, true, true, true, true, true, true, true, false, false, false, false, false, false, false, false, false, false, false, false, false] _ _
    refine wpAnyH_take (i := 19) (v := ?vR2x20) (by (try simp only [List.getElem?_toArray, List.getElem?_cons_succ, List.getElem?_cons_zero]); rfl) (by kernel_rfl) (by kernel_rfl) (by kernel_rfl) (by exact fun _ _ _ h => h) (Or.inl ⟨by first | kernel_rfl | rfl, ?hyR2x20⟩) (by exact hS) ?rsR2x20
    case hyR2x20 => (intro uz hSw; (try dsimp only at hSw); go_simp; try with_reducible rfl)
    try simp only [Act.put, List.setIfInBounds_toArray, List.set_cons_zero, List.set_cons_succ]
    change wpAnyH _ _ _ _ _ _ #[true, true, true, true, true, true, true, true, true, true, true, true, true, true, true, true, true, true, true, true, false, false, false, false, false, false, false, false, false, false, false, false] _ _
    refine wpAnyH_take (i := 20) (v := ?vR2x21) (by (try simp only [List.getElem?_toArray, List.getElem?_cons_succ, List.getElem?_cons_zero]); rfl) (by kernel_rfl) (by kernel_rfl) (by kernel_rfl) (by exact fun _ _ _ h => h) (Or.inl ⟨by first | kernel_rfl | rfl, ?hyR2x21⟩) (by exact hS) ?rsR2x21
    case hyR2x21 => (intro uz hSw; (try dsimp only at hSw); go_simp; try with_reducible rfl)
    try simp only [Act.put, List.setIfInBounds_toArray, List.set_cons_zero, List.set_cons_succ]
    change wpAnyH _ _ _ _ _ _ #[true, true, true, true, true, true, true, true, true, true, true, true, true, true, true, true, true, true, true, true, true, false, false, false, false, false, false, false, false, false, false, false] _ _
    refine wpAnyH_take (i := 21) (v := ?vR2x22) (by (try simp only [List.getElem?_toArray, List.getElem?_cons_succ, List.getElem?_cons_zero]); rfl) (by kernel_rfl) (by kernel_rfl) (by kernel_rfl) (by exact fun _ _ _ h => h) (Or.inl ⟨by first | kernel_rfl | rfl, ?hyR2x22⟩) (by exact hS) ?rsR2x22
    case hyR2x22 => (intro uz hSw; (try dsimp only at hSw); go_simp; try with_reducible rfl)
    try simp only [Act.put, List.setIfInBounds_toArray, List.set_cons_zero, List.set_cons_succ]
    change wpAnyH _ _ _ _ _ _ #[true, true, true, true, true, true, true, true, true, true, true, true, true, true, true, true, true, true, true, true, true, true, false, false, false, false, false, false, false, false, false, false] _ _
    refine wpAnyH_take (i := 22) (v := ?vR2x23) (by (try simp only [List.getElem?_toArray, List.getElem?_cons_succ, List.getElem?_cons_zero]); rfl) (by kernel_rfl) (by kernel_rfl) (by kernel_rfl) (by exact fun _ _ _ h => h) (Or.inl ⟨by first | kernel_rfl | rfl, ?hyR2x23⟩) (by exact hS) ?rsR2x23
    case hyR2x23 => (intro uz hSw; (try dsimp only at hSw); go_simp; try with_reducible rfl)
    try simp only [Act.put, List.setIfInBounds_toArray, List.set_cons_zero, List.set_cons_succ]
    change wpAnyH _ _ _ _ _ _ #[true, true, true, true, true, true, true, true, true, true, true, true, true, true, true, true, true, true, true, true, true, true, true, false, false, false, false, false, false, false, false, false] _ _
    refine wpAnyH_take (i := 23) (v := ?vR2x24) (by (try simp only [List.getElem?_toArray, List.getElem?_cons_succ, List.getElem?_cons_zero]); rfl) (by kernel_rfl) (by kernel_rfl) (by kernel_rfl) (by exact fun _ _ _ h => h) (Or.inl ⟨by first | kernel_rfl | rfl, ?hyR2x24⟩) (by exact hS) ?rsR2x24
    case hyR2x24 => (intro uz hSw; (try dsimp only at hSw); go_simp; try with_reducible rfl)
    try simp only [Act.put, List.setIfInBounds_toArray, List.set_cons_zero, List.set_cons_succ]
    change wpAnyH _ _ _ _ _ _ #[true, true, true, true, true, true, true, true, true, true, true, true, true, true, true, true, true, true, true, true, true, true, true, true, false, false, false, false, false, false, false, false] _ _
    refine wpAnyH_take (i := 24) (v := ?vR2x25) (by (try simp only [List.getElem?_toArray, List.getElem?_cons_succ, List.getElem?_cons_zero]); rfl) (by kernel_rfl) (by kernel_rfl) (by kernel_rfl) (by exact fun _ _ _ h => h) (Or.inl ⟨by first | kernel_rfl | rfl, ?hyR2x25⟩) (by exact hS) ?rsR2x25
    case hyR2x25 => (intro uz hSw; (try dsimp only at hSw); have hxx := HBda.out.q hSw; have d0 := hxx.cell 0 rfl; have d1 := hxx.cell 1 rfl; have d2 := hxx.cell 2 rfl; have d3 := hxx.cell 3 rfl; clear hxx; go_simp; try with_reducible rfl)
    try simp only [Act.put, List.setIfInBounds_toArray, List.set_cons_zero, List.set_cons_succ]
    change wpAnyH _ _ _ _ _ _ #[true, true, true, true, true, true, true, true, true, true, true, true, true, true, true, true, true, true, true, true, true, true, true, true, true, false, false, false, false, false, false, false] _ _
    refine wpAnyH_ready (rs := [25]) (by kernel_rfl) (by simp) ?_
    refine (AllReadyH.cons (by (try simp only [List.getElem?_toArray, List.getElem?_cons_succ, List.getElem?_cons_zero]); rfl) (fun K hK => ?_) AllReadyH.nil)
    go_simp
    refine (HLN.out _ _ _ _ _).mono ?_
    rintro e yR2x26 ⟨rfl, hq⟩
    try (go_wp2_with fail)
    have HZ1 := Lib.hid (Lst.q HZ1.out hq)
    have hS2 := Q.trans hS hq
    refine hK.out _ _ (by exact hS2) (fun hHeld => ?_)
    clear hK K hHeld hS hq
    have hS := hS2
    clear hS2
    try simp only [Act.put, List.setIfInBounds_toArray, List.set_cons_zero, List.set_cons_succ]
    change wpAnyH _ _ _ _ _ _ #[true, true, true, true, true, true, true, true, true, true, true, true, true, true, true, true, true, true, true, true, true, true, true, true, true, true, false, false, false, false, false, false] _ _
    refine wpAnyH_take (i := 26) (v := ?vR2x27) (by (try simp only [List.getElem?_toArray, List.getElem?_cons_succ, List.getElem?_cons_zero]); rfl) (by kernel_rfl) (by kernel_rfl) (by kernel_rfl) (by exact fun _ _ _ h => h) (Or.inl ⟨by first | kernel_rfl | rfl, ?hyR2x27⟩) (by exact hS) ?rsR2x27
    case hyR2x27 => (intro uz hSw; (try dsimp only at hSw); go_simp; try with_reducible rfl)
    try simp only [Act.put, List.setIfInBounds_toArray, List.set_cons_zero, List.set_cons_succ]
    change wpAnyH _ _ _ _ _ _ #[true, true, true, true, true, true, true, true, true, true, true, true, true, true, true, true, true, true, true, true, true, true, true, true, true, true, true, false, false, false, false, false] _ _
    refine wpAnyH_take (i := 27) (v := ?vR2x28) (by (try simp only [List.getElem?_toArray, List.getElem?_cons_succ, List.getElem?_cons_zero]); rfl) (by kernel_rfl) (by kernel_rfl) (by kernel_rfl) (by exact fun _ _ _ h => h) (Or.inl ⟨by first | kernel_rfl | rfl, ?hyR2x28⟩) (by exact hS) ?rsR2x28
    case hyR2x28 => (intro uz hSw; (try dsimp only at hSw); go_simp; try with_reducible rfl)
    try simp only [Act.put, List.setIfInBounds_toArray, List.set_cons_zero, List.set_cons_succ]
    change wpAnyH _ _ _ _ _ _ #[true, true, true, true, true, true, true, true, true, true, true, true, true, true, true, true, true, true, true, true, true, true, true, true, true, true, true, true, false, false, false, false] _ _
    refine wpAnyH_take (i := 28) (v := ?vR2x29) (by (try simp only [List.getElem?_toArray, List.getElem?_cons_succ, List.getElem?_cons_zero]); rfl) (by kernel_rfl) (by kernel_rfl) (by kernel_rfl) (by exact fun _ _ _ h => h) (Or.inl ⟨by first | kernel_rfl | rfl, ?hyR2x29⟩) (by exact hS) ?rsR2x29
    case hyR2x29 => (intro uz hSw; (try dsimp only at hSw); go_simp; try with_reducible rfl)
    try simp only [Act.put, List.setIfInBounds_toArray, List.set_cons_zero, List.set_cons_succ]
    change wpAnyH _ _ _ _ _ _ #[true, true, true, true, true, true, true, true, true, true, true, true, true, true, true, true, true, true, true, true, true, true, true, true, true, true, true, true, true, false, false, false] _ _
    refine wpAnyH_ready (rs := [29]) (by kernel_rfl) (by simp) ?_
    refine (AllReadyH.cons (by (try simp only [List.getElem?_toArray, List.getElem?_cons_succ, List.getElem?_cons_zero]); rfl) (fun K hK => ?_) AllReadyH.nil)
    go_simp
    refine (HLV.out _).mono ?_
    rintro e yR2x30 ⟨rfl, hq⟩
    try (go_wp2_with fail)
    have HZ1 := Lib.hid (Lst.q HZ1.out hq)
    have hS2 := Q.trans hS hq
    refine hK.out _ _ (by exact hS2) (fun hHeld => ?_)
    clear hK K hHeld hS hq
    have hS := hS2
    clear hS2
    try simp only [Act.put, List.setIfInBounds_toArray, List.set_cons_zero, List.set_cons_succ]
    change wpAnyH _ _ _ _ _ _ #[true, true, true, true, true, true, true, true, true, true, true, true, true, true, true, true, true, true, true, true, true, true, true, true, true, true, true, true, true, true, false, false] _ _
    refine wpAnyH_take (i := 30) (v := ?vR2x31) (by (try simp only [List.getElem?_toArray, List.getElem?_cons_succ, List.getElem?_cons_zero]); rfl) (by kernel_rfl) (by kernel_rfl) (by kernel_rfl) (by exact fun _ _ _ h => h) (Or.inl ⟨by first | kernel_rfl | rfl, ?hyR2x31⟩) (by exact hS) ?rsR2x31
    case hyR2x31 => (intro uz hSw; (try dsimp only at hSw); go_simp; try with_reducible rfl)
    try simp only [Act.put, List.setIfInBounds_toArray, List.set_cons_zero, List.set_cons_succ]
    change wpAnyH _ _ _ _ _ _ #[true, true, true, true, true, true, true, true, true, true, true, true, true, true, true, true, true, true, true, true, true, true, true, true, true, true, true, true, true, true, true, false] _ _
    refine wpAnyH_take (i := 31) (v := ?vR2x32) (by (try simp only [List.getElem?_toArray, List.getElem?_cons_succ, List.getElem?_cons_zero]); rfl) (by kernel_rfl) (by kernel_rfl) (by kernel_rfl) (by exact fun _ _ _ h => h) (Or.inl ⟨by first | kernel_rfl | rfl, ?hyR2x32⟩) (by exact hS) ?rsR2x32
    case hyR2x32 => (intro uz hSw; (try dsimp only at hSw); go_simp; try with_reducible rfl)
    try simp only [Act.put, List.setIfInBounds_toArray, List.set_cons_zero, List.set_cons_succ]
    change wpAnyH _ _ _ _ _ _ #[true, true, true, true, true, true, true, true, true, true, true, true, true, true, true, true, true, true, true, true, true, true, true, true, true, true, true, true, true, true, true, true] _ _
    refine wpAnyH_done (by kernel_rfl) ?_ _
    go_wp2_with fail
    go_ret
    exact ⟨rfl, HQ.out.trans hS⟩

set_option maxRecDepth 100000 in
theorem lifted (os : Os) (started : os.Started) (H : Type) (enc : TypeId × Value → H) :
    ReturnsInHanded {} Try.checked os 5 .any (Rows.draftFromSpec.pre6 enc Try.prog Try.f5 Rows.draftFromRow.domain false) (Rows.draftFromSpec.post enc Try.prog Try.f5 false true false false) := by
  refine returnsInHanded_of_change (C := Try.checked) own started (by kernel_rfl) Try.func5
    (ChangeSpec.witness6 (enc := enc) (C := Try.checked) false ⟨#[], #[.agg #[.bool false, .slice none 0 0, .int .i64 0], .int .i64 0, .int .i64 0], []⟩ 8 (by kernel_rfl) (by kernel_rfl) (by kernel_rfl) (by kernel_rfl)) ?_
  intro W base args ds gs before hval0 hW hcnd _
  have hval : ∀ (j : Nat) t v, Try.f5.params[j]? = some t → args[j]? = some v → Value.okWide Try.prog W .any base t v := hval0
  have hW' := hW
  obtain ⟨p, q, hA0, hV, rfl, hfz, hnd⟩ := hW
  have hA : DataW.TrodAll enc Try.prog W 0 (fun _ => true) true Try.f5.params.toList args.toList ds p := hA0
  rw [Try.params5] at hA hval
  obtain ⟨v0, vs0, d0, ds0, p0, q0, hargs, rfl, rfl, h0, r0⟩ := trodAll_cons hA
  obtain ⟨v1, vs1, d1, ds1, p1, q1, rfl, rfl, rfl, h1, r1⟩ := trodAll_cons r0
  obtain ⟨v2, vs2, d2, ds2, p2, q2, rfl, rfl, rfl, h2, r2⟩ := trodAll_cons r1
  obtain ⟨rfl, rfl, rfl⟩ := trodAll_nil r2
  obtain rfl : args = #[v0, v1, v2] := by cases args; simp_all
  obtain ⟨rfl, rfl⟩ := trodVars_none hV
  have k0 := h0
  have lt0 : ∀ x ∈ p0, x.block < W.heap.size := by obtain ⟨m, hm⟩ := k0; exact DataW.trod_lt m _ _ _ hm
  obtain ⟨c00, c01, c02, y00, y01, y02, m0, rfl, _, _, hy00, hy01, hy02⟩ := Joins.open_agg3 Try.underlying40 (by kernel_rfl) (by kernel_rfl) (hval 0 40 v0 rfl rfl) h0
  obtain ⟨g0, rfl⟩ : ∃ b, c00 = .bool b := by
    obtain ⟨b, h, _⟩ := DataW.trod_bool Try.underlying4 hy00
    exact ⟨b, by simpa using h⟩
  obtain ⟨s0, rfl, ws0⟩ : ∃ n, c02 = .int .i64 n ∧ (Lit.int .i64 n).wf = true := by
    obtain ⟨n, h, _, hw⟩ := DataW.trod_int Try.underlying3 hy02
    exact ⟨n, by simpa using h, hw⟩
  obtain ⟨a0, len0, cap0, z0, rfl, w0⟩ : ∃ a len cap zs, c01 = .slice a len cap ∧ IsRow .i64 W a len cap zs := by
    rcases open_ints Try.underlying22 Try.underlying3 (by kernel_rfl) hy01 with ⟨hcs, _⟩ | ⟨x, l, c, zs, hcs, _, hl, hm, hz, _, hcell, hwz⟩
    · exact ⟨none, 0, 0, [], by simpa using hcs, .inl ⟨rfl, rfl, rfl, rfl⟩⟩
    · exact ⟨some x, l, c, zs, by simpa using hcs, .inr ⟨_, rfl, hl, hm, by simpa using hz, hcell, hwz⟩⟩
  obtain ⟨xs0, l0, _, b0⟩ := w0.lst
  obtain ⟨a1, rfl, rfl, rfl, w1⟩ := open_int Try.underlying3 (hval 1 3 v1 rfl rfl) h1
  obtain ⟨a2, rfl, rfl, rfl, w2⟩ := open_int Try.underlying3 (hval 2 3 v2 rfl rfl) h2
  clear hA0 hval0
  refine (walk W g0 (.slice a0 len0 cap0) xs0 l0 b0 s0 (bounds_i64 ws0) a1 (bounds_i64 w1) a2 (bounds_i64 w2)).mono fun e W' ⟨he, bel⟩ => ?_
  subst he
  exact ⟨_, rfl, _, _, _, [], _, [], hW', trodAll_mk1 (shut_bool Try.underlying4 _), (trodAll_cons_mk (Below.trod laidOut (by kernel_rfl) (of_decide_eq_true (by kernel_rfl)) k0 bel lt0) (trodAll_cons_mk (shut_int Try.underlying3 w1) (trodAll_cons_mk (shut_int Try.underlying3 w2) trodAll_mk0))), rfl, bel.below.frame _, fun h => by cases h⟩

/-- The statement. -/
theorem proved : Rows.DraftFromSaid :=
  OpenClaim.holds_of_wide 5 Try.f5 rfl rfl rfl rfl rfl rfl rfl ⟨rfl, rfl, rfl, rfl, rfl⟩ rfl rfl rfl rfl rfl (by kernel_rfl) Try.func5 (by kernel_rfl)
    (of_decide_eq_true (by kernel_rfl)) (by unfold Func.isWrapper; first | (rw [if_pos (by decide +kernel)]; kernel_rfl) | (rw [if_neg (by decide +kernel)]; exact ⟨rfl, rfl⟩))
    (fun os started H enc _ => lifted os started H enc)
#print axioms proved
end Go.Proofs.Ytagpofhencpliaa.draftFrom
