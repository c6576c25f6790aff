/- ConfigFits: of whatever configuration (made one that may be), and whatever decimal (its first 14 numbers; raw, and made one that may be), which numbers fit is told as the document says; no conditions. -/
import Derived.Test.YteljedefbomlgaaRows
import Derived.WalkKit
import Derived.ProofKit
import Derived.OpenShut
import Derived.ShutString
import Derived.ChangeOld
import Derived.Below
import Derived.Lib.SmallJoins
import Derived.Test.YteljedefbomlgaaR00
import Derived.Test.YteljedefbomlgaaR02
import Derived.Test.YteljedefbomlgaaR03
import Derived.Test.YteljedefbomlgaaR01
import Derived.Test.YteljedefbomlgaaR08
import Derived.Test.YteljedefbomlgaaR10
import Derived.Test.YteljedefbomlgaaR12
import Derived.Test.YteljedefbomlgaaR06
import Derived.Test.YteljedefbomlgaaR13
import Derived.Test.YteljedefbomlgaaR23
import Derived.Test.YteljedefbomlgaaR30
import Derived.Test.YteljedefbomlgaaR26
import Derived.Test.YteljedefbomlgaaR27
import Derived.Test.YteljedefbomlgaaR37
import Derived.Test.YteljedefbomlgaaR38
import Derived.Test.YteljedefbomlgaaR39
import Derived.Test.YteljedefbomlgaaR40
import Derived.Test.YteljedefbomlgaaR42
import Derived.Test.YteljedefbomlgaaR49
import Derived.Test.YteljedefbomlgaaR41
import Derived.Test.YteljedefbomlgaaR43
import Derived.Test.YteljedefbomlgaaR50
import Derived.Test.YteljedefbomlgaaR46
import Derived.Test.YteljedefbomlgaaR51
import Derived.Test.YteljedefbomlgaaR32
import Derived.Test.YteljedefbomlgaaR44
set_option linter.unusedVariables false
set_option linter.unusedSimpArgs false
namespace Go.Proofs.Yteljedefbomlgaa.configFits
open Go.ChangeShapes Go.WideShapes Go.ChangeAt Go.RowKit
open Go.ChangeMaps (open_string shut_string)

theorem own : ownKnob Try.prog.godebug = none := by kernel_rfl
theorem laidOut : laidOutB Try.prog = true := by kernel_rfl


set_option maxHeartbeats 8000000 in
set_option maxRecDepth 100000 in
theorem walk (w : World) (g0_0 : Bool) (f0_1 : Value) (xs0_1 : List Int) (w0_1 : Lst w f0_1 xs0_1) (b0_1 : ∀ n ∈ xs0_1, -9223372036854775808 ≤ n ∧ n ≤ 9223372036854775807) (s0_2 : Int) (ws0_2 : -9223372036854775808 ≤ s0_2 ∧ s0_2 ≤ 9223372036854775807) (g0_3 : Bool) (f0_4 : Value) (xs0_4 : List Int) (w0_4 : Lst w f0_4 xs0_4) (b0_4 : ∀ n ∈ xs0_4, -9223372036854775808 ≤ n ∧ n ≤ 9223372036854775807) (s0_5 : Int) (ws0_5 : -9223372036854775808 ≤ s0_5 ∧ s0_5 ≤ 9223372036854775807) (f0_6 : Value) (xs0_6 : List Int) (w0_6 : Lst w f0_6 xs0_6) (b0_6 : ∀ n ∈ xs0_6, -9223372036854775808 ≤ n ∧ n ≤ 9223372036854775807) (g0_7 : Bool) (s0_8 : Int) (ws0_8 : -9223372036854775808 ≤ s0_8 ∧ s0_8 ≤ 9223372036854775807) (s0_9 : Int) (ws0_9 : -9223372036854775808 ≤ s0_9 ∧ s0_9 ≤ 9223372036854775807) (s0_10 : Int) (ws0_10 : -9223372036854775808 ≤ s0_10 ∧ s0_10 ≤ 9223372036854775807) (s0_11 : Int) (ws0_11 : -9223372036854775808 ≤ s0_11 ∧ s0_11 ≤ 9223372036854775807) (s0_12 : Int) (ws0_12 : -9223372036854775808 ≤ s0_12 ∧ s0_12 ≤ 9223372036854775807) (s0_13 : Int) (ws0_13 : -9223372036854775808 ≤ s0_13 ∧ s0_13 ≤ 9223372036854775807) (s0_14 : Int) (ws0_14 : -9223372036854775808 ≤ s0_14 ∧ s0_14 ≤ 9223372036854775807) (g1 : Bool) (v1 : Value) (xs1 : List Int) (w1 : Lst w v1 xs1) (b1 : ∀ n ∈ xs1, -9223372036854775808 ≤ n ∧ n ≤ 9223372036854775807) (s1 : Int) (ws1 : -9223372036854775808 ≤ s1 ∧ s1 ≤ 9223372036854775807) :
    Calls Try.prog 5 #[.agg #[.bool g0_0, f0_1, .int .i64 s0_2, .bool g0_3, f0_4, .int .i64 s0_5, f0_6, .bool g0_7, .int .i64 s0_8, .int .i64 s0_9, .int .i64 s0_10, .int .i64 s0_11, .int .i64 s0_12, .int .i64 s0_13, .int .i64 s0_14], .agg #[.bool g1, v1, .int .i64 s1]] w fun e w' => e = .returned (.bool true) ∧ Q w w' := by
  obtain ⟨ga, gb, A, B, d, n0, n1, n2, n3, n4, n5, n6, hgk, hgd⟩ := Kl.start g0_0 g0_3 g0_7 f0_1 f0_4 f0_6 s0_2 s0_5 xs0_1 xs0_4 xs0_6 s0_8 s0_9 s0_10 s0_11 s0_12 s0_13 s0_14 w w0_1 w0_4 w0_6 b0_1 b0_4 b0_6 ws0_2 ws0_5 ws0_8 ws0_9 ws0_10 ws0_11 ws0_12 ws0_13 ws0_14
  obtain ⟨al, cl, rfl⟩ := w0_1.shape
  obtain ⟨ah, ch, rfl⟩ := w0_4.shape
  obtain ⟨az, cz, rfl⟩ := w0_6.shape
  obtain ⟨ll, hll⟩ : ∃ x, x = xs0_1.length := ⟨_, rfl⟩
  obtain ⟨lh, hlh⟩ : ∃ x, x = xs0_4.length := ⟨_, rfl⟩
  obtain ⟨lz, hlz⟩ : ∃ x, x = xs0_6.length := ⟨_, rfl⟩
  rw [← hll, ← hlh, ← hlz] at hgd ⊢
  clear w0_1 w0_4 w0_6 b0_1 b0_4 b0_6 ws0_2 ws0_5 ws0_8 ws0_9 ws0_10 ws0_11 ws0_12 ws0_13 ws0_14 hll hlh hlz
  have HGD := Lib.hid hgd
  have HRU := Lib.hid (fun u (q : Q w u) => Kr.rules_any g0_0 g0_3 g0_7 al ah az ll cl lh ch lz cz s0_2 s0_5 s0_8 s0_9 s0_10 s0_11 s0_12 s0_13 s0_14 u hgk (fun u' q' => hgd u' (q.trans q')))
  have HNW := Lib.hid (fun u => Kp.new_good hgk u)
  have HOF := Lib.hid (fun u => Kl.of_q (Dm.prt ga A n2) (Dm.prt gb B n2) (Dm.prt false [d] n2) n0 n1 n2 n3 n4 n5 n6 u)
  have HLI := Lib.hid Kl.lives_any
  have gle := hgk.le
  have gcl := hgk.cle
  have q1 := Km.dLo_s ga A n2
  have q2 := Km.dLo_s gb B n2
  have q3 := Km.dLo_s false [d] n2
  have p1 := Km.dLo_len ga A n2 hgk.a
  have p2 := Km.dLo_len gb B n2 hgk.b
  have p3 := Km.dLo_len false [d] n2 hgk.okd
  have tr1 := Km.dLo_tr ga A n2
  have tr2 := Km.dLo_tr gb B n2
  have z1 := Km.dLo_abs ga A n2 (n0 + n2) hgk.a hgk.al
  have z2 := Km.dLo_abs gb B n2 (n0 + n2) hgk.b hgk.bl
  have z3 := Km.dLo_abs false [d] n2 (n0 + n2) hgk.okd (by have := hgk.m0; simp only [List.length_cons, List.length_nil]; omega)
  have ng := Km.neg_cmp ga (Dm.num A) n2
  have ng2 : decide (Dm.cmpD (Km.dLo ga A n2).g (Km.dLo ga A n2).m (Km.dLo ga A n2).s false 0 0 < 0) = (Km.dLo ga A n2).g := ng
  have ma := hgk.al
  have mb := hgk.bl
  have m0 := hgk.m0
  have m1 := hgk.m1
  have m2 := hgk.m2
  have m5 := hgk.m5
  simp only [List.length_cons, List.length_nil] at p3
  clear hgd hgk ng
  generalize Km.dLo ga A n2 = lo at *
  generalize Km.dLo gb B n2 = hi at *
  generalize Km.dLo false [d] n2 = st at *
  generalize Dm.prt ga A n2 = t0 at *
  generalize Dm.prt gb B n2 = t1 at *
  generalize Dm.prt false [d] n2 = t2 at *
  have p1' : (Dm.dg lo.m).length ≤ 13 := by omega
  have p2' : (Dm.dg hi.m).length ≤ 13 := by omega
  have p3' : (Dm.dg st.m).length ≤ 13 := by omega
  have lb : n2 ≤ 5 := by omega
  clear p1 p2 p3 ma mb m1 m2
  obtain ⟨A1, C1, rfl, hca1, hcb1⟩ := w1.shape2
  obtain ⟨l1, hl1⟩ : ∃ x, x = xs1.length := ⟨_, rfl⟩
  rw [← hl1] at hca1 ⊢
  have w1' : Lst w (.slice A1 l1 C1) xs1 := by rw [hl1]; exact w1
  obtain ⟨tz1, htz1⟩ : ∃ t : Nat, Um.around s1 10 = (t : Int) := ⟨(Um.around s1 10).toNat, by have := Um.around_bd s1 10 (by omega); omega⟩
  have tb1 : tz1 ≤ 9 := by have := Um.around_bd s1 10 (by omega); omega
  have xl1 := Dm.gdL_len xs1 14
  have xk1 := Dm.gdL_ok xs1 14
  obtain ⟨xn1, hxn1⟩ : ∃ x, (Dm.gdL xs1 14).length = x := ⟨_, rfl⟩
  have HX1 := Lib.hid (fun u (q : Q w u) => Ep.good_sh u g1 A1 l1 C1 s1 xs1 14 (w1'.q q) hl1.symm ws1 (by omega) b1 tz1 xn1 htz1 hxn1)
  rw [hxn1] at xl1
  have xb1 : xn1 ≤ 14 := by omega
  generalize Dm.gdL xs1 14 = X1 at *
  clear w1 htz1 xl1
  obtain ⟨f1, hf1⟩ : ∃ x, min l1 14 = x := ⟨_, rfl⟩
  have fb1 : f1 ≤ 14 := by omega
  have HW1 := Lib.hid (fun u => Ep.few_sh u g1 A1 l1 C1 s1 14 f1 hca1 hcb1 (by omega) hf1)
  have hr1 : Lst w (.slice A1 f1 C1) (xs1.take f1) := Lst.take w1' f1 (by omega)
  have rn1 : (xs1.take f1).length = f1 := by rw [List.length_take]; omega
  generalize xs1.take f1 = R1 at *
  obtain ⟨mb1, hmb1⟩ : ∃ b, (Dm.okB R1 && decide (0 ≤ s1) && decide (s1 ≤ 1000)) = b := ⟨_, rfl⟩
  obtain ⟨fo, hfo⟩ : ∃ b, b = Km.fit n0 n2 (Dm.num X1) tz1 := ⟨_, rfl⟩
  obtain ⟨fr, hfr⟩ : ∃ b, b = Km.fit n0 n2 (Dm.num R1) s1.toNat := ⟨_, rfl⟩
  obtain ⟨fx, hfx⟩ : ∃ b, b = (mb1 && fr) := ⟨_, rfl⟩
  have hx1 : X1.length = xn1 := hxn1
  have okx := (Dm.okB_iff X1).2 xk1
  have HPO := Lib.hid (fun u (v1 v2 v3 : Value) sg a c (hv : Lst u (.slice a xn1 c) X1) => Kl.fits_all lo.g hi.g st.g sg g1 v1 v2 v3 a xn1 c lo.s hi.s st.s n0 n1 n2 n3 n4 n5 n6 tz1 X1 u hv (by omega) (by omega) true (by rw [okx, decide_eq_true (by omega), decide_eq_true (by omega)]; rfl) fo (by rw [hfo]; rfl))
  have HDO := Lib.hid (fun u a c (hv : Lst u (.slice a xn1 c) X1) => by
    have k := Kr.fits_any n0 n1 n2 n3 n4 n5 n6 g1 (.slice a xn1 c) tz1 X1 u hv (by omega) xk1 (by omega)
    rw [← hfo] at k
    exact k)
  have HPR := Lib.hid (fun u (q : Q w u) (v1 v2 v3 : Value) sg => Kl.fits_all lo.g hi.g st.g sg g1 v1 v2 v3 A1 f1 C1 lo.s hi.s st.s n0 n1 n2 n3 n4 n5 n6 s1 R1 u (hr1.q q) (by omega) ws1 mb1 hmb1 fx (by rw [hfx, hfr]))
  have HDR := Lib.hid (show mb1 = true → ∀ u, Q w u → Calls Try.prog 25 #[.agg #[.int .i64 n0, .int .i64 n1, .int .i64 n2, .int .i64 n3, .int .i64 n4, .int .i64 n5, .int .i64 n6], .agg #[.bool g1, .slice A1 f1 C1, .int .i64 s1]] u fun e w' => e = .returned (.bool fr) ∧ Q u w' from fun hbt u q => by
    rw [hbt] at hmb1
    simp only [Bool.and_eq_true, decide_eq_true_eq] at hmb1
    have k := Kr.fits_any n0 n1 n2 n3 n4 n5 n6 g1 (.slice A1 f1 C1) s1.toNat R1 u (hr1.q q) (by omega) ((Dm.okB_iff R1).1 hmb1.1.1) (by omega)
    rw [show ((s1.toNat : Nat) : Int) = s1 by omega, ← hfr] at k
    exact k)
  have HMR := Lib.hid (fun u (q : Q w u) => Er.may_any g1 (.slice A1 f1 C1) s1 R1 u (hr1.q q) (by omega) ws1)
  rw [hmb1] at HMR
  have HF1 := Lib.hid (fun u (v1 v2 v3 : Value) sg a c (hv : Lst u (.slice a (Dm.dg lo.m).length c) (Dm.dg lo.m)) => Kl.fits_all lo.g hi.g st.g sg lo.g v1 v2 v3 a (Dm.dg lo.m).length c lo.s hi.s st.s n0 n1 n2 n3 n4 n5 n6 lo.s (Dm.dg lo.m) u hv (by omega) (by omega) true (by rw [(Dm.okB_iff _).2 (Dm.okD_dg _), decide_eq_true (by omega), decide_eq_true (by omega)]; rfl) true (by rw [Dm.num_dg]; exact (Km.fit_z lo n2 n0 q1 z1).symm))
  have HF2 := Lib.hid (fun u (v1 v2 v3 : Value) sg a c (hv : Lst u (.slice a (Dm.dg hi.m).length c) (Dm.dg hi.m)) => Kl.fits_all lo.g hi.g st.g sg hi.g v1 v2 v3 a (Dm.dg hi.m).length c lo.s hi.s st.s n0 n1 n2 n3 n4 n5 n6 hi.s (Dm.dg hi.m) u hv (by omega) (by omega) true (by rw [(Dm.okB_iff _).2 (Dm.okD_dg _), decide_eq_true (by omega), decide_eq_true (by omega)]; rfl) true (by rw [Dm.num_dg]; exact (Km.fit_z hi n2 n0 q2 z2).symm))
  have HF3 := Lib.hid (fun u (v1 v2 v3 : Value) sg a c (hv : Lst u (.slice a (Dm.dg st.m).length c) (Dm.dg st.m)) => Kl.fits_all lo.g hi.g st.g sg st.g v1 v2 v3 a (Dm.dg st.m).length c lo.s hi.s st.s n0 n1 n2 n3 n4 n5 n6 st.s (Dm.dg st.m) u hv (by omega) (by omega) true (by rw [(Dm.okB_iff _).2 (Dm.okD_dg _), decide_eq_true (by omega), decide_eq_true (by omega)]; rfl) true (by rw [Dm.num_dg]; exact (Km.fit_z st n2 n0 q3 z3).symm))
  unfold Er.dv at HMR HDO
  have HFX := Lib.hid hfx
  clear hfo hfr hfx hmb1 hr1 rn1 hf1 fb1 hx1 okx hxn1 gle gcl q1 q2 q3 tr1 tr2 z1 z2 z3 p1' p2' p3' lb m0 m5 ng2 xk1 tb1 xb1 hca1 hcb1 w1' hl1 ws1 b1
  obtain ⟨sg, hsg⟩ : ∃ x, x = lo.g := ⟨_, rfl⟩
  have HSG := Lib.hid hsg
  have hx1 : ∀ u, Calls Try.prog 8 #[.agg #[.string t0, .string t1, .string t2, .int .i64 n0, .int .i64 n1, .int .i64 n2, .int .i64 n3, .int .i64 n4, .int .i64 n5, .int .i64 n6]] u fun e w' => ∃ R, e = .returned (.tuple #[R, .nilIface]) ∧ Kr.RuV 0 w' R lo hi st sg n0 n1 n2 n3 n4 n5 n6 ∧ Q u w' := by rw [hsg]; exact HNW.out
  have hx2 : ∀ u, Q w u → Calls Try.prog 11 #[.agg #[.bool g0_0, .slice al ll cl, .int .i64 s0_2, .bool g0_3, .slice ah lh ch, .int .i64 s0_5, .slice az lz cz, .bool g0_7, .int .i64 s0_8, .int .i64 s0_9, .int .i64 s0_10, .int .i64 s0_11, .int .i64 s0_12, .int .i64 s0_13, .int .i64 s0_14]] u fun e w' => ∃ R, e = .returned R ∧ Kr.RuV u.heap.size w' R lo hi st sg n0 n1 n2 n3 n4 n5 n6 ∧ Q u w' := by rw [hsg]; exact HRU.out
  replace HNW := Lib.hid hx1
  replace HRU := Lib.hid hx2
  clear hx1 hx2 hsg
  obtain ⟨k1, hk1⟩ : ∃ x, x = (Dm.dg lo.m).length := ⟨_, rfl⟩
  obtain ⟨k2, hk2⟩ : ∃ x, x = (Dm.dg hi.m).length := ⟨_, rfl⟩
  obtain ⟨k3, hk3⟩ : ∃ x, x = (Dm.dg st.m).length := ⟨_, rfl⟩
  have HK := Lib.hid (⟨hk1.symm, hk2.symm, hk3.symm⟩ : _ ∧ _ ∧ _)
  clear hk1 hk2 hk3
  rw [HK.out.1] at HF1
  rw [HK.out.2.1] at HF2
  rw [HK.out.2.2] at HF3
  obtain ⟨y0, hy0⟩ : ∃ y, y = w.alloc (.cells #[.bool g0_0, .slice al ll cl, .int .i64 s0_2, .bool g0_3, .slice ah lh ch, .int .i64 s0_5, .slice az lz cz, .bool g0_7, .int .i64 s0_8, .int .i64 s0_9, .int .i64 s0_10, .int .i64 s0_11, .int .i64 s0_12, .int .i64 s0_13, .int .i64 s0_14] 28) := ⟨_, rfl⟩
  have hq0 : Q w y0 := by rw [hy0]; exact (Q.refl w).alloc _
  have hbg : Bk y0 w.heap.size 28 [.bool g0_0, .slice al ll cl, .int .i64 s0_2, .bool g0_3, .slice ah lh ch, .int .i64 s0_5, .slice az lz cz, .bool g0_7, .int .i64 s0_8, .int .i64 s0_9, .int .i64 s0_10, .int .i64 s0_11, .int .i64 s0_12, .int .i64 s0_13, .int .i64 s0_14] := by rw [hy0]; exact Bk.new _ _ _
  have hs0 : y0.heap.size = w.heap.size + 1 := by rw [hy0]; simp
  have HQ := Lib.hid hq0
  have HG := Lib.hid hbg
  clear hq0 hbg
  obtain ⟨y1, hy1⟩ : ∃ y, y = y0.alloc (.cells #[.bool g1, .slice A1 l1 C1, .int .i64 s1] 24) := ⟨_, rfl⟩
  have hq : Q y0 y1 := by rw [hy1]; exact (Q.refl _).alloc _
  have hb : Bk y1 (w.heap.size + 1) 24 [.bool g1, .slice A1 l1 C1, .int .i64 s1] := by rw [hy1, ← hs0]; exact Bk.new _ _ _
  have hs1 : y1.heap.size = w.heap.size + 1 + 1 := by rw [hy1]; simp; omega
  replace HQ := Lib.hid (Q.trans HQ.out hq)
  replace HG := Lib.hid (Bk.q HG.out hq)
  have HA := Lib.hid hb
  clear hq hb
  go_enter Try.func5, Try.ntmps5
  go_upto_region 1 with fail
  first | rw [← hy0, ← hy1] | (rw [hy0] at hy1; rw [← hy1])
  clear hy0 hy1 hs0 hs1
  go_wp2_with (refine wpList_load_row (by rfl) 28 _ (by rfl) (w.heap.size) (by rfl) 28 #[.bool g0_0, .slice al ll cl, .int .i64 s0_2, .bool g0_3, .slice ah lh ch, .int .i64 s0_5, .slice az lz cz, .bool g0_7, .int .i64 s0_8, .int .i64 s0_9, .int .i64 s0_10, .int .i64 s0_11, .int .i64 s0_12, .int .i64 s0_13, .int .i64 s0_14] (0, 0) _ HG.out Try.underlying28 rfl (by exact Kr.infoG) ?_)
  refine (HGD.out _ HQ.out).mono ?_
  rintro e v1 ⟨rfl, hq⟩
  replace HQ := Lib.hid (Q.trans HQ.out hq)
  replace HG := Lib.hid (Bk.q HG.out hq)
  replace HA := Lib.hid (Bk.q HA.out hq)
  clear hq
  go_wp2_with fail
  refine (HOF.out _).mono ?_
  rintro e v2 ⟨rfl, hq⟩
  replace HQ := Lib.hid (Q.trans HQ.out hq)
  replace HG := Lib.hid (Bk.q HG.out hq)
  replace HA := Lib.hid (Bk.q HA.out hq)
  clear hq
  go_wp2_with fail
  refine (HNW.out _).mono ?_
  rintro e v3 ⟨Rv, rfl, ⟨a1, c1, a2, c2, a3, c3, rfl, l1, l2, l3⟩, hq⟩
  rw [HK.out.1] at l1 ⊢
  rw [HK.out.2.1] at l2 ⊢
  rw [HK.out.2.2] at l3 ⊢
  replace HQ := Lib.hid (Q.trans HQ.out hq)
  replace HG := Lib.hid (Bk.q HG.out hq)
  replace HA := Lib.hid (Bk.q HA.out hq)
  obtain ⟨v4, hv4⟩ : ∃ y, y = v3.alloc (.cells #[.bool lo.g, .slice a1 k1 c1, .int .i64 (lo.s : Nat), .bool hi.g, .slice a2 k2 c2, .int .i64 (hi.s : Nat), .bool st.g, .slice a3 k3 c3, .int .i64 (st.s : Nat), .bool sg, .int .i64 n0, .int .i64 n1, .int .i64 n2, .int .i64 n3, .int .i64 n4, .int .i64 n5, .int .i64 n6] 32) := ⟨_, rfl⟩
  have hqb : Q v3 v4 := by rw [hv4]; exact (Q.refl _).alloc _
  have hbx : Bk v4 v3.heap.size 32 [.bool lo.g, .slice a1 k1 c1, .int .i64 (lo.s : Nat), .bool hi.g, .slice a2 k2 c2, .int .i64 (hi.s : Nat), .bool st.g, .slice a3 k3 c3, .int .i64 (st.s : Nat), .bool sg, .int .i64 n0, .int .i64 n1, .int .i64 n2, .int .i64 n3, .int .i64 n4, .int .i64 n5, .int .i64 n6] := by rw [hv4]; exact Bk.new _ _ _
  obtain ⟨bR, hbR⟩ : ∃ b, b = v3.heap.size := ⟨_, rfl⟩
  rw [← hbR] at hbx
  replace HQ := Lib.hid (Q.trans HQ.out hqb)
  replace HG := Lib.hid (Bk.q HG.out hqb)
  replace HA := Lib.hid (Bk.q HA.out hqb)
  have HR := Lib.hid hbx
  have HL1 := Lib.hid (l1.lst.q hqb)
  have HL2 := Lib.hid (l2.lst.q hqb)
  have HL3 := Lib.hid (l3.lst.q hqb)
  clear hq hqb hbx l1 l2 l3
  go_upto_region 4 with fail
  rw [← hv4, ← hbR]
  clear hv4 hbR
  go_wp2_with (refine wpList_load_row (by rfl) 28 _ (by rfl) (w.heap.size) (by rfl) 28 #[.bool g0_0, .slice al ll cl, .int .i64 s0_2, .bool g0_3, .slice ah lh ch, .int .i64 s0_5, .slice az lz cz, .bool g0_7, .int .i64 s0_8, .int .i64 s0_9, .int .i64 s0_10, .int .i64 s0_11, .int .i64 s0_12, .int .i64 s0_13, .int .i64 s0_14] (0, 0) _ HG.out Try.underlying28 rfl (by exact Kr.infoG) ?_)
  refine (HRU.out _ HQ.out).mono ?_
  rintro e v5 ⟨Rv, rfl, ⟨x1, y1, x2, y2, x3, y3, rfl, l1, l2, l3⟩, hq⟩
  rw [HK.out.1] at l1 ⊢
  rw [HK.out.2.1] at l2 ⊢
  rw [HK.out.2.2] at l3 ⊢
  replace HQ := Lib.hid (Q.trans HQ.out hq)
  replace HG := Lib.hid (Bk.q HG.out hq)
  replace HA := Lib.hid (Bk.q HA.out hq)
  replace HR := Lib.hid (Bk.q HR.out hq)
  replace HL1 := Lib.hid (Lst.q HL1.out hq)
  replace HL2 := Lib.hid (Lst.q HL2.out hq)
  replace HL3 := Lib.hid (Lst.q HL3.out hq)
  obtain ⟨v6, hv6⟩ : ∃ y, y = v5.alloc (.cells #[.bool lo.g, .slice x1 k1 y1, .int .i64 (lo.s : Nat), .bool hi.g, .slice x2 k2 y2, .int .i64 (hi.s : Nat), .bool st.g, .slice x3 k3 y3, .int .i64 (st.s : Nat), .bool sg, .int .i64 n0, .int .i64 n1, .int .i64 n2, .int .i64 n3, .int .i64 n4, .int .i64 n5, .int .i64 n6] 44) := ⟨_, rfl⟩
  have hqb : Q v5 v6 := by rw [hv6]; exact (Q.refl _).alloc _
  have hbx : Bk v6 v5.heap.size 44 [.bool lo.g, .slice x1 k1 y1, .int .i64 (lo.s : Nat), .bool hi.g, .slice x2 k2 y2, .int .i64 (hi.s : Nat), .bool st.g, .slice x3 k3 y3, .int .i64 (st.s : Nat), .bool sg, .int .i64 n0, .int .i64 n1, .int .i64 n2, .int .i64 n3, .int .i64 n4, .int .i64 n5, .int .i64 n6] := by rw [hv6]; exact Bk.new _ _ _
  obtain ⟨bW, hbW⟩ : ∃ b, b = v5.heap.size := ⟨_, rfl⟩
  rw [← hbW] at hbx
  replace HQ := Lib.hid (Q.trans HQ.out hqb)
  replace HG := Lib.hid (Bk.q HG.out hqb)
  replace HA := Lib.hid (Bk.q HA.out hqb)
  replace HR := Lib.hid (Bk.q HR.out hqb)
  replace HL1 := Lib.hid (Lst.q HL1.out hqb)
  replace HL2 := Lib.hid (Lst.q HL2.out hqb)
  replace HL3 := Lib.hid (Lst.q HL3.out hqb)
  have HW := Lib.hid hbx
  have HM1 := Lib.hid (l1.lst.q hqb)
  have HM2 := Lib.hid (l2.lst.q hqb)
  have HM3 := Lib.hid (l3.lst.q hqb)
  clear hq hqb hbx l1 l2 l3
  go_upto_region 5 with fail
  rw [← hv6, ← hbW]
  clear hv6 hbW
  clear HG
  have hdd := HA.out
  have d0 := hdd.cell 0 rfl
  have d1 := hdd.cell 1 rfl
  have d2 := hdd.cell 2 rfl
  clear hdd
  go_wp2_with fail
  refine (HX1.out _ HQ.out).mono ?_
  rintro e v7 ⟨aX, cX, rfl, hlx, hq⟩
  clear d0 d1 d2
  replace HQ := Lib.hid (Q.trans HQ.out hq)
  replace HA := Lib.hid (Bk.q HA.out hq)
  replace HR := Lib.hid (Bk.q HR.out hq)
  replace HL1 := Lib.hid (Lst.q HL1.out hq)
  replace HL2 := Lib.hid (Lst.q HL2.out hq)
  replace HL3 := Lib.hid (Lst.q HL3.out hq)
  replace HW := Lib.hid (Bk.q HW.out hq)
  replace HM1 := Lib.hid (Lst.q HM1.out hq)
  replace HM2 := Lib.hid (Lst.q HM2.out hq)
  replace HM3 := Lib.hid (Lst.q HM3.out hq)
  obtain ⟨v8, hv8⟩ : ∃ y, y = v7.alloc (.cells #[.bool g1, .slice aX xn1 cX, .int .i64 (tz1 : Nat)] 24) := ⟨_, rfl⟩
  have hqb : Q v7 v8 := by rw [hv8]; exact (Q.refl _).alloc _
  have hbx : Bk v8 v7.heap.size 24 [.bool g1, .slice aX xn1 cX, .int .i64 (tz1 : Nat)] := by rw [hv8]; exact Bk.new _ _ _
  obtain ⟨bX, hbX⟩ : ∃ b, b = v7.heap.size := ⟨_, rfl⟩
  rw [← hbX] at hbx
  replace HQ := Lib.hid (Q.trans HQ.out hqb)
  replace HA := Lib.hid (Bk.q HA.out hqb)
  replace HR := Lib.hid (Bk.q HR.out hqb)
  replace HL1 := Lib.hid (Lst.q HL1.out hqb)
  replace HL2 := Lib.hid (Lst.q HL2.out hqb)
  replace HL3 := Lib.hid (Lst.q HL3.out hqb)
  replace HW := Lib.hid (Bk.q HW.out hqb)
  replace HM1 := Lib.hid (Lst.q HM1.out hqb)
  replace HM2 := Lib.hid (Lst.q HM2.out hqb)
  replace HM3 := Lib.hid (Lst.q HM3.out hqb)
  have HBX := Lib.hid hbx
  have HLX := Lib.hid (hlx.q hqb)
  clear hq hqb hbx hlx
  go_upto_region 6 with fail
  rw [← hv8, ← hbX]
  clear hv8 hbX
  have hdd := HA.out
  have d0 := hdd.cell 0 rfl
  have d1 := hdd.cell 1 rfl
  have d2 := hdd.cell 2 rfl
  clear hdd
  go_wp2_with fail
  refine (HW1.out _).mono ?_
  rintro e v9 ⟨rfl, hq⟩
  clear d0 d1 d2
  replace HQ := Lib.hid (Q.trans HQ.out hq)
  replace HA := Lib.hid (Bk.q HA.out hq)
  replace HR := Lib.hid (Bk.q HR.out hq)
  replace HL1 := Lib.hid (Lst.q HL1.out hq)
  replace HL2 := Lib.hid (Lst.q HL2.out hq)
  replace HL3 := Lib.hid (Lst.q HL3.out hq)
  replace HW := Lib.hid (Bk.q HW.out hq)
  replace HM1 := Lib.hid (Lst.q HM1.out hq)
  replace HM2 := Lib.hid (Lst.q HM2.out hq)
  replace HM3 := Lib.hid (Lst.q HM3.out hq)
  replace HBX := Lib.hid (Bk.q HBX.out hq)
  replace HLX := Lib.hid (Lst.q HLX.out hq)
  obtain ⟨v10, hv10⟩ : ∃ y, y = v9.alloc (.cells #[.bool g1, .slice A1 f1 C1, .int .i64 s1] 24) := ⟨_, rfl⟩
  have hqb : Q v9 v10 := by rw [hv10]; exact (Q.refl _).alloc _
  have hbx : Bk v10 v9.heap.size 24 [.bool g1, .slice A1 f1 C1, .int .i64 s1] := by rw [hv10]; exact Bk.new _ _ _
  obtain ⟨bY, hbY⟩ : ∃ b, b = v9.heap.size := ⟨_, rfl⟩
  rw [← hbY] at hbx
  replace HQ := Lib.hid (Q.trans HQ.out hqb)
  replace HA := Lib.hid (Bk.q HA.out hqb)
  replace HR := Lib.hid (Bk.q HR.out hqb)
  replace HL1 := Lib.hid (Lst.q HL1.out hqb)
  replace HL2 := Lib.hid (Lst.q HL2.out hqb)
  replace HL3 := Lib.hid (Lst.q HL3.out hqb)
  replace HW := Lib.hid (Bk.q HW.out hqb)
  replace HM1 := Lib.hid (Lst.q HM1.out hqb)
  replace HM2 := Lib.hid (Lst.q HM2.out hqb)
  replace HM3 := Lib.hid (Lst.q HM3.out hqb)
  replace HBX := Lib.hid (Bk.q HBX.out hqb)
  replace HLX := Lib.hid (Lst.q HLX.out hqb)
  have HBY := Lib.hid hbx
  clear hq hqb hbx
  go_upto_region 7 with fail
  rw [← hv10, ← hbY]
  clear hv10 hbY
  clear HA
  have hdd := HBY.out
  have d0 := hdd.cell 0 rfl
  have d1 := hdd.cell 1 rfl
  have d2 := hdd.cell 2 rfl
  clear hdd
  go_wp2_with fail
  refine (HMR.out _ HQ.out).mono ?_
  rintro e v11 ⟨rfl, hq⟩
  clear d0 d1 d2
  replace HQ := Lib.hid (Q.trans HQ.out hq)
  replace HR := Lib.hid (Bk.q HR.out hq)
  replace HL1 := Lib.hid (Lst.q HL1.out hq)
  replace HL2 := Lib.hid (Lst.q HL2.out hq)
  replace HL3 := Lib.hid (Lst.q HL3.out hq)
  replace HW := Lib.hid (Bk.q HW.out hq)
  replace HM1 := Lib.hid (Lst.q HM1.out hq)
  replace HM2 := Lib.hid (Lst.q HM2.out hq)
  replace HM3 := Lib.hid (Lst.q HM3.out hq)
  replace HBX := Lib.hid (Bk.q HBX.out hq)
  replace HLX := Lib.hid (Lst.q HLX.out hq)
  replace HBY := Lib.hid (Bk.q HBY.out hq)
  clear hq
  go_upto_region 8 with fail
  rcases hmbt : mb1 with _ | _
  · subst hmbt
    have hfx := HFX.out
    simp only [Bool.false_and, Bool.true_and] at hfx
    subst hfx
    clear HFX
    refine wp_region_held_drew (S := fun u => Q v11 u) (by kernel_rfl) (by exact (Q.refl v11).drew) (fun hHeld => ?_)
    have hS : Q v11 v11.drew := hHeld
    clear hHeld
    have hq : Q v11 v11.drew := (Q.refl _).drew
    clear hq
    generalize v11.drew = yR1x0 at *
    change wpAnyH _ _ _ _ _ _ #[ff,ff,ff,ff,ff,ff,ff,ff,ff,ff,ff,ff,ff,ff,ff,ff,ff,ff,ff,ff,ff,ff,ff,ff,ff,ff,ff,ff,ff,ff,ff,ff,ff,ff,ff,ff,ff,ff,ff,ff,ff,ff,ff,ff,ff] _ _
    refine wpAnyH_take (i := 0) (v := ?vR1x1) (by (try simp only [gA, gB, gC]); rfl) (by kernel_rfl) (by kernel_rfl) (by kernel_rfl) (by exact fun _ _ _ h => h) (Or.inl ⟨by first | kernel_rfl | rfl, ?hyR1x1⟩) (by exact hS) ?rsR1x1
    case hyR1x1 => (intro uz hSw; (try dsimp only at hSw); refine ld_row (x := .tmp 5) ?_ ?_ (Bk.q HR.out hSw) Try.underlying32 (by exact Kp.infoRp) <;> rfl)
    try simp only [Act.put, sA, sB, sC]
    change wpAnyH _ _ _ _ _ _ #[tt,ff,ff,ff,ff,ff,ff,ff,ff,ff,ff,ff,ff,ff,ff,ff,ff,ff,ff,ff,ff,ff,ff,ff,ff,ff,ff,ff,ff,ff,ff,ff,ff,ff,ff,ff,ff,ff,ff,ff,ff,ff,ff,ff,ff] _ _
    refine wpAnyH_take (i := 1) (v := ?vR1x2) (by (try simp only [gA, gB, gC]); rfl) (by kernel_rfl) (by kernel_rfl) (by kernel_rfl) (by exact fun _ _ _ h => h) (Or.inl ⟨by first | kernel_rfl | rfl, ?hyR1x2⟩) (by exact hS) ?rsR1x2
    case hyR1x2 => (intro uz hSw; (try dsimp only at hSw); have hxx := HBX.out.q hSw; have d0 := hxx.cell 0 rfl; have d1 := hxx.cell 1 rfl; have d2 := hxx.cell 2 rfl; clear hxx; go_simp; try with_reducible rfl)
    try simp only [Act.put, sA, sB, sC]
    change wpAnyH _ _ _ _ _ _ #[tt,tt,ff,ff,ff,ff,ff,ff,ff,ff,ff,ff,ff,ff,ff,ff,ff,ff,ff,ff,ff,ff,ff,ff,ff,ff,ff,ff,ff,ff,ff,ff,ff,ff,ff,ff,ff,ff,ff,ff,ff,ff,ff,ff,ff] _ _
    refine wpAnyH_take (i := 4) (v := ?vR1x3) (by (try simp only [gA, gB, gC]); rfl) (by kernel_rfl) (by kernel_rfl) (by kernel_rfl) (by exact fun _ _ _ h => h) (Or.inl ⟨by first | kernel_rfl | rfl, ?hyR1x3⟩) (by exact hS) ?rsR1x3
    case hyR1x3 => (intro uz hSw; (try dsimp only at hSw); go_simp; try with_reducible rfl)
    try simp only [Act.put, sA, sB, sC]
    change wpAnyH _ _ _ _ _ _ #[tt,tt,ff,ff,tt,ff,ff,ff,ff,ff,ff,ff,ff,ff,ff,ff,ff,ff,ff,ff,ff,ff,ff,ff,ff,ff,ff,ff,ff,ff,ff,ff,ff,ff,ff,ff,ff,ff,ff,ff,ff,ff,ff,ff,ff] _ _
    refine wpAnyH_take (i := 5) (v := ?vR1x4) (by (try simp only [gA, gB, gC]); rfl) (by kernel_rfl) (by kernel_rfl) (by kernel_rfl) (by exact fun _ _ _ h => h) (Or.inl ⟨by first | kernel_rfl | rfl, ?hyR1x4⟩) (by exact hS) ?rsR1x4
    case hyR1x4 => (intro uz hSw; (try dsimp only at hSw); have hxx := HW.out.q hSw; have d0 := hxx.cell 10 rfl; have d1 := hxx.cell 11 rfl; have d2 := hxx.cell 12 rfl; have d3 := hxx.cell 13 rfl; have d4 := hxx.cell 14 rfl; have d5 := hxx.cell 15 rfl; have d6 := hxx.cell 16 rfl; clear hxx; go_simp; try with_reducible rfl)
    try simp only [Act.put, sA, sB, sC]
    change wpAnyH _ _ _ _ _ _ #[tt,tt,ff,ff,tt,tt,ff,ff,ff,ff,ff,ff,ff,ff,ff,ff,ff,ff,ff,ff,ff,ff,ff,ff,ff,ff,ff,ff,ff,ff,ff,ff,ff,ff,ff,ff,ff,ff,ff,ff,ff,ff,ff,ff,ff] _ _
    refine wpAnyH_take (i := 6) (v := ?vR1x5) (by (try simp only [gA, gB, gC]); rfl) (by kernel_rfl) (by kernel_rfl) (by kernel_rfl) (by exact fun _ _ _ h => h) (Or.inl ⟨by first | kernel_rfl | rfl, ?hyR1x5⟩) (by exact hS) ?rsR1x5
    case hyR1x5 => (intro uz hSw; (try dsimp only at hSw); have hxx := HBX.out.q hSw; have d0 := hxx.cell 0 rfl; have d1 := hxx.cell 1 rfl; have d2 := hxx.cell 2 rfl; clear hxx; go_simp; try with_reducible rfl)
    try simp only [Act.put, sA, sB, sC]
    change wpAnyH _ _ _ _ _ _ #[tt,tt,ff,ff,tt,tt,tt,ff,ff,ff,ff,ff,ff,ff,ff,ff,ff,ff,ff,ff,ff,ff,ff,ff,ff,ff,ff,ff,ff,ff,ff,ff,ff,ff,ff,ff,ff,ff,ff,ff,ff,ff,ff,ff,ff] _ _
    refine wpAnyH_ready (rs := [2]) (by kernel_rfl) (by simp) ?_
    refine (AllReadyH.cons (by (try simp only [gA, gB, gC]); rfl) (fun K hK => ?_) AllReadyH.nil)
    go_simp
    refine (Kl.dec_q _ _ _ _ _ _).mono ?_
    rintro e yR1x6 ⟨rfl, hq⟩
    try (go_wp2_with fail)
    have hS2 := Q.trans hS hq
    refine hK.out _ _ (by exact hS2) (fun hHeld => ?_)
    clear hK K hHeld hS hq
    have hS := hS2
    clear hS2
    try simp only [Act.put, sA, sB, sC]
    change wpAnyH _ _ _ _ _ _ #[tt,tt,tt,ff,tt,tt,tt,ff,ff,ff,ff,ff,ff,ff,ff,ff,ff,ff,ff,ff,ff,ff,ff,ff,ff,ff,ff,ff,ff,ff,ff,ff,ff,ff,ff,ff,ff,ff,ff,ff,ff,ff,ff,ff,ff] _ _
    refine wpAnyH_ready (rs := [3]) (by kernel_rfl) (by simp) ?_
    refine (AllReadyH.cons (by (try simp only [gA, gB, gC]); rfl) (fun K hK => ?_) AllReadyH.nil)
    go_simp
    refine (HPO.out _ _ _ _ _ _ _ (HLX.out.q hS)).mono ?_
    rintro e yR1x7 ⟨rfl, hq⟩
    try (go_wp2_with fail)
    have hS2 := Q.trans hS hq
    refine hK.out _ _ (by exact hS2) (fun hHeld => ?_)
    clear hK K hHeld hS hq
    have hS := hS2
    clear hS2
    try simp only [Act.put, sA, sB, sC]
    change wpAnyH _ _ _ _ _ _ #[tt,tt,tt,tt,tt,tt,tt,ff,ff,ff,ff,ff,ff,ff,ff,ff,ff,ff,ff,ff,ff,ff,ff,ff,ff,ff,ff,ff,ff,ff,ff,ff,ff,ff,ff,ff,ff,ff,ff,ff,ff,ff,ff,ff,ff] _ _
    refine wpAnyH_ready (rs := [7]) (by kernel_rfl) (by simp) ?_
    refine (AllReadyH.cons (by (try simp only [gA, gB, gC]); rfl) (fun K hK => ?_) AllReadyH.nil)
    go_simp
    refine (HDO.out _ _ _ (HLX.out.q hS)).mono ?_
    rintro e yR1x8 ⟨rfl, hq⟩
    try (go_wp2_with fail)
    have hS2 := Q.trans hS hq
    refine hK.out _ _ (by exact hS2) (fun hHeld => ?_)
    clear hK K hHeld hS hq
    have hS := hS2
    clear hS2
    try simp only [Act.put, sA, sB, sC]
    change wpAnyH _ _ _ _ _ _ #[tt,tt,tt,tt,tt,tt,tt,tt,ff,ff,ff,ff,ff,ff,ff,ff,ff,ff,ff,ff,ff,ff,ff,ff,ff,ff,ff,ff,ff,ff,ff,ff,ff,ff,ff,ff,ff,ff,ff,ff,ff,ff,ff,ff,ff] _ _
    refine wpAnyH_take (i := 8) (v := ?vR1x9) (by (try simp only [gA, gB, gC]); rfl) (by kernel_rfl) (by kernel_rfl) (by kernel_rfl) (by exact fun _ _ _ h => h) (Or.inl ⟨by first | kernel_rfl | rfl, ?hyR1x9⟩) (by exact hS) ?rsR1x9
    case hyR1x9 => (intro uz hSw; (try dsimp only at hSw); go_simp; try with_reducible rfl)
    try simp only [Act.put, sA, sB, sC]
    change wpAnyH _ _ _ _ _ _ #[tt,tt,tt,tt,tt,tt,tt,tt,tt,ff,ff,ff,ff,ff,ff,ff,ff,ff,ff,ff,ff,ff,ff,ff,ff,ff,ff,ff,ff,ff,ff,ff,ff,ff,ff,ff,ff,ff,ff,ff,ff,ff,ff,ff,ff] _ _
    refine wpAnyH_take (i := 9) (v := ?vR1x10) (by (try simp only [gA, gB, gC]); rfl) (by kernel_rfl) (by kernel_rfl) (by kernel_rfl) (by exact fun _ _ _ h => h) (Or.inl ⟨by first | kernel_rfl | rfl, ?hyR1x10⟩) (by exact hS) ?rsR1x10
    case hyR1x10 => (intro uz hSw; (try dsimp only at hSw); go_simp; try with_reducible rfl)
    try simp only [Act.put, sA, sB, sC]
    change wpAnyH _ _ _ _ _ _ #[tt,tt,tt,tt,tt,tt,tt,tt,tt,tt,ff,ff,ff,ff,ff,ff,ff,ff,ff,ff,ff,ff,ff,ff,ff,ff,ff,ff,ff,ff,ff,ff,ff,ff,ff,ff,ff,ff,ff,ff,ff,ff,ff,ff,ff] _ _
    refine wpAnyH_take (i := 10) (v := ?vR1x11) (by (try simp only [gA, gB, gC]); rfl) (by kernel_rfl) (by kernel_rfl) (by kernel_rfl) (by exact fun _ _ _ h => h) (Or.inl ⟨by first | kernel_rfl | rfl, ?hyR1x11⟩) (by exact hS) ?rsR1x11
    case hyR1x11 => (intro uz hSw; (try dsimp only at hSw); refine ld_row (x := .tmp 5) ?_ ?_ (Bk.q HR.out hSw) Try.underlying32 (by exact Kp.infoRp) <;> rfl)
    try simp only [Act.put, sA, sB, sC]
    change wpAnyH _ _ _ _ _ _ #[tt,tt,tt,tt,tt,tt,tt,tt,tt,tt,tt,ff,ff,ff,ff,ff,ff,ff,ff,ff,ff,ff,ff,ff,ff,ff,ff,ff,ff,ff,ff,ff,ff,ff,ff,ff,ff,ff,ff,ff,ff,ff,ff,ff,ff] _ _
    refine wpAnyH_take (i := 11) (v := ?vR1x12) (by (try simp only [gA, gB, gC]); rfl) (by kernel_rfl) (by kernel_rfl) (by kernel_rfl) (by exact fun _ _ _ h => h) (Or.inl ⟨by first | kernel_rfl | rfl, ?hyR1x12⟩) (by exact hS) ?rsR1x12
    case hyR1x12 => (intro uz hSw; (try dsimp only at hSw); have hxx := HBY.out.q hSw; have d0 := hxx.cell 0 rfl; have d1 := hxx.cell 1 rfl; have d2 := hxx.cell 2 rfl; clear hxx; go_simp; try with_reducible rfl)
    try simp only [Act.put, sA, sB, sC]
    change wpAnyH _ _ _ _ _ _ #[tt,tt,tt,tt,tt,tt,tt,tt,tt,tt,tt,tt,ff,ff,ff,ff,ff,ff,ff,ff,ff,ff,ff,ff,ff,ff,ff,ff,ff,ff,ff,ff,ff,ff,ff,ff,ff,ff,ff,ff,ff,ff,ff,ff,ff] _ _
    refine wpAnyH_take (i := 14) (v := ?vR1x13) (by (try simp only [gA, gB, gC]); rfl) (by kernel_rfl) (by kernel_rfl) (by kernel_rfl) (by exact fun _ _ _ h => h) (Or.inl ⟨by first | kernel_rfl | rfl, ?hyR1x13⟩) (by exact hS) ?rsR1x13
    case hyR1x13 => (intro uz hSw; (try dsimp only at hSw); go_simp; try with_reducible rfl)
    try simp only [Act.put, sA, sB, sC]
    change wpAnyH _ _ _ _ _ _ #[tt,tt,tt,tt,tt,tt,tt,tt,tt,tt,tt,tt,ff,ff,tt,ff,ff,ff,ff,ff,ff,ff,ff,ff,ff,ff,ff,ff,ff,ff,ff,ff,ff,ff,ff,ff,ff,ff,ff,ff,ff,ff,ff,ff,ff] _ _
    refine wpAnyH_ready (rs := [12]) (by kernel_rfl) (by simp) ?_
    refine (AllReadyH.cons (by (try simp only [gA, gB, gC]); rfl) (fun K hK => ?_) AllReadyH.nil)
    go_simp
    refine (Kl.dec_q _ _ _ _ _ _).mono ?_
    rintro e yR1x14 ⟨rfl, hq⟩
    try (go_wp2_with fail)
    have hS2 := Q.trans hS hq
    refine hK.out _ _ (by exact hS2) (fun hHeld => ?_)
    clear hK K hHeld hS hq
    have hS := hS2
    clear hS2
    try simp only [Act.put, sA, sB, sC]
    change wpAnyH _ _ _ _ _ _ #[tt,tt,tt,tt,tt,tt,tt,tt,tt,tt,tt,tt,tt,ff,tt,ff,ff,ff,ff,ff,ff,ff,ff,ff,ff,ff,ff,ff,ff,ff,ff,ff,ff,ff,ff,ff,ff,ff,ff,ff,ff,ff,ff,ff,ff] _ _
    refine wpAnyH_ready (rs := [13]) (by kernel_rfl) (by simp) ?_
    refine (AllReadyH.cons (by (try simp only [gA, gB, gC]); rfl) (fun K hK => ?_) AllReadyH.nil)
    go_simp
    refine (HPR.out _ (HQ.out.trans hS) _ _ _ _).mono ?_
    rintro e yR1x15 ⟨rfl, hq⟩
    try (go_wp2_with fail)
    have hS2 := Q.trans hS hq
    refine hK.out _ _ (by exact hS2) (fun hHeld => ?_)
    clear hK K hHeld hS hq
    have hS := hS2
    clear hS2
    try simp only [Act.put, sA, sB, sC]
    change wpAnyH _ _ _ _ _ _ #[tt,tt,tt,tt,tt,tt,tt,tt,tt,tt,tt,tt,tt,tt,tt,ff,ff,ff,ff,ff,ff,ff,ff,ff,ff,ff,ff,ff,ff,ff,ff,ff,ff,ff,ff,ff,ff,ff,ff,ff,ff,ff,ff,ff,ff] _ _
    refine wpAnyH_take (i := 15) (v := ?vR1x16) (by (try simp only [gA, gB, gC]); rfl) (by kernel_rfl) (by kernel_rfl) (by kernel_rfl) (by exact fun _ _ _ h => h) (Or.inl ⟨by first | kernel_rfl | rfl, ?hyR1x16⟩) (by exact hS) ?rsR1x16
    case hyR1x16 => (intro uz hSw; (try dsimp only at hSw); go_simp; try with_reducible rfl)
    try simp only [Act.put, sA, sB, sC]
    change wpAnyH _ _ _ _ _ _ #[tt,tt,tt,tt,tt,tt,tt,tt,tt,tt,tt,tt,tt,tt,tt,tt,ff,ff,ff,ff,ff,ff,ff,ff,ff,ff,ff,ff,ff,ff,ff,ff,ff,ff,ff,ff,ff,ff,ff,ff,ff,ff,ff,ff,ff] _ _
    refine wpAnyH_take (i := 16) (v := undef) (by (try simp only [gA, gB, gC]); rfl) (by kernel_rfl) (by kernel_rfl) (by kernel_rfl) (by exact fun _ _ _ h => h) (Or.inr ⟨by first | kernel_rfl | rfl, rfl⟩) (by exact hS) ?_
    try simp only [Act.put, sA, sB, sC]
    change wpAnyH _ _ _ _ _ _ #[tt,tt,tt,tt,tt,tt,tt,tt,tt,tt,tt,tt,tt,tt,tt,tt,tt,ff,ff,ff,ff,ff,ff,ff,ff,ff,ff,ff,ff,ff,ff,ff,ff,ff,ff,ff,ff,ff,ff,ff,ff,ff,ff,ff,ff] _ _
    refine wpAnyH_take (i := 17) (v := undef) (by (try simp only [gA, gB, gC]); rfl) (by kernel_rfl) (by kernel_rfl) (by kernel_rfl) (by exact fun _ _ _ h => h) (Or.inr ⟨by first | kernel_rfl | rfl, rfl⟩) (by exact hS) ?_
    try simp only [Act.put, sA, sB, sC]
    change wpAnyH _ _ _ _ _ _ #[tt,tt,tt,tt,tt,tt,tt,tt,tt,tt,tt,tt,tt,tt,tt,tt,tt,tt,ff,ff,ff,ff,ff,ff,ff,ff,ff,ff,ff,ff,ff,ff,ff,ff,ff,ff,ff,ff,ff,ff,ff,ff,ff,ff,ff] _ _
    refine wpAnyH_take (i := 18) (v := undef) (by (try simp only [gA, gB, gC]); rfl) (by kernel_rfl) (by kernel_rfl) (by kernel_rfl) (by exact fun _ _ _ h => h) (Or.inr ⟨by first | kernel_rfl | rfl, rfl⟩) (by exact hS) ?_
    try simp only [Act.put, sA, sB, sC]
    change wpAnyH _ _ _ _ _ _ #[tt,tt,tt,tt,tt,tt,tt,tt,tt,tt,tt,tt,tt,tt,tt,tt,tt,tt,tt,ff,ff,ff,ff,ff,ff,ff,ff,ff,ff,ff,ff,ff,ff,ff,ff,ff,ff,ff,ff,ff,ff,ff,ff,ff,ff] _ _
    refine wpAnyH_ready (rs := [19]) (by kernel_rfl) (by simp) ?_
    refine (AllReadyH.cons (by (try simp only [gA, gB, gC]); rfl) (fun K hK => ?_) AllReadyH.nil)
    go_simp
    refine hK.out _ _ (by exact hS) (fun hHeld => ?_)
    clear hK K hHeld
    try simp only [Act.put, sA, sB, sC]
    change wpAnyH _ _ _ _ _ _ #[tt,tt,tt,tt,tt,tt,tt,tt,tt,tt,tt,tt,tt,tt,tt,tt,tt,tt,tt,tt,ff,ff,ff,ff,ff,ff,ff,ff,ff,ff,ff,ff,ff,ff,ff,ff,ff,ff,ff,ff,ff,ff,ff,ff,ff] _ _
    refine wpAnyH_take (i := 20) (v := ?vR1x21) (by (try simp only [gA, gB, gC]); rfl) (by kernel_rfl) (by kernel_rfl) (by kernel_rfl) (by exact fun _ _ _ h => h) (Or.inl ⟨by first | kernel_rfl | rfl, ?hyR1x21⟩) (by exact hS) ?rsR1x21
    case hyR1x21 => (intro uz hSw; (try dsimp only at hSw); go_simp; try with_reducible rfl)
    try simp only [Act.put, sA, sB, sC]
    change wpAnyH _ _ _ _ _ _ #[tt,tt,tt,tt,tt,tt,tt,tt,tt,tt,tt,tt,tt,tt,tt,tt,tt,tt,tt,tt,tt,ff,ff,ff,ff,ff,ff,ff,ff,ff,ff,ff,ff,ff,ff,ff,ff,ff,ff,ff,ff,ff,ff,ff,ff] _ _
    refine wpAnyH_take (i := 21) (v := ?vR1x22) (by (try simp only [gA, gB, gC]); rfl) (by kernel_rfl) (by kernel_rfl) (by kernel_rfl) (by exact fun _ _ _ h => h) (Or.inl ⟨by first | kernel_rfl | rfl, ?hyR1x22⟩) (by exact hS) ?rsR1x22
    case hyR1x22 => (intro uz hSw; (try dsimp only at hSw); go_simp; try with_reducible rfl)
    try simp only [Act.put, sA, sB, sC]
    change wpAnyH _ _ _ _ _ _ #[tt,tt,tt,tt,tt,tt,tt,tt,tt,tt,tt,tt,tt,tt,tt,tt,tt,tt,tt,tt,tt,tt,ff,ff,ff,ff,ff,ff,ff,ff,ff,ff,ff,ff,ff,ff,ff,ff,ff,ff,ff,ff,ff,ff,ff] _ _
    refine wpAnyH_take (i := 22) (v := ?vR1x23) (by (try simp only [gA, gB, gC]); rfl) (by kernel_rfl) (by kernel_rfl) (by kernel_rfl) (by exact fun _ _ _ h => h) (Or.inl ⟨by first | kernel_rfl | rfl, ?hyR1x23⟩) (by exact hS) ?rsR1x23
    case hyR1x23 => (intro uz hSw; (try dsimp only at hSw); go_simp; try with_reducible rfl)
    try simp only [Act.put, sA, sB, sC]
    change wpAnyH _ _ _ _ _ _ #[tt,tt,tt,tt,tt,tt,tt,tt,tt,tt,tt,tt,tt,tt,tt,tt,tt,tt,tt,tt,tt,tt,tt,ff,ff,ff,ff,ff,ff,ff,ff,ff,ff,ff,ff,ff,ff,ff,ff,ff,ff,ff,ff,ff,ff] _ _
    refine wpAnyH_take (i := 23) (v := ?vR1x24) (by (try simp only [gA, gB, gC]); rfl) (by kernel_rfl) (by kernel_rfl) (by kernel_rfl) (by exact fun _ _ _ h => h) (Or.inl ⟨by first | kernel_rfl | rfl, ?hyR1x24⟩) (by exact hS) ?rsR1x24
    case hyR1x24 => (intro uz hSw; (try dsimp only at hSw); go_simp; try with_reducible rfl)
    try simp only [Act.put, sA, sB, sC]
    change wpAnyH _ _ _ _ _ _ #[tt,tt,tt,tt,tt,tt,tt,tt,tt,tt,tt,tt,tt,tt,tt,tt,tt,tt,tt,tt,tt,tt,tt,tt,ff,ff,ff,ff,ff,ff,ff,ff,ff,ff,ff,ff,ff,ff,ff,ff,ff,ff,ff,ff,ff] _ _
    refine wpAnyH_take (i := 24) (v := ?vR1x25) (by (try simp only [gA, gB, gC]); rfl) (by kernel_rfl) (by kernel_rfl) (by kernel_rfl) (by exact fun _ _ _ h => h) (Or.inl ⟨by first | kernel_rfl | rfl, ?hyR1x25⟩) (by exact hS) ?rsR1x25
    case hyR1x25 => (intro uz hSw; (try dsimp only at hSw); refine ld_row (x := .tmp 5) ?_ ?_ (Bk.q HR.out hSw) Try.underlying32 (by exact Kp.infoRp) <;> rfl)
    try simp only [Act.put, sA, sB, sC]
    change wpAnyH _ _ _ _ _ _ #[tt,tt,tt,tt,tt,tt,tt,tt,tt,tt,tt,tt,tt,tt,tt,tt,tt,tt,tt,tt,tt,tt,tt,tt,tt,ff,ff,ff,ff,ff,ff,ff,ff,ff,ff,ff,ff,ff,ff,ff,ff,ff,ff,ff,ff] _ _
    refine wpAnyH_take (i := 25) (v := ?vR1x26) (by (try simp only [gA, gB, gC]); rfl) (by kernel_rfl) (by kernel_rfl) (by kernel_rfl) (by exact fun _ _ _ h => h) (Or.inl ⟨by first | kernel_rfl | rfl, ?hyR1x26⟩) (by exact hS) ?rsR1x26
    case hyR1x26 => (intro uz hSw; (try dsimp only at hSw); go_simp; try with_reducible rfl)
    try simp only [Act.put, sA, sB, sC]
    change wpAnyH _ _ _ _ _ _ #[tt,tt,tt,tt,tt,tt,tt,tt,tt,tt,tt,tt,tt,tt,tt,tt,tt,tt,tt,tt,tt,tt,tt,tt,tt,tt,ff,ff,ff,ff,ff,ff,ff,ff,ff,ff,ff,ff,ff,ff,ff,ff,ff,ff,ff] _ _
    refine wpAnyH_take (i := 26) (v := ?vR1x27) (by (try simp only [gA, gB, gC]); rfl) (by kernel_rfl) (by kernel_rfl) (by kernel_rfl) (by exact fun _ _ _ h => h) (Or.inl ⟨by first | kernel_rfl | rfl, ?hyR1x27⟩) (by exact hS) ?rsR1x27
    case hyR1x27 => (intro uz hSw; (try dsimp only at hSw); have hxx := HR.out.q hSw; have d0 := hxx.cell 0 rfl; have d1 := hxx.cell 1 rfl; have d2 := hxx.cell 2 rfl; clear hxx; go_simp; try with_reducible rfl)
    try simp only [Act.put, sA, sB, sC]
    change wpAnyH _ _ _ _ _ _ #[tt,tt,tt,tt,tt,tt,tt,tt,tt,tt,tt,tt,tt,tt,tt,tt,tt,tt,tt,tt,tt,tt,tt,tt,tt,tt,tt,ff,ff,ff,ff,ff,ff,ff,ff,ff,ff,ff,ff,ff,ff,ff,ff,ff,ff] _ _
    refine wpAnyH_ready (rs := [27]) (by kernel_rfl) (by simp) ?_
    refine (AllReadyH.cons (by (try simp only [gA, gB, gC]); rfl) (fun K hK => ?_) AllReadyH.nil)
    go_simp
    refine (HF1.out _ _ _ _ _ _ _ (HL1.out.q hS)).mono ?_
    rintro e yR1x28 ⟨rfl, hq⟩
    try (go_wp2_with fail)
    have hS2 := Q.trans hS hq
    refine hK.out _ _ (by exact hS2) (fun hHeld => ?_)
    clear hK K hHeld hS hq
    have hS := hS2
    clear hS2
    try simp only [Act.put, sA, sB, sC]
    change wpAnyH _ _ _ _ _ _ #[tt,tt,tt,tt,tt,tt,tt,tt,tt,tt,tt,tt,tt,tt,tt,tt,tt,tt,tt,tt,tt,tt,tt,tt,tt,tt,tt,tt,ff,ff,ff,ff,ff,ff,ff,ff,ff,ff,ff,ff,ff,ff,ff,ff,ff] _ _
    refine wpAnyH_take (i := 28) (v := ?vR1x29) (by (try simp only [gA, gB, gC]); rfl) (by kernel_rfl) (by kernel_rfl) (by kernel_rfl) (by exact fun _ _ _ h => h) (Or.inl ⟨by first | kernel_rfl | rfl, ?hyR1x29⟩) (by exact hS) ?rsR1x29
    case hyR1x29 => (intro uz hSw; (try dsimp only at hSw); go_simp; try with_reducible rfl)
    try simp only [Act.put, sA, sB, sC]
    change wpAnyH _ _ _ _ _ _ #[tt,tt,tt,tt,tt,tt,tt,tt,tt,tt,tt,tt,tt,tt,tt,tt,tt,tt,tt,tt,tt,tt,tt,tt,tt,tt,tt,tt,tt,ff,ff,ff,ff,ff,ff,ff,ff,ff,ff,ff,ff,ff,ff,ff,ff] _ _
    refine wpAnyH_take (i := 29) (v := ?vR1x30) (by (try simp only [gA, gB, gC]); rfl) (by kernel_rfl) (by kernel_rfl) (by kernel_rfl) (by exact fun _ _ _ h => h) (Or.inl ⟨by first | kernel_rfl | rfl, ?hyR1x30⟩) (by exact hS) ?rsR1x30
    case hyR1x30 => (intro uz hSw; (try dsimp only at hSw); go_simp; try with_reducible rfl)
    try simp only [Act.put, sA, sB, sC]
    change wpAnyH _ _ _ _ _ _ #[tt,tt,tt,tt,tt,tt,tt,tt,tt,tt,tt,tt,tt,tt,tt,tt,tt,tt,tt,tt,tt,tt,tt,tt,tt,tt,tt,tt,tt,tt,ff,ff,ff,ff,ff,ff,ff,ff,ff,ff,ff,ff,ff,ff,ff] _ _
    refine wpAnyH_take (i := 30) (v := ?vR1x31) (by (try simp only [gA, gB, gC]); rfl) (by kernel_rfl) (by kernel_rfl) (by kernel_rfl) (by exact fun _ _ _ h => h) (Or.inl ⟨by first | kernel_rfl | rfl, ?hyR1x31⟩) (by exact hS) ?rsR1x31
    case hyR1x31 => (intro uz hSw; (try dsimp only at hSw); refine ld_row (x := .tmp 5) ?_ ?_ (Bk.q HR.out hSw) Try.underlying32 (by exact Kp.infoRp) <;> rfl)
    try simp only [Act.put, sA, sB, sC]
    change wpAnyH _ _ _ _ _ _ #[tt,tt,tt,tt,tt,tt,tt,tt,tt,tt,tt,tt,tt,tt,tt,tt,tt,tt,tt,tt,tt,tt,tt,tt,tt,tt,tt,tt,tt,tt,tt,ff,ff,ff,ff,ff,ff,ff,ff,ff,ff,ff,ff,ff,ff] _ _
    refine wpAnyH_take (i := 31) (v := ?vR1x32) (by (try simp only [gA, gB, gC]); rfl) (by kernel_rfl) (by kernel_rfl) (by kernel_rfl) (by exact fun _ _ _ h => h) (Or.inl ⟨by first | kernel_rfl | rfl, ?hyR1x32⟩) (by exact hS) ?rsR1x32
    case hyR1x32 => (intro uz hSw; (try dsimp only at hSw); go_simp; try with_reducible rfl)
    try simp only [Act.put, sA, sB, sC]
    change wpAnyH _ _ _ _ _ _ #[tt,tt,tt,tt,tt,tt,tt,tt,tt,tt,tt,tt,tt,tt,tt,tt,tt,tt,tt,tt,tt,tt,tt,tt,tt,tt,tt,tt,tt,tt,tt,tt,ff,ff,ff,ff,ff,ff,ff,ff,ff,ff,ff,ff,ff] _ _
    refine wpAnyH_take (i := 32) (v := ?vR1x33) (by (try simp only [gA, gB, gC]); rfl) (by kernel_rfl) (by kernel_rfl) (by kernel_rfl) (by exact fun _ _ _ h => h) (Or.inl ⟨by first | kernel_rfl | rfl, ?hyR1x33⟩) (by exact hS) ?rsR1x33
    case hyR1x33 => (intro uz hSw; (try dsimp only at hSw); have hxx := HR.out.q hSw; have d0 := hxx.cell 3 rfl; have d1 := hxx.cell 4 rfl; have d2 := hxx.cell 5 rfl; clear hxx; go_simp; try with_reducible rfl)
    try simp only [Act.put, sA, sB, sC]
    change wpAnyH _ _ _ _ _ _ #[tt,tt,tt,tt,tt,tt,tt,tt,tt,tt,tt,tt,tt,tt,tt,tt,tt,tt,tt,tt,tt,tt,tt,tt,tt,tt,tt,tt,tt,tt,tt,tt,tt,ff,ff,ff,ff,ff,ff,ff,ff,ff,ff,ff,ff] _ _
    refine wpAnyH_ready (rs := [33]) (by kernel_rfl) (by simp) ?_
    refine (AllReadyH.cons (by (try simp only [gA, gB, gC]); rfl) (fun K hK => ?_) AllReadyH.nil)
    go_simp
    refine (HF2.out _ _ _ _ _ _ _ (HL2.out.q hS)).mono ?_
    rintro e yR1x34 ⟨rfl, hq⟩
    try (go_wp2_with fail)
    have hS2 := Q.trans hS hq
    refine hK.out _ _ (by exact hS2) (fun hHeld => ?_)
    clear hK K hHeld hS hq
    have hS := hS2
    clear hS2
    try simp only [Act.put, sA, sB, sC]
    change wpAnyH _ _ _ _ _ _ #[tt,tt,tt,tt,tt,tt,tt,tt,tt,tt,tt,tt,tt,tt,tt,tt,tt,tt,tt,tt,tt,tt,tt,tt,tt,tt,tt,tt,tt,tt,tt,tt,tt,tt,ff,ff,ff,ff,ff,ff,ff,ff,ff,ff,ff] _ _
    refine wpAnyH_take (i := 34) (v := ?vR1x35) (by (try simp only [gA, gB, gC]); rfl) (by kernel_rfl) (by kernel_rfl) (by kernel_rfl) (by exact fun _ _ _ h => h) (Or.inl ⟨by first | kernel_rfl | rfl, ?hyR1x35⟩) (by exact hS) ?rsR1x35
    case hyR1x35 => (intro uz hSw; (try dsimp only at hSw); go_simp; try with_reducible rfl)
    try simp only [Act.put, sA, sB, sC]
    change wpAnyH _ _ _ _ _ _ #[tt,tt,tt,tt,tt,tt,tt,tt,tt,tt,tt,tt,tt,tt,tt,tt,tt,tt,tt,tt,tt,tt,tt,tt,tt,tt,tt,tt,tt,tt,tt,tt,tt,tt,tt,ff,ff,ff,ff,ff,ff,ff,ff,ff,ff] _ _
    refine wpAnyH_take (i := 35) (v := ?vR1x36) (by (try simp only [gA, gB, gC]); rfl) (by kernel_rfl) (by kernel_rfl) (by kernel_rfl) (by exact fun _ _ _ h => h) (Or.inl ⟨by first | kernel_rfl | rfl, ?hyR1x36⟩) (by exact hS) ?rsR1x36
    case hyR1x36 => (intro uz hSw; (try dsimp only at hSw); go_simp; try with_reducible rfl)
    try simp only [Act.put, sA, sB, sC]
    change wpAnyH _ _ _ _ _ _ #[tt,tt,tt,tt,tt,tt,tt,tt,tt,tt,tt,tt,tt,tt,tt,tt,tt,tt,tt,tt,tt,tt,tt,tt,tt,tt,tt,tt,tt,tt,tt,tt,tt,tt,tt,tt,ff,ff,ff,ff,ff,ff,ff,ff,ff] _ _
    refine wpAnyH_take (i := 36) (v := ?vR1x37) (by (try simp only [gA, gB, gC]); rfl) (by kernel_rfl) (by kernel_rfl) (by kernel_rfl) (by exact fun _ _ _ h => h) (Or.inl ⟨by first | kernel_rfl | rfl, ?hyR1x37⟩) (by exact hS) ?rsR1x37
    case hyR1x37 => (intro uz hSw; (try dsimp only at hSw); refine ld_row (x := .tmp 5) ?_ ?_ (Bk.q HR.out hSw) Try.underlying32 (by exact Kp.infoRp) <;> rfl)
    try simp only [Act.put, sA, sB, sC]
    change wpAnyH _ _ _ _ _ _ #[tt,tt,tt,tt,tt,tt,tt,tt,tt,tt,tt,tt,tt,tt,tt,tt,tt,tt,tt,tt,tt,tt,tt,tt,tt,tt,tt,tt,tt,tt,tt,tt,tt,tt,tt,tt,tt,ff,ff,ff,ff,ff,ff,ff,ff] _ _
    refine wpAnyH_take (i := 37) (v := ?vR1x38) (by (try simp only [gA, gB, gC]); rfl) (by kernel_rfl) (by kernel_rfl) (by kernel_rfl) (by exact fun _ _ _ h => h) (Or.inl ⟨by first | kernel_rfl | rfl, ?hyR1x38⟩) (by exact hS) ?rsR1x38
    case hyR1x38 => (intro uz hSw; (try dsimp only at hSw); go_simp; try with_reducible rfl)
    try simp only [Act.put, sA, sB, sC]
    change wpAnyH _ _ _ _ _ _ #[tt,tt,tt,tt,tt,tt,tt,tt,tt,tt,tt,tt,tt,tt,tt,tt,tt,tt,tt,tt,tt,tt,tt,tt,tt,tt,tt,tt,tt,tt,tt,tt,tt,tt,tt,tt,tt,tt,ff,ff,ff,ff,ff,ff,ff] _ _
    refine wpAnyH_take (i := 38) (v := ?vR1x39) (by (try simp only [gA, gB, gC]); rfl) (by kernel_rfl) (by kernel_rfl) (by kernel_rfl) (by exact fun _ _ _ h => h) (Or.inl ⟨by first | kernel_rfl | rfl, ?hyR1x39⟩) (by exact hS) ?rsR1x39
    case hyR1x39 => (intro uz hSw; (try dsimp only at hSw); have hxx := HR.out.q hSw; have d0 := hxx.cell 6 rfl; have d1 := hxx.cell 7 rfl; have d2 := hxx.cell 8 rfl; clear hxx; go_simp; try with_reducible rfl)
    try simp only [Act.put, sA, sB, sC]
    change wpAnyH _ _ _ _ _ _ #[tt,tt,tt,tt,tt,tt,tt,tt,tt,tt,tt,tt,tt,tt,tt,tt,tt,tt,tt,tt,tt,tt,tt,tt,tt,tt,tt,tt,tt,tt,tt,tt,tt,tt,tt,tt,tt,tt,tt,ff,ff,ff,ff,ff,ff] _ _
    refine wpAnyH_ready (rs := [39]) (by kernel_rfl) (by simp) ?_
    refine (AllReadyH.cons (by (try simp only [gA, gB, gC]); rfl) (fun K hK => ?_) AllReadyH.nil)
    go_simp
    refine (HF3.out _ _ _ _ _ _ _ (HL3.out.q hS)).mono ?_
    rintro e yR1x40 ⟨rfl, hq⟩
    try (go_wp2_with fail)
    have hS2 := Q.trans hS hq
    refine hK.out _ _ (by exact hS2) (fun hHeld => ?_)
    clear hK K hHeld hS hq
    have hS := hS2
    clear hS2
    try simp only [Act.put, sA, sB, sC]
    change wpAnyH _ _ _ _ _ _ #[tt,tt,tt,tt,tt,tt,tt,tt,tt,tt,tt,tt,tt,tt,tt,tt,tt,tt,tt,tt,tt,tt,tt,tt,tt,tt,tt,tt,tt,tt,tt,tt,tt,tt,tt,tt,tt,tt,tt,tt,ff,ff,ff,ff,ff] _ _
    refine wpAnyH_take (i := 40) (v := ?vR1x41) (by (try simp only [gA, gB, gC]); rfl) (by kernel_rfl) (by kernel_rfl) (by kernel_rfl) (by exact fun _ _ _ h => h) (Or.inl ⟨by first | kernel_rfl | rfl, ?hyR1x41⟩) (by exact hS) ?rsR1x41
    case hyR1x41 => (intro uz hSw; (try dsimp only at hSw); go_simp; try with_reducible rfl)
    try simp only [Act.put, sA, sB, sC]
    change wpAnyH _ _ _ _ _ _ #[tt,tt,tt,tt,tt,tt,tt,tt,tt,tt,tt,tt,tt,tt,tt,tt,tt,tt,tt,tt,tt,tt,tt,tt,tt,tt,tt,tt,tt,tt,tt,tt,tt,tt,tt,tt,tt,tt,tt,tt,tt,ff,ff,ff,ff] _ _
    refine wpAnyH_take (i := 41) (v := ?vR1x42) (by (try simp only [gA, gB, gC]); rfl) (by kernel_rfl) (by kernel_rfl) (by kernel_rfl) (by exact fun _ _ _ h => h) (Or.inl ⟨by first | kernel_rfl | rfl, ?hyR1x42⟩) (by exact hS) ?rsR1x42
    case hyR1x42 => (intro uz hSw; (try dsimp only at hSw); go_simp; try with_reducible rfl)
    try simp only [Act.put, sA, sB, sC]
    change wpAnyH _ _ _ _ _ _ #[tt,tt,tt,tt,tt,tt,tt,tt,tt,tt,tt,tt,tt,tt,tt,tt,tt,tt,tt,tt,tt,tt,tt,tt,tt,tt,tt,tt,tt,tt,tt,tt,tt,tt,tt,tt,tt,tt,tt,tt,tt,tt,ff,ff,ff] _ _
    refine wpAnyH_ready (rs := [42]) (by kernel_rfl) (by simp) ?_
    refine (AllReadyH.cons (by (try simp only [gA, gB, gC]); rfl) (fun K hK => ?_) AllReadyH.nil)
    go_simp
    refine (HLI.out _).mono ?_
    rintro e yR1x43 ⟨rfl, hq⟩
    try (go_wp2_with fail)
    have hS2 := Q.trans hS hq
    refine hK.out _ _ (by exact hS2) (fun hHeld => ?_)
    clear hK K hHeld hS hq
    have hS := hS2
    clear hS2
    try simp only [Act.put, sA, sB, sC]
    change wpAnyH _ _ _ _ _ _ #[tt,tt,tt,tt,tt,tt,tt,tt,tt,tt,tt,tt,tt,tt,tt,tt,tt,tt,tt,tt,tt,tt,tt,tt,tt,tt,tt,tt,tt,tt,tt,tt,tt,tt,tt,tt,tt,tt,tt,tt,tt,tt,tt,ff,ff] _ _
    refine wpAnyH_take (i := 43) (v := ?vR1x44) (by (try simp only [gA, gB, gC]); rfl) (by kernel_rfl) (by kernel_rfl) (by kernel_rfl) (by exact fun _ _ _ h => h) (Or.inl ⟨by first | kernel_rfl | rfl, ?hyR1x44⟩) (by exact hS) ?rsR1x44
    case hyR1x44 => (intro uz hSw; (try dsimp only at hSw); go_simp; try with_reducible rfl)
    try simp only [Act.put, sA, sB, sC]
    change wpAnyH _ _ _ _ _ _ #[tt,tt,tt,tt,tt,tt,tt,tt,tt,tt,tt,tt,tt,tt,tt,tt,tt,tt,tt,tt,tt,tt,tt,tt,tt,tt,tt,tt,tt,tt,tt,tt,tt,tt,tt,tt,tt,tt,tt,tt,tt,tt,tt,tt,ff] _ _
    refine wpAnyH_take (i := 44) (v := ?vR1x45) (by (try simp only [gA, gB, gC]); rfl) (by kernel_rfl) (by kernel_rfl) (by kernel_rfl) (by exact fun _ _ _ h => h) (Or.inl ⟨by first | kernel_rfl | rfl, ?hyR1x45⟩) (by exact hS) ?rsR1x45
    case hyR1x45 => (intro uz hSw; (try dsimp only at hSw); go_simp; try with_reducible rfl)
    try simp only [Act.put, sA, sB, sC]
    change wpAnyH _ _ _ _ _ _ #[tt,tt,tt,tt,tt,tt,tt,tt,tt,tt,tt,tt,tt,tt,tt,tt,tt,tt,tt,tt,tt,tt,tt,tt,tt,tt,tt,tt,tt,tt,tt,tt,tt,tt,tt,tt,tt,tt,tt,tt,tt,tt,tt,tt,tt] _ _
    refine wpAnyH_done (by kernel_rfl) ?_ _
    go_wp2_with fail
    go_ret
    exact ⟨rfl, HQ.out.trans hS⟩
  · subst hmbt
    have hfx := HFX.out
    simp only [Bool.false_and, Bool.true_and] at hfx
    subst hfx
    clear HFX
    have HMT := Lib.hid (rfl : true = true)
    refine wp_region_held_drew (S := fun u => Q v11 u) (by kernel_rfl) (by exact (Q.refl v11).drew) (fun hHeld => ?_)
    have hS : Q v11 v11.drew := hHeld
    clear hHeld
    have hq : Q v11 v11.drew := (Q.refl _).drew
    clear hq
    generalize v11.drew = yR2x0 at *
    change wpAnyH _ _ _ _ _ _ #[ff,ff,ff,ff,ff,ff,ff,ff,ff,ff,ff,ff,ff,ff,ff,ff,ff,ff,ff,ff,ff,ff,ff,ff,ff,ff,ff,ff,ff,ff,ff,ff,ff,ff,ff,ff,ff,ff,ff,ff,ff,ff,ff,ff,ff] _ _
    refine wpAnyH_take (i := 0) (v := ?vR2x1) (by (try simp only [gA, gB, gC]); rfl) (by kernel_rfl) (by kernel_rfl) (by kernel_rfl) (by exact fun _ _ _ h => h) (Or.inl ⟨by first | kernel_rfl | rfl, ?hyR2x1⟩) (by exact hS) ?rsR2x1
    case hyR2x1 => (intro uz hSw; (try dsimp only at hSw); refine ld_row (x := .tmp 5) ?_ ?_ (Bk.q HR.out hSw) Try.underlying32 (by exact Kp.infoRp) <;> rfl)
    try simp only [Act.put, sA, sB, sC]
    change wpAnyH _ _ _ _ _ _ #[tt,ff,ff,ff,ff,ff,ff,ff,ff,ff,ff,ff,ff,ff,ff,ff,ff,ff,ff,ff,ff,ff,ff,ff,ff,ff,ff,ff,ff,ff,ff,ff,ff,ff,ff,ff,ff,ff,ff,ff,ff,ff,ff,ff,ff] _ _
    refine wpAnyH_take (i := 1) (v := ?vR2x2) (by (try simp only [gA, gB, gC]); rfl) (by kernel_rfl) (by kernel_rfl) (by kernel_rfl) (by exact fun _ _ _ h => h) (Or.inl ⟨by first | kernel_rfl | rfl, ?hyR2x2⟩) (by exact hS) ?rsR2x2
    case hyR2x2 => (intro uz hSw; (try dsimp only at hSw); have hxx := HBX.out.q hSw; have d0 := hxx.cell 0 rfl; have d1 := hxx.cell 1 rfl; have d2 := hxx.cell 2 rfl; clear hxx; go_simp; try with_reducible rfl)
    try simp only [Act.put, sA, sB, sC]
    change wpAnyH _ _ _ _ _ _ #[tt,tt,ff,ff,ff,ff,ff,ff,ff,ff,ff,ff,ff,ff,ff,ff,ff,ff,ff,ff,ff,ff,ff,ff,ff,ff,ff,ff,ff,ff,ff,ff,ff,ff,ff,ff,ff,ff,ff,ff,ff,ff,ff,ff,ff] _ _
    refine wpAnyH_take (i := 4) (v := ?vR2x3) (by (try simp only [gA, gB, gC]); rfl) (by kernel_rfl) (by kernel_rfl) (by kernel_rfl) (by exact fun _ _ _ h => h) (Or.inl ⟨by first | kernel_rfl | rfl, ?hyR2x3⟩) (by exact hS) ?rsR2x3
    case hyR2x3 => (intro uz hSw; (try dsimp only at hSw); go_simp; try with_reducible rfl)
    try simp only [Act.put, sA, sB, sC]
    change wpAnyH _ _ _ _ _ _ #[tt,tt,ff,ff,tt,ff,ff,ff,ff,ff,ff,ff,ff,ff,ff,ff,ff,ff,ff,ff,ff,ff,ff,ff,ff,ff,ff,ff,ff,ff,ff,ff,ff,ff,ff,ff,ff,ff,ff,ff,ff,ff,ff,ff,ff] _ _
    refine wpAnyH_take (i := 5) (v := ?vR2x4) (by (try simp only [gA, gB, gC]); rfl) (by kernel_rfl) (by kernel_rfl) (by kernel_rfl) (by exact fun _ _ _ h => h) (Or.inl ⟨by first | kernel_rfl | rfl, ?hyR2x4⟩) (by exact hS) ?rsR2x4
    case hyR2x4 => (intro uz hSw; (try dsimp only at hSw); have hxx := HW.out.q hSw; have d0 := hxx.cell 10 rfl; have d1 := hxx.cell 11 rfl; have d2 := hxx.cell 12 rfl; have d3 := hxx.cell 13 rfl; have d4 := hxx.cell 14 rfl; have d5 := hxx.cell 15 rfl; have d6 := hxx.cell 16 rfl; clear hxx; go_simp; try with_reducible rfl)
    try simp only [Act.put, sA, sB, sC]
    change wpAnyH _ _ _ _ _ _ #[tt,tt,ff,ff,tt,tt,ff,ff,ff,ff,ff,ff,ff,ff,ff,ff,ff,ff,ff,ff,ff,ff,ff,ff,ff,ff,ff,ff,ff,ff,ff,ff,ff,ff,ff,ff,ff,ff,ff,ff,ff,ff,ff,ff,ff] _ _
    refine wpAnyH_take (i := 6) (v := ?vR2x5) (by (try simp only [gA, gB, gC]); rfl) (by kernel_rfl) (by kernel_rfl) (by kernel_rfl) (by exact fun _ _ _ h => h) (Or.inl ⟨by first | kernel_rfl | rfl, ?hyR2x5⟩) (by exact hS) ?rsR2x5
    case hyR2x5 => (intro uz hSw; (try dsimp only at hSw); have hxx := HBX.out.q hSw; have d0 := hxx.cell 0 rfl; have d1 := hxx.cell 1 rfl; have d2 := hxx.cell 2 rfl; clear hxx; go_simp; try with_reducible rfl)
    try simp only [Act.put, sA, sB, sC]
    change wpAnyH _ _ _ _ _ _ #[tt,tt,ff,ff,tt,tt,tt,ff,ff,ff,ff,ff,ff,ff,ff,ff,ff,ff,ff,ff,ff,ff,ff,ff,ff,ff,ff,ff,ff,ff,ff,ff,ff,ff,ff,ff,ff,ff,ff,ff,ff,ff,ff,ff,ff] _ _
    refine wpAnyH_ready (rs := [2]) (by kernel_rfl) (by simp) ?_
    refine (AllReadyH.cons (by (try simp only [gA, gB, gC]); rfl) (fun K hK => ?_) AllReadyH.nil)
    go_simp
    refine (Kl.dec_q _ _ _ _ _ _).mono ?_
    rintro e yR2x6 ⟨rfl, hq⟩
    try (go_wp2_with fail)
    have hS2 := Q.trans hS hq
    refine hK.out _ _ (by exact hS2) (fun hHeld => ?_)
    clear hK K hHeld hS hq
    have hS := hS2
    clear hS2
    try simp only [Act.put, sA, sB, sC]
    change wpAnyH _ _ _ _ _ _ #[tt,tt,tt,ff,tt,tt,tt,ff,ff,ff,ff,ff,ff,ff,ff,ff,ff,ff,ff,ff,ff,ff,ff,ff,ff,ff,ff,ff,ff,ff,ff,ff,ff,ff,ff,ff,ff,ff,ff,ff,ff,ff,ff,ff,ff] _ _
    refine wpAnyH_ready (rs := [3]) (by kernel_rfl) (by simp) ?_
    refine (AllReadyH.cons (by (try simp only [gA, gB, gC]); rfl) (fun K hK => ?_) AllReadyH.nil)
    go_simp
    refine (HPO.out _ _ _ _ _ _ _ (HLX.out.q hS)).mono ?_
    rintro e yR2x7 ⟨rfl, hq⟩
    try (go_wp2_with fail)
    have hS2 := Q.trans hS hq
    refine hK.out _ _ (by exact hS2) (fun hHeld => ?_)
    clear hK K hHeld hS hq
    have hS := hS2
    clear hS2
    try simp only [Act.put, sA, sB, sC]
    change wpAnyH _ _ _ _ _ _ #[tt,tt,tt,tt,tt,tt,tt,ff,ff,ff,ff,ff,ff,ff,ff,ff,ff,ff,ff,ff,ff,ff,ff,ff,ff,ff,ff,ff,ff,ff,ff,ff,ff,ff,ff,ff,ff,ff,ff,ff,ff,ff,ff,ff,ff] _ _
    refine wpAnyH_ready (rs := [7]) (by kernel_rfl) (by simp) ?_
    refine (AllReadyH.cons (by (try simp only [gA, gB, gC]); rfl) (fun K hK => ?_) AllReadyH.nil)
    go_simp
    refine (HDO.out _ _ _ (HLX.out.q hS)).mono ?_
    rintro e yR2x8 ⟨rfl, hq⟩
    try (go_wp2_with fail)
    have hS2 := Q.trans hS hq
    refine hK.out _ _ (by exact hS2) (fun hHeld => ?_)
    clear hK K hHeld hS hq
    have hS := hS2
    clear hS2
    try simp only [Act.put, sA, sB, sC]
    change wpAnyH _ _ _ _ _ _ #[tt,tt,tt,tt,tt,tt,tt,tt,ff,ff,ff,ff,ff,ff,ff,ff,ff,ff,ff,ff,ff,ff,ff,ff,ff,ff,ff,ff,ff,ff,ff,ff,ff,ff,ff,ff,ff,ff,ff,ff,ff,ff,ff,ff,ff] _ _
    refine wpAnyH_take (i := 8) (v := ?vR2x9) (by (try simp only [gA, gB, gC]); rfl) (by kernel_rfl) (by kernel_rfl) (by kernel_rfl) (by exact fun _ _ _ h => h) (Or.inl ⟨by first | kernel_rfl | rfl, ?hyR2x9⟩) (by exact hS) ?rsR2x9
    case hyR2x9 => (intro uz hSw; (try dsimp only at hSw); go_simp; try with_reducible rfl)
    try simp only [Act.put, sA, sB, sC]
    change wpAnyH _ _ _ _ _ _ #[tt,tt,tt,tt,tt,tt,tt,tt,tt,ff,ff,ff,ff,ff,ff,ff,ff,ff,ff,ff,ff,ff,ff,ff,ff,ff,ff,ff,ff,ff,ff,ff,ff,ff,ff,ff,ff,ff,ff,ff,ff,ff,ff,ff,ff] _ _
    refine wpAnyH_take (i := 9) (v := ?vR2x10) (by (try simp only [gA, gB, gC]); rfl) (by kernel_rfl) (by kernel_rfl) (by kernel_rfl) (by exact fun _ _ _ h => h) (Or.inl ⟨by first | kernel_rfl | rfl, ?hyR2x10⟩) (by exact hS) ?rsR2x10
    case hyR2x10 => (intro uz hSw; (try dsimp only at hSw); go_simp; try with_reducible rfl)
    try simp only [Act.put, sA, sB, sC]
    change wpAnyH _ _ _ _ _ _ #[tt,tt,tt,tt,tt,tt,tt,tt,tt,tt,ff,ff,ff,ff,ff,ff,ff,ff,ff,ff,ff,ff,ff,ff,ff,ff,ff,ff,ff,ff,ff,ff,ff,ff,ff,ff,ff,ff,ff,ff,ff,ff,ff,ff,ff] _ _
    refine wpAnyH_take (i := 10) (v := ?vR2x11) (by (try simp only [gA, gB, gC]); rfl) (by kernel_rfl) (by kernel_rfl) (by kernel_rfl) (by exact fun _ _ _ h => h) (Or.inl ⟨by first | kernel_rfl | rfl, ?hyR2x11⟩) (by exact hS) ?rsR2x11
    case hyR2x11 => (intro uz hSw; (try dsimp only at hSw); refine ld_row (x := .tmp 5) ?_ ?_ (Bk.q HR.out hSw) Try.underlying32 (by exact Kp.infoRp) <;> rfl)
    try simp only [Act.put, sA, sB, sC]
    change wpAnyH _ _ _ _ _ _ #[tt,tt,tt,tt,tt,tt,tt,tt,tt,tt,tt,ff,ff,ff,ff,ff,ff,ff,ff,ff,ff,ff,ff,ff,ff,ff,ff,ff,ff,ff,ff,ff,ff,ff,ff,ff,ff,ff,ff,ff,ff,ff,ff,ff,ff] _ _
    refine wpAnyH_take (i := 11) (v := ?vR2x12) (by (try simp only [gA, gB, gC]); rfl) (by kernel_rfl) (by kernel_rfl) (by kernel_rfl) (by exact fun _ _ _ h => h) (Or.inl ⟨by first | kernel_rfl | rfl, ?hyR2x12⟩) (by exact hS) ?rsR2x12
    case hyR2x12 => (intro uz hSw; (try dsimp only at hSw); have hxx := HBY.out.q hSw; have d0 := hxx.cell 0 rfl; have d1 := hxx.cell 1 rfl; have d2 := hxx.cell 2 rfl; clear hxx; go_simp; try with_reducible rfl)
    try simp only [Act.put, sA, sB, sC]
    change wpAnyH _ _ _ _ _ _ #[tt,tt,tt,tt,tt,tt,tt,tt,tt,tt,tt,tt,ff,ff,ff,ff,ff,ff,ff,ff,ff,ff,ff,ff,ff,ff,ff,ff,ff,ff,ff,ff,ff,ff,ff,ff,ff,ff,ff,ff,ff,ff,ff,ff,ff] _ _
    refine wpAnyH_take (i := 14) (v := ?vR2x13) (by (try simp only [gA, gB, gC]); rfl) (by kernel_rfl) (by kernel_rfl) (by kernel_rfl) (by exact fun _ _ _ h => h) (Or.inl ⟨by first | kernel_rfl | rfl, ?hyR2x13⟩) (by exact hS) ?rsR2x13
    case hyR2x13 => (intro uz hSw; (try dsimp only at hSw); go_simp; try with_reducible rfl)
    try simp only [Act.put, sA, sB, sC]
    change wpAnyH _ _ _ _ _ _ #[tt,tt,tt,tt,tt,tt,tt,tt,tt,tt,tt,tt,ff,ff,tt,ff,ff,ff,ff,ff,ff,ff,ff,ff,ff,ff,ff,ff,ff,ff,ff,ff,ff,ff,ff,ff,ff,ff,ff,ff,ff,ff,ff,ff,ff] _ _
    refine wpAnyH_ready (rs := [12]) (by kernel_rfl) (by simp) ?_
    refine (AllReadyH.cons (by (try simp only [gA, gB, gC]); rfl) (fun K hK => ?_) AllReadyH.nil)
    go_simp
    refine (Kl.dec_q _ _ _ _ _ _).mono ?_
    rintro e yR2x14 ⟨rfl, hq⟩
    try (go_wp2_with fail)
    have hS2 := Q.trans hS hq
    refine hK.out _ _ (by exact hS2) (fun hHeld => ?_)
    clear hK K hHeld hS hq
    have hS := hS2
    clear hS2
    try simp only [Act.put, sA, sB, sC]
    change wpAnyH _ _ _ _ _ _ #[tt,tt,tt,tt,tt,tt,tt,tt,tt,tt,tt,tt,tt,ff,tt,ff,ff,ff,ff,ff,ff,ff,ff,ff,ff,ff,ff,ff,ff,ff,ff,ff,ff,ff,ff,ff,ff,ff,ff,ff,ff,ff,ff,ff,ff] _ _
    refine wpAnyH_ready (rs := [13]) (by kernel_rfl) (by simp) ?_
    refine (AllReadyH.cons (by (try simp only [gA, gB, gC]); rfl) (fun K hK => ?_) AllReadyH.nil)
    go_simp
    refine (HPR.out _ (HQ.out.trans hS) _ _ _ _).mono ?_
    rintro e yR2x15 ⟨rfl, hq⟩
    try (go_wp2_with fail)
    have hS2 := Q.trans hS hq
    refine hK.out _ _ (by exact hS2) (fun hHeld => ?_)
    clear hK K hHeld hS hq
    have hS := hS2
    clear hS2
    try simp only [Act.put, sA, sB, sC]
    change wpAnyH _ _ _ _ _ _ #[tt,tt,tt,tt,tt,tt,tt,tt,tt,tt,tt,tt,tt,tt,tt,ff,ff,ff,ff,ff,ff,ff,ff,ff,ff,ff,ff,ff,ff,ff,ff,ff,ff,ff,ff,ff,ff,ff,ff,ff,ff,ff,ff,ff,ff] _ _
    refine wpAnyH_take (i := 15) (v := ?vR2x16) (by (try simp only [gA, gB, gC]); rfl) (by kernel_rfl) (by kernel_rfl) (by kernel_rfl) (by exact fun _ _ _ h => h) (Or.inl ⟨by first | kernel_rfl | rfl, ?hyR2x16⟩) (by exact hS) ?rsR2x16
    case hyR2x16 => (intro uz hSw; (try dsimp only at hSw); go_simp; try with_reducible rfl)
    try simp only [Act.put, sA, sB, sC]
    change wpAnyH _ _ _ _ _ _ #[tt,tt,tt,tt,tt,tt,tt,tt,tt,tt,tt,tt,tt,tt,tt,tt,ff,ff,ff,ff,ff,ff,ff,ff,ff,ff,ff,ff,ff,ff,ff,ff,ff,ff,ff,ff,ff,ff,ff,ff,ff,ff,ff,ff,ff] _ _
    refine wpAnyH_take (i := 16) (v := ?vR2x17) (by (try simp only [gA, gB, gC]); rfl) (by kernel_rfl) (by kernel_rfl) (by kernel_rfl) (by exact fun _ _ _ h => h) (Or.inl ⟨by first | kernel_rfl | rfl, ?hyR2x17⟩) (by exact hS) ?rsR2x17
    case hyR2x17 => (intro uz hSw; (try dsimp only at hSw); go_simp; try with_reducible rfl)
    try simp only [Act.put, sA, sB, sC]
    change wpAnyH _ _ _ _ _ _ #[tt,tt,tt,tt,tt,tt,tt,tt,tt,tt,tt,tt,tt,tt,tt,tt,tt,ff,ff,ff,ff,ff,ff,ff,ff,ff,ff,ff,ff,ff,ff,ff,ff,ff,ff,ff,ff,ff,ff,ff,ff,ff,ff,ff,ff] _ _
    refine wpAnyH_take (i := 17) (v := ?vR2x18) (by (try simp only [gA, gB, gC]); rfl) (by kernel_rfl) (by kernel_rfl) (by kernel_rfl) (by exact fun _ _ _ h => h) (Or.inl ⟨by first | kernel_rfl | rfl, ?hyR2x18⟩) (by exact hS) ?rsR2x18
    case hyR2x18 => (intro uz hSw; (try dsimp only at hSw); have hxx := HW.out.q hSw; have d0 := hxx.cell 10 rfl; have d1 := hxx.cell 11 rfl; have d2 := hxx.cell 12 rfl; have d3 := hxx.cell 13 rfl; have d4 := hxx.cell 14 rfl; have d5 := hxx.cell 15 rfl; have d6 := hxx.cell 16 rfl; clear hxx; go_simp; try with_reducible rfl)
    try simp only [Act.put, sA, sB, sC]
    change wpAnyH _ _ _ _ _ _ #[tt,tt,tt,tt,tt,tt,tt,tt,tt,tt,tt,tt,tt,tt,tt,tt,tt,tt,ff,ff,ff,ff,ff,ff,ff,ff,ff,ff,ff,ff,ff,ff,ff,ff,ff,ff,ff,ff,ff,ff,ff,ff,ff,ff,ff] _ _
    refine wpAnyH_take (i := 18) (v := ?vR2x19) (by (try simp only [gA, gB, gC]); rfl) (by kernel_rfl) (by kernel_rfl) (by kernel_rfl) (by exact fun _ _ _ h => h) (Or.inl ⟨by first | kernel_rfl | rfl, ?hyR2x19⟩) (by exact hS) ?rsR2x19
    case hyR2x19 => (intro uz hSw; (try dsimp only at hSw); have hxx := HBY.out.q hSw; have d0 := hxx.cell 0 rfl; have d1 := hxx.cell 1 rfl; have d2 := hxx.cell 2 rfl; clear hxx; go_simp; try with_reducible rfl)
    try simp only [Act.put, sA, sB, sC]
    change wpAnyH _ _ _ _ _ _ #[tt,tt,tt,tt,tt,tt,tt,tt,tt,tt,tt,tt,tt,tt,tt,tt,tt,tt,tt,ff,ff,ff,ff,ff,ff,ff,ff,ff,ff,ff,ff,ff,ff,ff,ff,ff,ff,ff,ff,ff,ff,ff,ff,ff,ff] _ _
    refine wpAnyH_ready (rs := [19]) (by kernel_rfl) (by simp) ?_
    refine (AllReadyH.cons (by (try simp only [gA, gB, gC]); rfl) (fun K hK => ?_) AllReadyH.nil)
    go_simp
    refine (HDR.out HMT.out _ (HQ.out.trans hS)).mono ?_
    rintro e yR2x20 ⟨rfl, hq⟩
    try (go_wp2_with fail)
    have hS2 := Q.trans hS hq
    refine hK.out _ _ (by exact hS2) (fun hHeld => ?_)
    clear hK K hHeld hS hq
    have hS := hS2
    clear hS2
    try simp only [Act.put, sA, sB, sC]
    change wpAnyH _ _ _ _ _ _ #[tt,tt,tt,tt,tt,tt,tt,tt,tt,tt,tt,tt,tt,tt,tt,tt,tt,tt,tt,tt,ff,ff,ff,ff,ff,ff,ff,ff,ff,ff,ff,ff,ff,ff,ff,ff,ff,ff,ff,ff,ff,ff,ff,ff,ff] _ _
    refine wpAnyH_take (i := 20) (v := ?vR2x21) (by (try simp only [gA, gB, gC]); rfl) (by kernel_rfl) (by kernel_rfl) (by kernel_rfl) (by exact fun _ _ _ h => h) (Or.inl ⟨by first | kernel_rfl | rfl, ?hyR2x21⟩) (by exact hS) ?rsR2x21
    case hyR2x21 => (intro uz hSw; (try dsimp only at hSw); go_simp; try with_reducible rfl)
    try simp only [Act.put, sA, sB, sC]
    change wpAnyH _ _ _ _ _ _ #[tt,tt,tt,tt,tt,tt,tt,tt,tt,tt,tt,tt,tt,tt,tt,tt,tt,tt,tt,tt,tt,ff,ff,ff,ff,ff,ff,ff,ff,ff,ff,ff,ff,ff,ff,ff,ff,ff,ff,ff,ff,ff,ff,ff,ff] _ _
    refine wpAnyH_take (i := 21) (v := ?vR2x22) (by (try simp only [gA, gB, gC]); rfl) (by kernel_rfl) (by kernel_rfl) (by kernel_rfl) (by exact fun _ _ _ h => h) (Or.inl ⟨by first | kernel_rfl | rfl, ?hyR2x22⟩) (by exact hS) ?rsR2x22
    case hyR2x22 => (intro uz hSw; (try dsimp only at hSw); go_simp; try with_reducible rfl)
    try simp only [Act.put, sA, sB, sC]
    change wpAnyH _ _ _ _ _ _ #[tt,tt,tt,tt,tt,tt,tt,tt,tt,tt,tt,tt,tt,tt,tt,tt,tt,tt,tt,tt,tt,tt,ff,ff,ff,ff,ff,ff,ff,ff,ff,ff,ff,ff,ff,ff,ff,ff,ff,ff,ff,ff,ff,ff,ff] _ _
    refine wpAnyH_take (i := 22) (v := ?vR2x23) (by (try simp only [gA, gB, gC]); rfl) (by kernel_rfl) (by kernel_rfl) (by kernel_rfl) (by exact fun _ _ _ h => h) (Or.inl ⟨by first | kernel_rfl | rfl, ?hyR2x23⟩) (by exact hS) ?rsR2x23
    case hyR2x23 => (intro uz hSw; (try dsimp only at hSw); go_simp; try with_reducible rfl)
    try simp only [Act.put, sA, sB, sC]
    change wpAnyH _ _ _ _ _ _ #[tt,tt,tt,tt,tt,tt,tt,tt,tt,tt,tt,tt,tt,tt,tt,tt,tt,tt,tt,tt,tt,tt,tt,ff,ff,ff,ff,ff,ff,ff,ff,ff,ff,ff,ff,ff,ff,ff,ff,ff,ff,ff,ff,ff,ff] _ _
    refine wpAnyH_take (i := 23) (v := ?vR2x24) (by (try simp only [gA, gB, gC]); rfl) (by kernel_rfl) (by kernel_rfl) (by kernel_rfl) (by exact fun _ _ _ h => h) (Or.inl ⟨by first | kernel_rfl | rfl, ?hyR2x24⟩) (by exact hS) ?rsR2x24
    case hyR2x24 => (intro uz hSw; (try dsimp only at hSw); go_simp; try with_reducible rfl)
    try simp only [Act.put, sA, sB, sC]
    change wpAnyH _ _ _ _ _ _ #[tt,tt,tt,tt,tt,tt,tt,tt,tt,tt,tt,tt,tt,tt,tt,tt,tt,tt,tt,tt,tt,tt,tt,tt,ff,ff,ff,ff,ff,ff,ff,ff,ff,ff,ff,ff,ff,ff,ff,ff,ff,ff,ff,ff,ff] _ _
    refine wpAnyH_take (i := 24) (v := ?vR2x25) (by (try simp only [gA, gB, gC]); rfl) (by kernel_rfl) (by kernel_rfl) (by kernel_rfl) (by exact fun _ _ _ h => h) (Or.inl ⟨by first | kernel_rfl | rfl, ?hyR2x25⟩) (by exact hS) ?rsR2x25
    case hyR2x25 => (intro uz hSw; (try dsimp only at hSw); refine ld_row (x := .tmp 5) ?_ ?_ (Bk.q HR.out hSw) Try.underlying32 (by exact Kp.infoRp) <;> rfl)
    try simp only [Act.put, sA, sB, sC]
    change wpAnyH _ _ _ _ _ _ #[tt,tt,tt,tt,tt,tt,tt,tt,tt,tt,tt,tt,tt,tt,tt,tt,tt,tt,tt,tt,tt,tt,tt,tt,tt,ff,ff,ff,ff,ff,ff,ff,ff,ff,ff,ff,ff,ff,ff,ff,ff,ff,ff,ff,ff] _ _
    refine wpAnyH_take (i := 25) (v := ?vR2x26) (by (try simp only [gA, gB, gC]); rfl) (by kernel_rfl) (by kernel_rfl) (by kernel_rfl) (by exact fun _ _ _ h => h) (Or.inl ⟨by first | kernel_rfl | rfl, ?hyR2x26⟩) (by exact hS) ?rsR2x26
    case hyR2x26 => (intro uz hSw; (try dsimp only at hSw); go_simp; try with_reducible rfl)
    try simp only [Act.put, sA, sB, sC]
    change wpAnyH _ _ _ _ _ _ #[tt,tt,tt,tt,tt,tt,tt,tt,tt,tt,tt,tt,tt,tt,tt,tt,tt,tt,tt,tt,tt,tt,tt,tt,tt,tt,ff,ff,ff,ff,ff,ff,ff,ff,ff,ff,ff,ff,ff,ff,ff,ff,ff,ff,ff] _ _
    refine wpAnyH_take (i := 26) (v := ?vR2x27) (by (try simp only [gA, gB, gC]); rfl) (by kernel_rfl) (by kernel_rfl) (by kernel_rfl) (by exact fun _ _ _ h => h) (Or.inl ⟨by first | kernel_rfl | rfl, ?hyR2x27⟩) (by exact hS) ?rsR2x27
    case hyR2x27 => (intro uz hSw; (try dsimp only at hSw); have hxx := HR.out.q hSw; have d0 := hxx.cell 0 rfl; have d1 := hxx.cell 1 rfl; have d2 := hxx.cell 2 rfl; clear hxx; go_simp; try with_reducible rfl)
    try simp only [Act.put, sA, sB, sC]
    change wpAnyH _ _ _ _ _ _ #[tt,tt,tt,tt,tt,tt,tt,tt,tt,tt,tt,tt,tt,tt,tt,tt,tt,tt,tt,tt,tt,tt,tt,tt,tt,tt,tt,ff,ff,ff,ff,ff,ff,ff,ff,ff,ff,ff,ff,ff,ff,ff,ff,ff,ff] _ _
    refine wpAnyH_ready (rs := [27]) (by kernel_rfl) (by simp) ?_
    refine (AllReadyH.cons (by (try simp only [gA, gB, gC]); rfl) (fun K hK => ?_) AllReadyH.nil)
    go_simp
    refine (HF1.out _ _ _ _ _ _ _ (HL1.out.q hS)).mono ?_
    rintro e yR2x28 ⟨rfl, hq⟩
    try (go_wp2_with fail)
    have hS2 := Q.trans hS hq
    refine hK.out _ _ (by exact hS2) (fun hHeld => ?_)
    clear hK K hHeld hS hq
    have hS := hS2
    clear hS2
    try simp only [Act.put, sA, sB, sC]
    change wpAnyH _ _ _ _ _ _ #[tt,tt,tt,tt,tt,tt,tt,tt,tt,tt,tt,tt,tt,tt,tt,tt,tt,tt,tt,tt,tt,tt,tt,tt,tt,tt,tt,tt,ff,ff,ff,ff,ff,ff,ff,ff,ff,ff,ff,ff,ff,ff,ff,ff,ff] _ _
    refine wpAnyH_take (i := 28) (v := ?vR2x29) (by (try simp only [gA, gB, gC]); rfl) (by kernel_rfl) (by kernel_rfl) (by kernel_rfl) (by exact fun _ _ _ h => h) (Or.inl ⟨by first | kernel_rfl | rfl, ?hyR2x29⟩) (by exact hS) ?rsR2x29
    case hyR2x29 => (intro uz hSw; (try dsimp only at hSw); go_simp; try with_reducible rfl)
    try simp only [Act.put, sA, sB, sC]
    change wpAnyH _ _ _ _ _ _ #[tt,tt,tt,tt,tt,tt,tt,tt,tt,tt,tt,tt,tt,tt,tt,tt,tt,tt,tt,tt,tt,tt,tt,tt,tt,tt,tt,tt,tt,ff,ff,ff,ff,ff,ff,ff,ff,ff,ff,ff,ff,ff,ff,ff,ff] _ _
    refine wpAnyH_take (i := 29) (v := ?vR2x30) (by (try simp only [gA, gB, gC]); rfl) (by kernel_rfl) (by kernel_rfl) (by kernel_rfl) (by exact fun _ _ _ h => h) (Or.inl ⟨by first | kernel_rfl | rfl, ?hyR2x30⟩) (by exact hS) ?rsR2x30
    case hyR2x30 => (intro uz hSw; (try dsimp only at hSw); go_simp; try with_reducible rfl)
    try simp only [Act.put, sA, sB, sC]
    change wpAnyH _ _ _ _ _ _ #[tt,tt,tt,tt,tt,tt,tt,tt,tt,tt,tt,tt,tt,tt,tt,tt,tt,tt,tt,tt,tt,tt,tt,tt,tt,tt,tt,tt,tt,tt,ff,ff,ff,ff,ff,ff,ff,ff,ff,ff,ff,ff,ff,ff,ff] _ _
    refine wpAnyH_take (i := 30) (v := ?vR2x31) (by (try simp only [gA, gB, gC]); rfl) (by kernel_rfl) (by kernel_rfl) (by kernel_rfl) (by exact fun _ _ _ h => h) (Or.inl ⟨by first | kernel_rfl | rfl, ?hyR2x31⟩) (by exact hS) ?rsR2x31
    case hyR2x31 => (intro uz hSw; (try dsimp only at hSw); refine ld_row (x := .tmp 5) ?_ ?_ (Bk.q HR.out hSw) Try.underlying32 (by exact Kp.infoRp) <;> rfl)
    try simp only [Act.put, sA, sB, sC]
    change wpAnyH _ _ _ _ _ _ #[tt,tt,tt,tt,tt,tt,tt,tt,tt,tt,tt,tt,tt,tt,tt,tt,tt,tt,tt,tt,tt,tt,tt,tt,tt,tt,tt,tt,tt,tt,tt,ff,ff,ff,ff,ff,ff,ff,ff,ff,ff,ff,ff,ff,ff] _ _
    refine wpAnyH_take (i := 31) (v := ?vR2x32) (by (try simp only [gA, gB, gC]); rfl) (by kernel_rfl) (by kernel_rfl) (by kernel_rfl) (by exact fun _ _ _ h => h) (Or.inl ⟨by first | kernel_rfl | rfl, ?hyR2x32⟩) (by exact hS) ?rsR2x32
    case hyR2x32 => (intro uz hSw; (try dsimp only at hSw); go_simp; try with_reducible rfl)
    try simp only [Act.put, sA, sB, sC]
    change wpAnyH _ _ _ _ _ _ #[tt,tt,tt,tt,tt,tt,tt,tt,tt,tt,tt,tt,tt,tt,tt,tt,tt,tt,tt,tt,tt,tt,tt,tt,tt,tt,tt,tt,tt,tt,tt,tt,ff,ff,ff,ff,ff,ff,ff,ff,ff,ff,ff,ff,ff] _ _
    refine wpAnyH_take (i := 32) (v := ?vR2x33) (by (try simp only [gA, gB, gC]); rfl) (by kernel_rfl) (by kernel_rfl) (by kernel_rfl) (by exact fun _ _ _ h => h) (Or.inl ⟨by first | kernel_rfl | rfl, ?hyR2x33⟩) (by exact hS) ?rsR2x33
    case hyR2x33 => (intro uz hSw; (try dsimp only at hSw); have hxx := HR.out.q hSw; have d0 := hxx.cell 3 rfl; have d1 := hxx.cell 4 rfl; have d2 := hxx.cell 5 rfl; clear hxx; go_simp; try with_reducible rfl)
    try simp only [Act.put, sA, sB, sC]
    change wpAnyH _ _ _ _ _ _ #[tt,tt,tt,tt,tt,tt,tt,tt,tt,tt,tt,tt,tt,tt,tt,tt,tt,tt,tt,tt,tt,tt,tt,tt,tt,tt,tt,tt,tt,tt,tt,tt,tt,ff,ff,ff,ff,ff,ff,ff,ff,ff,ff,ff,ff] _ _
    refine wpAnyH_ready (rs := [33]) (by kernel_rfl) (by simp) ?_
    refine (AllReadyH.cons (by (try simp only [gA, gB, gC]); rfl) (fun K hK => ?_) AllReadyH.nil)
    go_simp
    refine (HF2.out _ _ _ _ _ _ _ (HL2.out.q hS)).mono ?_
    rintro e yR2x34 ⟨rfl, hq⟩
    try (go_wp2_with fail)
    have hS2 := Q.trans hS hq
    refine hK.out _ _ (by exact hS2) (fun hHeld => ?_)
    clear hK K hHeld hS hq
    have hS := hS2
    clear hS2
    try simp only [Act.put, sA, sB, sC]
    change wpAnyH _ _ _ _ _ _ #[tt,tt,tt,tt,tt,tt,tt,tt,tt,tt,tt,tt,tt,tt,tt,tt,tt,tt,tt,tt,tt,tt,tt,tt,tt,tt,tt,tt,tt,tt,tt,tt,tt,tt,ff,ff,ff,ff,ff,ff,ff,ff,ff,ff,ff] _ _
    refine wpAnyH_take (i := 34) (v := ?vR2x35) (by (try simp only [gA, gB, gC]); rfl) (by kernel_rfl) (by kernel_rfl) (by kernel_rfl) (by exact fun _ _ _ h => h) (Or.inl ⟨by first | kernel_rfl | rfl, ?hyR2x35⟩) (by exact hS) ?rsR2x35
    case hyR2x35 => (intro uz hSw; (try dsimp only at hSw); go_simp; try with_reducible rfl)
    try simp only [Act.put, sA, sB, sC]
    change wpAnyH _ _ _ _ _ _ #[tt,tt,tt,tt,tt,tt,tt,tt,tt,tt,tt,tt,tt,tt,tt,tt,tt,tt,tt,tt,tt,tt,tt,tt,tt,tt,tt,tt,tt,tt,tt,tt,tt,tt,tt,ff,ff,ff,ff,ff,ff,ff,ff,ff,ff] _ _
    refine wpAnyH_take (i := 35) (v := ?vR2x36) (by (try simp only [gA, gB, gC]); rfl) (by kernel_rfl) (by kernel_rfl) (by kernel_rfl) (by exact fun _ _ _ h => h) (Or.inl ⟨by first | kernel_rfl | rfl, ?hyR2x36⟩) (by exact hS) ?rsR2x36
    case hyR2x36 => (intro uz hSw; (try dsimp only at hSw); go_simp; try with_reducible rfl)
    try simp only [Act.put, sA, sB, sC]
    change wpAnyH _ _ _ _ _ _ #[tt,tt,tt,tt,tt,tt,tt,tt,tt,tt,tt,tt,tt,tt,tt,tt,tt,tt,tt,tt,tt,tt,tt,tt,tt,tt,tt,tt,tt,tt,tt,tt,tt,tt,tt,tt,ff,ff,ff,ff,ff,ff,ff,ff,ff] _ _
    refine wpAnyH_take (i := 36) (v := ?vR2x37) (by (try simp only [gA, gB, gC]); rfl) (by kernel_rfl) (by kernel_rfl) (by kernel_rfl) (by exact fun _ _ _ h => h) (Or.inl ⟨by first | kernel_rfl | rfl, ?hyR2x37⟩) (by exact hS) ?rsR2x37
    case hyR2x37 => (intro uz hSw; (try dsimp only at hSw); refine ld_row (x := .tmp 5) ?_ ?_ (Bk.q HR.out hSw) Try.underlying32 (by exact Kp.infoRp) <;> rfl)
    try simp only [Act.put, sA, sB, sC]
    change wpAnyH _ _ _ _ _ _ #[tt,tt,tt,tt,tt,tt,tt,tt,tt,tt,tt,tt,tt,tt,tt,tt,tt,tt,tt,tt,tt,tt,tt,tt,tt,tt,tt,tt,tt,tt,tt,tt,tt,tt,tt,tt,tt,ff,ff,ff,ff,ff,ff,ff,ff] _ _
    refine wpAnyH_take (i := 37) (v := ?vR2x38) (by (try simp only [gA, gB, gC]); rfl) (by kernel_rfl) (by kernel_rfl) (by kernel_rfl) (by exact fun _ _ _ h => h) (Or.inl ⟨by first | kernel_rfl | rfl, ?hyR2x38⟩) (by exact hS) ?rsR2x38
    case hyR2x38 => (intro uz hSw; (try dsimp only at hSw); go_simp; try with_reducible rfl)
    try simp only [Act.put, sA, sB, sC]
    change wpAnyH _ _ _ _ _ _ #[tt,tt,tt,tt,tt,tt,tt,tt,tt,tt,tt,tt,tt,tt,tt,tt,tt,tt,tt,tt,tt,tt,tt,tt,tt,tt,tt,tt,tt,tt,tt,tt,tt,tt,tt,tt,tt,tt,ff,ff,ff,ff,ff,ff,ff] _ _
    refine wpAnyH_take (i := 38) (v := ?vR2x39) (by (try simp only [gA, gB, gC]); rfl) (by kernel_rfl) (by kernel_rfl) (by kernel_rfl) (by exact fun _ _ _ h => h) (Or.inl ⟨by first | kernel_rfl | rfl, ?hyR2x39⟩) (by exact hS) ?rsR2x39
    case hyR2x39 => (intro uz hSw; (try dsimp only at hSw); have hxx := HR.out.q hSw; have d0 := hxx.cell 6 rfl; have d1 := hxx.cell 7 rfl; have d2 := hxx.cell 8 rfl; clear hxx; go_simp; try with_reducible rfl)
    try simp only [Act.put, sA, sB, sC]
    change wpAnyH _ _ _ _ _ _ #[tt,tt,tt,tt,tt,tt,tt,tt,tt,tt,tt,tt,tt,tt,tt,tt,tt,tt,tt,tt,tt,tt,tt,tt,tt,tt,tt,tt,tt,tt,tt,tt,tt,tt,tt,tt,tt,tt,tt,ff,ff,ff,ff,ff,ff] _ _
    refine wpAnyH_ready (rs := [39]) (by kernel_rfl) (by simp) ?_
    refine (AllReadyH.cons (by (try simp only [gA, gB, gC]); rfl) (fun K hK => ?_) AllReadyH.nil)
    go_simp
    refine (HF3.out _ _ _ _ _ _ _ (HL3.out.q hS)).mono ?_
    rintro e yR2x40 ⟨rfl, hq⟩
    try (go_wp2_with fail)
    have hS2 := Q.trans hS hq
    refine hK.out _ _ (by exact hS2) (fun hHeld => ?_)
    clear hK K hHeld hS hq
    have hS := hS2
    clear hS2
    try simp only [Act.put, sA, sB, sC]
    change wpAnyH _ _ _ _ _ _ #[tt,tt,tt,tt,tt,tt,tt,tt,tt,tt,tt,tt,tt,tt,tt,tt,tt,tt,tt,tt,tt,tt,tt,tt,tt,tt,tt,tt,tt,tt,tt,tt,tt,tt,tt,tt,tt,tt,tt,tt,ff,ff,ff,ff,ff] _ _
    refine wpAnyH_take (i := 40) (v := ?vR2x41) (by (try simp only [gA, gB, gC]); rfl) (by kernel_rfl) (by kernel_rfl) (by kernel_rfl) (by exact fun _ _ _ h => h) (Or.inl ⟨by first | kernel_rfl | rfl, ?hyR2x41⟩) (by exact hS) ?rsR2x41
    case hyR2x41 => (intro uz hSw; (try dsimp only at hSw); go_simp; try with_reducible rfl)
    try simp only [Act.put, sA, sB, sC]
    change wpAnyH _ _ _ _ _ _ #[tt,tt,tt,tt,tt,tt,tt,tt,tt,tt,tt,tt,tt,tt,tt,tt,tt,tt,tt,tt,tt,tt,tt,tt,tt,tt,tt,tt,tt,tt,tt,tt,tt,tt,tt,tt,tt,tt,tt,tt,tt,ff,ff,ff,ff] _ _
    refine wpAnyH_take (i := 41) (v := ?vR2x42) (by (try simp only [gA, gB, gC]); rfl) (by kernel_rfl) (by kernel_rfl) (by kernel_rfl) (by exact fun _ _ _ h => h) (Or.inl ⟨by first | kernel_rfl | rfl, ?hyR2x42⟩) (by exact hS) ?rsR2x42
    case hyR2x42 => (intro uz hSw; (try dsimp only at hSw); go_simp; try with_reducible rfl)
    try simp only [Act.put, sA, sB, sC]
    change wpAnyH _ _ _ _ _ _ #[tt,tt,tt,tt,tt,tt,tt,tt,tt,tt,tt,tt,tt,tt,tt,tt,tt,tt,tt,tt,tt,tt,tt,tt,tt,tt,tt,tt,tt,tt,tt,tt,tt,tt,tt,tt,tt,tt,tt,tt,tt,tt,ff,ff,ff] _ _
    refine wpAnyH_ready (rs := [42]) (by kernel_rfl) (by simp) ?_
    refine (AllReadyH.cons (by (try simp only [gA, gB, gC]); rfl) (fun K hK => ?_) AllReadyH.nil)
    go_simp
    refine (HLI.out _).mono ?_
    rintro e yR2x43 ⟨rfl, hq⟩
    try (go_wp2_with fail)
    have hS2 := Q.trans hS hq
    refine hK.out _ _ (by exact hS2) (fun hHeld => ?_)
    clear hK K hHeld hS hq
    have hS := hS2
    clear hS2
    try simp only [Act.put, sA, sB, sC]
    change wpAnyH _ _ _ _ _ _ #[tt,tt,tt,tt,tt,tt,tt,tt,tt,tt,tt,tt,tt,tt,tt,tt,tt,tt,tt,tt,tt,tt,tt,tt,tt,tt,tt,tt,tt,tt,tt,tt,tt,tt,tt,tt,tt,tt,tt,tt,tt,tt,tt,ff,ff] _ _
    refine wpAnyH_take (i := 43) (v := ?vR2x44) (by (try simp only [gA, gB, gC]); rfl) (by kernel_rfl) (by kernel_rfl) (by kernel_rfl) (by exact fun _ _ _ h => h) (Or.inl ⟨by first | kernel_rfl | rfl, ?hyR2x44⟩) (by exact hS) ?rsR2x44
    case hyR2x44 => (intro uz hSw; (try dsimp only at hSw); go_simp; try with_reducible rfl)
    try simp only [Act.put, sA, sB, sC]
    change wpAnyH _ _ _ _ _ _ #[tt,tt,tt,tt,tt,tt,tt,tt,tt,tt,tt,tt,tt,tt,tt,tt,tt,tt,tt,tt,tt,tt,tt,tt,tt,tt,tt,tt,tt,tt,tt,tt,tt,tt,tt,tt,tt,tt,tt,tt,tt,tt,tt,tt,ff] _ _
    refine wpAnyH_take (i := 44) (v := ?vR2x45) (by (try simp only [gA, gB, gC]); rfl) (by kernel_rfl) (by kernel_rfl) (by kernel_rfl) (by exact fun _ _ _ h => h) (Or.inl ⟨by first | kernel_rfl | rfl, ?hyR2x45⟩) (by exact hS) ?rsR2x45
    case hyR2x45 => (intro uz hSw; (try dsimp only at hSw); go_simp; try with_reducible rfl)
    try simp only [Act.put, sA, sB, sC]
    change wpAnyH _ _ _ _ _ _ #[tt,tt,tt,tt,tt,tt,tt,tt,tt,tt,tt,tt,tt,tt,tt,tt,tt,tt,tt,tt,tt,tt,tt,tt,tt,tt,tt,tt,tt,tt,tt,tt,tt,tt,tt,tt,tt,tt,tt,tt,tt,tt,tt,tt,tt] _ _
    refine wpAnyH_done (by kernel_rfl) ?_ _
    go_wp2_with fail
    go_ret
    exact ⟨rfl, HQ.out.trans hS⟩

set_option maxRecDepth 100000 in
theorem lifted (os : Os) (started : os.Started) (H : Type) (enc : TypeId × Value → H) :
    ReturnsInHanded {} Try.checked os 5 .any (Rows.configFitsSpec.pre6 enc Try.prog Try.f5 Rows.configFitsRow.domain false) (Rows.configFitsSpec.post enc Try.prog Try.f5 false true false false) := by
  refine returnsInHanded_of_change (C := Try.checked) own started (by kernel_rfl) Try.func5
    (ChangeSpec.witness6 (enc := enc) (C := Try.checked) false ⟨#[], #[.agg #[.bool false, .slice none 0 0, .int .i64 0, .bool false, .slice none 0 0, .int .i64 0, .slice none 0 0, .bool false, .int .i64 0, .int .i64 0, .int .i64 0, .int .i64 0, .int .i64 0, .int .i64 0, .int .i64 0], .agg #[.bool false, .slice none 0 0, .int .i64 0]], []⟩ 8 (by kernel_rfl) (by kernel_rfl) (by kernel_rfl) (by kernel_rfl)) ?_
  intro W base args ds gs before hval0 hW hcnd _
  have hval : ∀ (j : Nat) t v, Try.f5.params[j]? = some t → args[j]? = some v → Value.okWide Try.prog W .any base t v := hval0
  have hW' := hW
  obtain ⟨p, q, hA0, hV, rfl, hfz, hnd⟩ := hW
  have hA : DataW.TrodAll enc Try.prog W 0 (fun _ => true) true Try.f5.params.toList args.toList ds p := hA0
  rw [Try.params5] at hA hval
  obtain ⟨v0, vs0, d0, ds0, p0, q0, hargs, rfl, rfl, h0, r0⟩ := trodAll_cons hA
  obtain ⟨v1, vs1, d1, ds1, p1, q1, rfl, rfl, rfl, h1, r1⟩ := trodAll_cons r0
  obtain ⟨rfl, rfl, rfl⟩ := trodAll_nil r1
  obtain rfl : args = #[v0, v1] := by cases args; simp_all
  obtain ⟨rfl, rfl⟩ := trodVars_none hV
  have k0 := h0
  have lt0 : ∀ x ∈ p0, x.block < W.heap.size := by obtain ⟨m, hm⟩ := k0; exact DataW.trod_lt m _ _ _ hm
  obtain ⟨cs0, rfl, hc0, hf0⟩ := FrH.open_any Try.underlying28 (k := 15) (by kernel_rfl) (hval 0 28 v0 rfl rfl) h0
  obtain ⟨f0_0, f0_1, f0_2, f0_3, f0_4, f0_5, f0_6, f0_7, f0_8, f0_9, f0_10, f0_11, f0_12, f0_13, f0_14, rfl⟩ := FrH.arr15 hc0
  have hn0_1 := FrH.nest Try.underlying28 hf0 0 rfl 0 3 rfl (T := 24) rfl (by kernel_rfl) (l := [f0_0, f0_1, f0_2]) rfl
  have hn0_2 := FrH.nest Try.underlying24 hn0_1 0 rfl 0 1 rfl (T := 4) rfl (by kernel_rfl) (l := [f0_0]) rfl
  have hn0_3 := FrH.nest Try.underlying24 hn0_1 1 rfl 1 1 rfl (T := 22) rfl (by kernel_rfl) (l := [f0_1]) rfl
  have hn0_4 := FrH.nest Try.underlying24 hn0_1 2 rfl 2 1 rfl (T := 3) rfl (by kernel_rfl) (l := [f0_2]) rfl
  have hn0_5 := FrH.nest Try.underlying28 hf0 1 rfl 3 3 rfl (T := 24) rfl (by kernel_rfl) (l := [f0_3, f0_4, f0_5]) rfl
  have hn0_6 := FrH.nest Try.underlying24 hn0_5 0 rfl 0 1 rfl (T := 4) rfl (by kernel_rfl) (l := [f0_3]) rfl
  have hn0_7 := FrH.nest Try.underlying24 hn0_5 1 rfl 1 1 rfl (T := 22) rfl (by kernel_rfl) (l := [f0_4]) rfl
  have hn0_8 := FrH.nest Try.underlying24 hn0_5 2 rfl 2 1 rfl (T := 3) rfl (by kernel_rfl) (l := [f0_5]) rfl
  have hn0_9 := FrH.nest Try.underlying28 hf0 2 rfl 6 1 rfl (T := 22) rfl (by kernel_rfl) (l := [f0_6]) rfl
  have hn0_10 := FrH.nest Try.underlying28 hf0 3 rfl 7 1 rfl (T := 4) rfl (by kernel_rfl) (l := [f0_7]) rfl
  have hn0_11 := FrH.nest Try.underlying28 hf0 4 rfl 8 7 rfl (T := 26) rfl (by kernel_rfl) (l := [f0_8, f0_9, f0_10, f0_11, f0_12, f0_13, f0_14]) rfl
  have hn0_12 := FrH.nest Try.underlying26 hn0_11 0 rfl 0 1 rfl (T := 3) rfl (by kernel_rfl) (l := [f0_8]) rfl
  have hn0_13 := FrH.nest Try.underlying26 hn0_11 1 rfl 1 1 rfl (T := 3) rfl (by kernel_rfl) (l := [f0_9]) rfl
  have hn0_14 := FrH.nest Try.underlying26 hn0_11 2 rfl 2 1 rfl (T := 3) rfl (by kernel_rfl) (l := [f0_10]) rfl
  have hn0_15 := FrH.nest Try.underlying26 hn0_11 3 rfl 3 1 rfl (T := 3) rfl (by kernel_rfl) (l := [f0_11]) rfl
  have hn0_16 := FrH.nest Try.underlying26 hn0_11 4 rfl 4 1 rfl (T := 3) rfl (by kernel_rfl) (l := [f0_12]) rfl
  have hn0_17 := FrH.nest Try.underlying26 hn0_11 5 rfl 5 1 rfl (T := 3) rfl (by kernel_rfl) (l := [f0_13]) rfl
  have hn0_18 := FrH.nest Try.underlying26 hn0_11 6 rfl 6 1 rfl (T := 3) rfl (by kernel_rfl) (l := [f0_14]) rfl
  obtain ⟨g0_0, rfl⟩ := FrH.bool_of Try.underlying4 hn0_2
  obtain ⟨xs0_1, w0_1, b0_1⟩ := FrH.lst_of Try.underlying22 Try.underlying3 (by kernel_rfl) hn0_3
  obtain ⟨s0_2, rfl, ws0_2⟩ := FrH.int_of Try.underlying3 hn0_4
  obtain ⟨g0_3, rfl⟩ := FrH.bool_of Try.underlying4 hn0_6
  obtain ⟨xs0_4, w0_4, b0_4⟩ := FrH.lst_of Try.underlying22 Try.underlying3 (by kernel_rfl) hn0_7
  obtain ⟨s0_5, rfl, ws0_5⟩ := FrH.int_of Try.underlying3 hn0_8
  obtain ⟨xs0_6, w0_6, b0_6⟩ := FrH.lst_of Try.underlying22 Try.underlying3 (by kernel_rfl) hn0_9
  obtain ⟨g0_7, rfl⟩ := FrH.bool_of Try.underlying4 hn0_10
  obtain ⟨s0_8, rfl, ws0_8⟩ := FrH.int_of Try.underlying3 hn0_12
  obtain ⟨s0_9, rfl, ws0_9⟩ := FrH.int_of Try.underlying3 hn0_13
  obtain ⟨s0_10, rfl, ws0_10⟩ := FrH.int_of Try.underlying3 hn0_14
  obtain ⟨s0_11, rfl, ws0_11⟩ := FrH.int_of Try.underlying3 hn0_15
  obtain ⟨s0_12, rfl, ws0_12⟩ := FrH.int_of Try.underlying3 hn0_16
  obtain ⟨s0_13, rfl, ws0_13⟩ := FrH.int_of Try.underlying3 hn0_17
  obtain ⟨s0_14, rfl, ws0_14⟩ := FrH.int_of Try.underlying3 hn0_18
  have k1 := h1
  have lt1 : ∀ x ∈ p1, x.block < W.heap.size := by obtain ⟨m, hm⟩ := k1; exact DataW.trod_lt m _ _ _ hm
  obtain ⟨c10, c11, c12, y10, y11, y12, m1, rfl, _, _, hy10, hy11, hy12⟩ := Joins.open_agg3 Try.underlying24 (by kernel_rfl) (by kernel_rfl) (hval 1 24 v1 rfl rfl) h1
  obtain ⟨g1, rfl⟩ : ∃ b, c10 = .bool b := by
    obtain ⟨b, h, _⟩ := DataW.trod_bool Try.underlying4 hy10
    exact ⟨b, by simpa using h⟩
  obtain ⟨s1, rfl, ws1⟩ : ∃ n, c12 = .int .i64 n ∧ (Lit.int .i64 n).wf = true := by
    obtain ⟨n, h, _, hw⟩ := DataW.trod_int Try.underlying3 hy12
    exact ⟨n, by simpa using h, hw⟩
  obtain ⟨a1, len1, cap1, z1, rfl, w1⟩ : ∃ a len cap zs, c11 = .slice a len cap ∧ IsRow .i64 W a len cap zs := by
    rcases open_ints Try.underlying22 Try.underlying3 (by kernel_rfl) hy11 with ⟨hcs, _⟩ | ⟨x, l, c, zs, hcs, _, hl, hm, hz, _, hcell, hwz⟩
    · exact ⟨none, 0, 0, [], by simpa using hcs, .inl ⟨rfl, rfl, rfl, rfl⟩⟩
    · exact ⟨some x, l, c, zs, by simpa using hcs, .inr ⟨_, rfl, hl, hm, by simpa using hz, hcell, hwz⟩⟩
  obtain ⟨xs1, l1, _, b1⟩ := w1.lst
  clear hA0 hval0
  refine (walk W g0_0 f0_1 xs0_1 w0_1 b0_1 s0_2 ws0_2 g0_3 f0_4 xs0_4 w0_4 b0_4 s0_5 ws0_5 f0_6 xs0_6 w0_6 b0_6 g0_7 s0_8 ws0_8 s0_9 ws0_9 s0_10 ws0_10 s0_11 ws0_11 s0_12 ws0_12 s0_13 ws0_13 s0_14 ws0_14 g1 (.slice a1 len1 cap1) xs1 l1 b1 s1 (bounds_i64 ws1)).mono fun e W' ⟨he, bel⟩ => ?_
  subst he
  exact ⟨_, rfl, _, _, _, [], _, [], hW', trodAll_mk1 (shut_bool Try.underlying4 _), (trodAll_cons_mk (Below.trod laidOut (by kernel_rfl) (of_decide_eq_true (by kernel_rfl)) k0 bel lt0) (trodAll_cons_mk (Below.trod laidOut (by kernel_rfl) (of_decide_eq_true (by kernel_rfl)) k1 bel lt1) trodAll_mk0)), rfl, bel.below.frame _, fun h => by cases h⟩

/-- The statement. -/
theorem proved : Rows.ConfigFitsSaid :=
  OpenClaim.holds_of_wide 5 Try.f5 rfl rfl rfl rfl rfl rfl rfl ⟨rfl, rfl, rfl, rfl, rfl⟩ rfl rfl rfl rfl rfl (by kernel_rfl) Try.func5 (by kernel_rfl)
    (of_decide_eq_true (by kernel_rfl)) (by unfold Func.isWrapper; first | (rw [if_pos (by decide +kernel)]; kernel_rfl) | (rw [if_neg (by decide +kernel)]; exact ⟨rfl, rfl⟩))
    (fun os started H enc _ => lifted os started H enc)
#print axioms proved
end Go.Proofs.Yteljedefbomlgaa.configFits
