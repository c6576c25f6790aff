/- ConfigBounds: of whatever configuration (made one that may be), and whatever two decimals (their first 14 numbers made digits, their scales made 0 to 9), each value is no less than the least number, and no greater than the greatest one, and a greater number's value is no less; no conditions. -/
import Derived.Test.YteljedefbomlgaaRows
import Derived.WalkKit
import Derived.ProofKit
import Derived.OpenShut
import Derived.ShutString
import Derived.ChangeOld
import Derived.Below
import Derived.Lib.SmallJoins
import Derived.Test.YteljedefbomlgaaR00
import Derived.Test.YteljedefbomlgaaR02
import Derived.Test.YteljedefbomlgaaR03
import Derived.Test.YteljedefbomlgaaR01
import Derived.Test.YteljedefbomlgaaR08
import Derived.Test.YteljedefbomlgaaR10
import Derived.Test.YteljedefbomlgaaR12
import Derived.Test.YteljedefbomlgaaR06
import Derived.Test.YteljedefbomlgaaR13
import Derived.Test.YteljedefbomlgaaR23
import Derived.Test.YteljedefbomlgaaR30
import Derived.Test.YteljedefbomlgaaR26
import Derived.Test.YteljedefbomlgaaR27
import Derived.Test.YteljedefbomlgaaR37
import Derived.Test.YteljedefbomlgaaR38
import Derived.Test.YteljedefbomlgaaR39
import Derived.Test.YteljedefbomlgaaR40
import Derived.Test.YteljedefbomlgaaR42
import Derived.Test.YteljedefbomlgaaR49
import Derived.Test.YteljedefbomlgaaR41
import Derived.Test.YteljedefbomlgaaR43
import Derived.Test.YteljedefbomlgaaR50
import Derived.Test.YteljedefbomlgaaR46
import Derived.Test.YteljedefbomlgaaR51
import Derived.Test.YteljedefbomlgaaR32
import Derived.Test.YteljedefbomlgaaR44
set_option linter.unusedVariables false
set_option linter.unusedSimpArgs false
namespace Go.Proofs.Yteljedefbomlgaa.configBounds
open Go.ChangeShapes Go.WideShapes Go.ChangeAt Go.RowKit
open Go.ChangeMaps (open_string shut_string)

theorem own : ownKnob Try.prog.godebug = none := by kernel_rfl
theorem laidOut : laidOutB Try.prog = true := by kernel_rfl


set_option maxHeartbeats 8000000 in
set_option maxRecDepth 100000 in
theorem walk (w : World) (g0_0 : Bool) (f0_1 : Value) (xs0_1 : List Int) (w0_1 : Lst w f0_1 xs0_1) (b0_1 : ∀ n ∈ xs0_1, -9223372036854775808 ≤ n ∧ n ≤ 9223372036854775807) (s0_2 : Int) (ws0_2 : -9223372036854775808 ≤ s0_2 ∧ s0_2 ≤ 9223372036854775807) (g0_3 : Bool) (f0_4 : Value) (xs0_4 : List Int) (w0_4 : Lst w f0_4 xs0_4) (b0_4 : ∀ n ∈ xs0_4, -9223372036854775808 ≤ n ∧ n ≤ 9223372036854775807) (s0_5 : Int) (ws0_5 : -9223372036854775808 ≤ s0_5 ∧ s0_5 ≤ 9223372036854775807) (f0_6 : Value) (xs0_6 : List Int) (w0_6 : Lst w f0_6 xs0_6) (b0_6 : ∀ n ∈ xs0_6, -9223372036854775808 ≤ n ∧ n ≤ 9223372036854775807) (g0_7 : Bool) (s0_8 : Int) (ws0_8 : -9223372036854775808 ≤ s0_8 ∧ s0_8 ≤ 9223372036854775807) (s0_9 : Int) (ws0_9 : -9223372036854775808 ≤ s0_9 ∧ s0_9 ≤ 9223372036854775807) (s0_10 : Int) (ws0_10 : -9223372036854775808 ≤ s0_10 ∧ s0_10 ≤ 9223372036854775807) (s0_11 : Int) (ws0_11 : -9223372036854775808 ≤ s0_11 ∧ s0_11 ≤ 9223372036854775807) (s0_12 : Int) (ws0_12 : -9223372036854775808 ≤ s0_12 ∧ s0_12 ≤ 9223372036854775807) (s0_13 : Int) (ws0_13 : -9223372036854775808 ≤ s0_13 ∧ s0_13 ≤ 9223372036854775807) (s0_14 : Int) (ws0_14 : -9223372036854775808 ≤ s0_14 ∧ s0_14 ≤ 9223372036854775807) (g1 : Bool) (v1 : Value) (xs1 : List Int) (w1 : Lst w v1 xs1) (b1 : ∀ n ∈ xs1, -9223372036854775808 ≤ n ∧ n ≤ 9223372036854775807) (s1 : Int) (ws1 : -9223372036854775808 ≤ s1 ∧ s1 ≤ 9223372036854775807) (g2 : Bool) (v2 : Value) (xs2 : List Int) (w2 : Lst w v2 xs2) (b2 : ∀ n ∈ xs2, -9223372036854775808 ≤ n ∧ n ≤ 9223372036854775807) (s2 : Int) (ws2 : -9223372036854775808 ≤ s2 ∧ s2 ≤ 9223372036854775807) :
    Calls Try.prog 6 #[.agg #[.bool g0_0, f0_1, .int .i64 s0_2, .bool g0_3, f0_4, .int .i64 s0_5, f0_6, .bool g0_7, .int .i64 s0_8, .int .i64 s0_9, .int .i64 s0_10, .int .i64 s0_11, .int .i64 s0_12, .int .i64 s0_13, .int .i64 s0_14], .agg #[.bool g1, v1, .int .i64 s1], .agg #[.bool g2, v2, .int .i64 s2]] w fun e w' => e = .returned (.bool true) ∧ Q w w' := by
  obtain ⟨ga, gb, A, B, d, n0, n1, n2, n3, n4, n5, n6, hgk, hgd⟩ := Kl.start g0_0 g0_3 g0_7 f0_1 f0_4 f0_6 s0_2 s0_5 xs0_1 xs0_4 xs0_6 s0_8 s0_9 s0_10 s0_11 s0_12 s0_13 s0_14 w w0_1 w0_4 w0_6 b0_1 b0_4 b0_6 ws0_2 ws0_5 ws0_8 ws0_9 ws0_10 ws0_11 ws0_12 ws0_13 ws0_14
  obtain ⟨al, cl, rfl⟩ := w0_1.shape
  obtain ⟨ah, ch, rfl⟩ := w0_4.shape
  obtain ⟨az, cz, rfl⟩ := w0_6.shape
  obtain ⟨ll, hll⟩ : ∃ x, x = xs0_1.length := ⟨_, rfl⟩
  obtain ⟨lh, hlh⟩ : ∃ x, x = xs0_4.length := ⟨_, rfl⟩
  obtain ⟨lz, hlz⟩ : ∃ x, x = xs0_6.length := ⟨_, rfl⟩
  rw [← hll, ← hlh, ← hlz] at hgd ⊢
  clear w0_1 w0_4 w0_6 b0_1 b0_4 b0_6 ws0_2 ws0_5 ws0_8 ws0_9 ws0_10 ws0_11 ws0_12 ws0_13 ws0_14 hll hlh hlz
  have HGD := Lib.hid hgd
  have HRU := Lib.hid (fun u (q : Q w u) => Kr.rules_any g0_0 g0_3 g0_7 al ah az ll cl lh ch lz cz s0_2 s0_5 s0_8 s0_9 s0_10 s0_11 s0_12 s0_13 s0_14 u hgk (fun u' q' => hgd u' (q.trans q')))
  have HNW := Lib.hid (fun u => Kp.new_good hgk u)
  have HOF := Lib.hid (fun u => Kl.of_q (Dm.prt ga A n2) (Dm.prt gb B n2) (Dm.prt false [d] n2) n0 n1 n2 n3 n4 n5 n6 u)
  have HLI := Lib.hid Kl.lives_any
  have gle := hgk.le
  have gcl := hgk.cle
  have q1 := Km.dLo_s ga A n2
  have q2 := Km.dLo_s gb B n2
  have q3 := Km.dLo_s false [d] n2
  have p1 := Km.dLo_len ga A n2 hgk.a
  have p2 := Km.dLo_len gb B n2 hgk.b
  have p3 := Km.dLo_len false [d] n2 hgk.okd
  have tr1 := Km.dLo_tr ga A n2
  have tr2 := Km.dLo_tr gb B n2
  have z1 := Km.dLo_abs ga A n2 (n0 + n2) hgk.a hgk.al
  have z2 := Km.dLo_abs gb B n2 (n0 + n2) hgk.b hgk.bl
  have ng := Km.neg_cmp ga (Dm.num A) n2
  have ng2 : decide (Dm.cmpD (Km.dLo ga A n2).g (Km.dLo ga A n2).m (Km.dLo ga A n2).s false 0 0 < 0) = (Km.dLo ga A n2).g := ng
  have ma := hgk.al
  have mb := hgk.bl
  have m0 := hgk.m0
  have m1 := hgk.m1
  have m2 := hgk.m2
  have m5 := hgk.m5
  simp only [List.length_cons, List.length_nil] at p3
  clear hgd hgk ng
  generalize Km.dLo ga A n2 = lo at *
  generalize Km.dLo gb B n2 = hi at *
  generalize Km.dLo false [d] n2 = st at *
  generalize Dm.prt ga A n2 = t0 at *
  generalize Dm.prt gb B n2 = t1 at *
  generalize Dm.prt false [d] n2 = t2 at *
  have p1' : (Dm.dg lo.m).length ≤ 13 := by omega
  have p2' : (Dm.dg hi.m).length ≤ 13 := by omega
  have p3' : (Dm.dg st.m).length ≤ 13 := by omega
  have lb : n2 ≤ 5 := by omega
  clear p1 p2 p3 ma mb m1 m2
  obtain ⟨A1, C1, rfl, hca1, hcb1⟩ := w1.shape2
  obtain ⟨l1, hl1⟩ : ∃ x, x = xs1.length := ⟨_, rfl⟩
  rw [← hl1] at hca1 ⊢
  have w1' : Lst w (.slice A1 l1 C1) xs1 := by rw [hl1]; exact w1
  obtain ⟨tz1, htz1⟩ : ∃ t : Nat, Um.around s1 10 = (t : Int) := ⟨(Um.around s1 10).toNat, by have := Um.around_bd s1 10 (by omega); omega⟩
  have tb1 : tz1 ≤ 9 := by have := Um.around_bd s1 10 (by omega); omega
  have xl1 := Dm.gdL_len xs1 14
  have xk1 := Dm.gdL_ok xs1 14
  obtain ⟨xn1, hxn1⟩ : ∃ x, (Dm.gdL xs1 14).length = x := ⟨_, rfl⟩
  have HX1 := Lib.hid (fun u (q : Q w u) => Ep.good_sh u g1 A1 l1 C1 s1 xs1 14 (w1'.q q) hl1.symm ws1 (by omega) b1 tz1 xn1 htz1 hxn1)
  rw [hxn1] at xl1
  have xb1 : xn1 ≤ 14 := by omega
  generalize Dm.gdL xs1 14 = X1 at *
  clear w1 htz1 xl1
  obtain ⟨A2, C2, rfl, hca2, hcb2⟩ := w2.shape2
  obtain ⟨l2, hl2⟩ : ∃ x, x = xs2.length := ⟨_, rfl⟩
  rw [← hl2] at hca2 ⊢
  have w2' : Lst w (.slice A2 l2 C2) xs2 := by rw [hl2]; exact w2
  obtain ⟨tz2, htz2⟩ : ∃ t : Nat, Um.around s2 10 = (t : Int) := ⟨(Um.around s2 10).toNat, by have := Um.around_bd s2 10 (by omega); omega⟩
  have tb2 : tz2 ≤ 9 := by have := Um.around_bd s2 10 (by omega); omega
  have xl2 := Dm.gdL_len xs2 14
  have xk2 := Dm.gdL_ok xs2 14
  obtain ⟨xn2, hxn2⟩ : ∃ x, (Dm.gdL xs2 14).length = x := ⟨_, rfl⟩
  have HX2 := Lib.hid (fun u (q : Q w u) => Ep.good_sh u g2 A2 l2 C2 s2 xs2 14 (w2'.q q) hl2.symm ws2 (by omega) b2 tz2 xn2 htz2 hxn2)
  rw [hxn2] at xl2
  have xb2 : xn2 ≤ 14 := by omega
  generalize Dm.gdL xs2 14 = X2 at *
  clear w2 htz2 xl2
  obtain ⟨V1, hV1⟩ : ∃ V, V = Km.val lo hi n2 n5 ⟨g1, Dm.num X1, tz1⟩ := ⟨_, rfl⟩
  have vb1 := Km.val_len lo hi ⟨g1, Dm.num X1, tz1⟩ n2 (n0 + n2) n5 q1 q2 gle z1 z2
  rw [← hV1] at vb1
  obtain ⟨vl1, hvl1⟩ : ∃ x, x = (Dm.dg V1.m).length := ⟨_, rfl⟩
  have HV1 := Lib.hid (fun u a1 a2 a3 a c1 c2 c3 c sg h1 h2 hv => Kl.p_val lo hi st sg g1 a1 a2 a3 a (Dm.dg lo.m).length (Dm.dg hi.m).length (Dm.dg st.m).length c1 c2 c3 c xn1 tz1 n2 n5 n0 n1 n3 n4 n6 X1 u h1 h2 hv (by omega) (by omega) (by omega) xk1 (by omega) (by omega) (by omega) (by omega) (by omega) gcl V1 hV1 vl1 hvl1.symm)
  obtain ⟨V2, hV2⟩ : ∃ V, V = Km.val lo hi n2 n5 ⟨g2, Dm.num X2, tz2⟩ := ⟨_, rfl⟩
  have vb2 := Km.val_len lo hi ⟨g2, Dm.num X2, tz2⟩ n2 (n0 + n2) n5 q1 q2 gle z1 z2
  rw [← hV2] at vb2
  obtain ⟨vl2, hvl2⟩ : ∃ x, x = (Dm.dg V2.m).length := ⟨_, rfl⟩
  have HV2 := Lib.hid (fun u a1 a2 a3 a c1 c2 c3 c sg h1 h2 hv => Kl.p_val lo hi st sg g2 a1 a2 a3 a (Dm.dg lo.m).length (Dm.dg hi.m).length (Dm.dg st.m).length c1 c2 c3 c xn2 tz2 n2 n5 n0 n1 n3 n4 n6 X2 u h1 h2 hv (by omega) (by omega) (by omega) xk2 (by omega) (by omega) (by omega) (by omega) (by omega) gcl V2 hV2 vl2 hvl2.symm)
  have b1 := Km.val_low lo hi ⟨g1, Dm.num X1, tz1⟩ n2 n5 q1 q2 gle
  rw [← hV1] at b1
  have b2 := Km.val_row lo hi ⟨g1, Dm.num X1, tz1⟩ ⟨g2, Dm.num X2, tz2⟩ n2 n5 q1 q2 gle
  rw [← hV1, ← hV2] at b2
  have HCL := Lib.hid (fun u a c b e (h : Lst u (.slice a vl1 c) (Dm.dg V1.m)) (h2 : Lst u (.slice b (Dm.dg lo.m).length e) (Dm.dg lo.m)) => by
    have k := Er.compare_any V1.g lo.g (.slice a vl1 c) (.slice b (Dm.dg lo.m).length e) V1.s lo.s (Dm.dg V1.m) (Dm.dg lo.m) u h h2 (by omega) (by omega) (Dm.okD_dg _) (Dm.okD_dg _) (by omega) (by omega)
    rw [Dm.num_dg, Dm.num_dg] at k
    exact k)
  have HCH := Lib.hid (fun u a c b e (h : Lst u (.slice a vl1 c) (Dm.dg V1.m)) (h2 : Lst u (.slice b (Dm.dg hi.m).length e) (Dm.dg hi.m)) => by
    have k := Er.compare_any V1.g hi.g (.slice a vl1 c) (.slice b (Dm.dg hi.m).length e) V1.s hi.s (Dm.dg V1.m) (Dm.dg hi.m) u h h2 (by omega) (by omega) (Dm.okD_dg _) (Dm.okD_dg _) (by omega) (by omega)
    rw [Dm.num_dg, Dm.num_dg] at k
    exact k)
  have HCP := Lib.hid (fun u a c b e (h : Lst u (.slice a vl1 c) (Dm.dg V1.m)) (h2 : Lst u (.slice b vl2 e) (Dm.dg V2.m)) => by
    have k := Er.compare_any V1.g V2.g (.slice a vl1 c) (.slice b vl2 e) V1.s V2.s (Dm.dg V1.m) (Dm.dg V2.m) u h h2 (by omega) (by omega) (Dm.okD_dg _) (Dm.okD_dg _) (by omega) (by omega)
    rw [Dm.num_dg, Dm.num_dg] at k
    exact k)
  have hx1 : X1.length = xn1 := hxn1
  have hx2 : X2.length = xn2 := hxn2
  have HCX := Lib.hid (fun u a c b e (h : Lst u (.slice a xn1 c) X1) (h2 : Lst u (.slice b xn2 e) X2) => Er.compare_any g1 g2 (.slice a xn1 c) (.slice b xn2 e) tz1 tz2 X1 X2 u h h2 (by omega) (by omega) xk1 xk2 (by omega) (by omega))
  unfold Km.cmp at b1 b2
  obtain ⟨kl, hkl⟩ : ∃ k, k = Dm.cmpD V1.g V1.m V1.s lo.g lo.m lo.s := ⟨_, rfl⟩
  obtain ⟨kh, hkh⟩ : ∃ k, k = Dm.cmpD V1.g V1.m V1.s hi.g hi.m hi.s := ⟨_, rfl⟩
  obtain ⟨kp, hkp⟩ : ∃ k, k = Dm.cmpD V1.g V1.m V1.s V2.g V2.m V2.s := ⟨_, rfl⟩
  obtain ⟨kx, hkx⟩ : ∃ k, k = Dm.cmpD g1 (Dm.num X1) tz1 g2 (Dm.num X2) tz2 := ⟨_, rfl⟩
  simp only at b1 b2
  rw [← hkl, ← hkh] at b1
  rw [← hkx, ← hkp] at b2
  rw [← hkl] at HCL
  rw [← hkh] at HCH
  rw [← hkp] at HCP
  rw [← hkx] at HCX
  have HB2 := Lib.hid b2
  have kl0 : 0 ≤ kl := b1.1
  have kh0 : kh ≤ 0 := b1.2
  unfold Er.dv at HCL HCH HCP HCX
  clear b1 b2 hkl hkh hkp hkx hV1 hV2 hvl1 hvl2 vb1 vb2 hxn1 hxn2 hx1 hx2 gle gcl q1 q2 q3 tr1 tr2 z1 z2 p1' p2' p3' lb m0 m5 ng2 xk1 xk2 tb1 tb2 xb1 xb2 hca1 hcb1 hca2 hcb2 w1' w2' hl1 hl2 ws1 ws2
  try clear b1 b2
  obtain ⟨sg, hsg⟩ : ∃ x, x = lo.g := ⟨_, rfl⟩
  have HSG := Lib.hid hsg
  have hx1 : ∀ u, Calls Try.prog 8 #[.agg #[.string t0, .string t1, .string t2, .int .i64 n0, .int .i64 n1, .int .i64 n2, .int .i64 n3, .int .i64 n4, .int .i64 n5, .int .i64 n6]] u fun e w' => ∃ R, e = .returned (.tuple #[R, .nilIface]) ∧ Kr.RuV 0 w' R lo hi st sg n0 n1 n2 n3 n4 n5 n6 ∧ Q u w' := by rw [hsg]; exact HNW.out
  have hx2 : ∀ u, Q w u → Calls Try.prog 11 #[.agg #[.bool g0_0, .slice al ll cl, .int .i64 s0_2, .bool g0_3, .slice ah lh ch, .int .i64 s0_5, .slice az lz cz, .bool g0_7, .int .i64 s0_8, .int .i64 s0_9, .int .i64 s0_10, .int .i64 s0_11, .int .i64 s0_12, .int .i64 s0_13, .int .i64 s0_14]] u fun e w' => ∃ R, e = .returned R ∧ Kr.RuV u.heap.size w' R lo hi st sg n0 n1 n2 n3 n4 n5 n6 ∧ Q u w' := by rw [hsg]; exact HRU.out
  replace HNW := Lib.hid hx1
  replace HRU := Lib.hid hx2
  clear hx1 hx2 hsg
  obtain ⟨k1, hk1⟩ : ∃ x, x = (Dm.dg lo.m).length := ⟨_, rfl⟩
  obtain ⟨k2, hk2⟩ : ∃ x, x = (Dm.dg hi.m).length := ⟨_, rfl⟩
  obtain ⟨k3, hk3⟩ : ∃ x, x = (Dm.dg st.m).length := ⟨_, rfl⟩
  have HK := Lib.hid (⟨hk1.symm, hk2.symm, hk3.symm⟩ : _ ∧ _ ∧ _)
  clear hk1 hk2 hk3
  rw [HK.out.1, HK.out.2.1, HK.out.2.2] at HV1 HV2
  rw [HK.out.1] at HCL
  rw [HK.out.2.1] at HCH
  obtain ⟨y0, hy0⟩ : ∃ y, y = w.alloc (.cells #[.bool g0_0, .slice al ll cl, .int .i64 s0_2, .bool g0_3, .slice ah lh ch, .int .i64 s0_5, .slice az lz cz, .bool g0_7, .int .i64 s0_8, .int .i64 s0_9, .int .i64 s0_10, .int .i64 s0_11, .int .i64 s0_12, .int .i64 s0_13, .int .i64 s0_14] 28) := ⟨_, rfl⟩
  have hq0 : Q w y0 := by rw [hy0]; exact (Q.refl w).alloc _
  have hbg : Bk y0 w.heap.size 28 [.bool g0_0, .slice al ll cl, .int .i64 s0_2, .bool g0_3, .slice ah lh ch, .int .i64 s0_5, .slice az lz cz, .bool g0_7, .int .i64 s0_8, .int .i64 s0_9, .int .i64 s0_10, .int .i64 s0_11, .int .i64 s0_12, .int .i64 s0_13, .int .i64 s0_14] := by rw [hy0]; exact Bk.new _ _ _
  have hs0 : y0.heap.size = w.heap.size + 1 := by rw [hy0]; simp
  have HQ := Lib.hid hq0
  have HG := Lib.hid hbg
  clear hq0 hbg
  obtain ⟨y1, hy1⟩ : ∃ y, y = y0.alloc (.cells #[.bool g1, .slice A1 l1 C1, .int .i64 s1] 24) := ⟨_, rfl⟩
  have hq : Q y0 y1 := by rw [hy1]; exact (Q.refl _).alloc _
  have hb : Bk y1 (w.heap.size + 1) 24 [.bool g1, .slice A1 l1 C1, .int .i64 s1] := by rw [hy1, ← hs0]; exact Bk.new _ _ _
  have hs1 : y1.heap.size = w.heap.size + 1 + 1 := by rw [hy1]; simp; omega
  replace HQ := Lib.hid (Q.trans HQ.out hq)
  replace HG := Lib.hid (Bk.q HG.out hq)
  have HA := Lib.hid hb
  clear hq hb
  obtain ⟨y2, hy2⟩ : ∃ y, y = y1.alloc (.cells #[.bool g2, .slice A2 l2 C2, .int .i64 s2] 24) := ⟨_, rfl⟩
  have hq : Q y1 y2 := by rw [hy2]; exact (Q.refl _).alloc _
  have hb : Bk y2 (w.heap.size + 1 + 1) 24 [.bool g2, .slice A2 l2 C2, .int .i64 s2] := by rw [hy2, ← hs1]; exact Bk.new _ _ _
  have hs2 : y2.heap.size = w.heap.size + 1 + 1 + 1 := by rw [hy2]; simp; omega
  replace HQ := Lib.hid (Q.trans HQ.out hq)
  replace HG := Lib.hid (Bk.q HG.out hq)
  replace HA := Lib.hid (Bk.q HA.out hq)
  have HB := Lib.hid hb
  clear hq hb
  go_enter Try.func6, Try.ntmps6
  go_upto_region 1 with fail
  first | rw [← hy0, ← hy1, ← hy2] | (rw [hy0] at hy1; rw [hy1] at hy2; rw [← hy2])
  clear hy0 hy1 hy2 hs0 hs1 hs2
  go_wp2_with (refine wpList_load_row (by rfl) 28 _ (by rfl) (w.heap.size) (by rfl) 28 #[.bool g0_0, .slice al ll cl, .int .i64 s0_2, .bool g0_3, .slice ah lh ch, .int .i64 s0_5, .slice az lz cz, .bool g0_7, .int .i64 s0_8, .int .i64 s0_9, .int .i64 s0_10, .int .i64 s0_11, .int .i64 s0_12, .int .i64 s0_13, .int .i64 s0_14] (0, 0) _ HG.out Try.underlying28 rfl (by exact Kr.infoG) ?_)
  refine (HGD.out _ HQ.out).mono ?_
  rintro e v1 ⟨rfl, hq⟩
  replace HQ := Lib.hid (Q.trans HQ.out hq)
  replace HG := Lib.hid (Bk.q HG.out hq)
  replace HA := Lib.hid (Bk.q HA.out hq)
  replace HB := Lib.hid (Bk.q HB.out hq)
  clear hq
  go_wp2_with fail
  refine (HOF.out _).mono ?_
  rintro e v2 ⟨rfl, hq⟩
  replace HQ := Lib.hid (Q.trans HQ.out hq)
  replace HG := Lib.hid (Bk.q HG.out hq)
  replace HA := Lib.hid (Bk.q HA.out hq)
  replace HB := Lib.hid (Bk.q HB.out hq)
  clear hq
  go_wp2_with fail
  refine (HNW.out _).mono ?_
  rintro e v3 ⟨Rv, rfl, ⟨a1, c1, a2, c2, a3, c3, rfl, l1, l2, l3⟩, hq⟩
  rw [HK.out.1] at l1 ⊢
  rw [HK.out.2.1] at l2 ⊢
  rw [HK.out.2.2] at l3 ⊢
  replace HQ := Lib.hid (Q.trans HQ.out hq)
  replace HG := Lib.hid (Bk.q HG.out hq)
  replace HA := Lib.hid (Bk.q HA.out hq)
  replace HB := Lib.hid (Bk.q HB.out hq)
  obtain ⟨v4, hv4⟩ : ∃ y, y = v3.alloc (.cells #[.bool lo.g, .slice a1 k1 c1, .int .i64 (lo.s : Nat), .bool hi.g, .slice a2 k2 c2, .int .i64 (hi.s : Nat), .bool st.g, .slice a3 k3 c3, .int .i64 (st.s : Nat), .bool sg, .int .i64 n0, .int .i64 n1, .int .i64 n2, .int .i64 n3, .int .i64 n4, .int .i64 n5, .int .i64 n6] 32) := ⟨_, rfl⟩
  have hqb : Q v3 v4 := by rw [hv4]; exact (Q.refl _).alloc _
  have hbx : Bk v4 v3.heap.size 32 [.bool lo.g, .slice a1 k1 c1, .int .i64 (lo.s : Nat), .bool hi.g, .slice a2 k2 c2, .int .i64 (hi.s : Nat), .bool st.g, .slice a3 k3 c3, .int .i64 (st.s : Nat), .bool sg, .int .i64 n0, .int .i64 n1, .int .i64 n2, .int .i64 n3, .int .i64 n4, .int .i64 n5, .int .i64 n6] := by rw [hv4]; exact Bk.new _ _ _
  obtain ⟨bR, hbR⟩ : ∃ b, b = v3.heap.size := ⟨_, rfl⟩
  rw [← hbR] at hbx
  replace HQ := Lib.hid (Q.trans HQ.out hqb)
  replace HG := Lib.hid (Bk.q HG.out hqb)
  replace HA := Lib.hid (Bk.q HA.out hqb)
  replace HB := Lib.hid (Bk.q HB.out hqb)
  have HR := Lib.hid hbx
  have HL1 := Lib.hid (l1.lst.q hqb)
  have HL2 := Lib.hid (l2.lst.q hqb)
  have HL3 := Lib.hid (l3.lst.q hqb)
  clear hq hqb hbx l1 l2 l3
  go_upto_region 4 with fail
  rw [← hv4, ← hbR]
  clear hv4 hbR
  clear HG
  have hdd := HA.out
  have d0 := hdd.cell 0 rfl
  have d1 := hdd.cell 1 rfl
  have d2 := hdd.cell 2 rfl
  clear hdd
  go_wp2_with fail
  refine (HX1.out _ HQ.out).mono ?_
  rintro e v5 ⟨aX, cX, rfl, hlx, hq⟩
  clear d0 d1 d2
  replace HQ := Lib.hid (Q.trans HQ.out hq)
  replace HA := Lib.hid (Bk.q HA.out hq)
  replace HB := Lib.hid (Bk.q HB.out hq)
  replace HR := Lib.hid (Bk.q HR.out hq)
  replace HL1 := Lib.hid (Lst.q HL1.out hq)
  replace HL2 := Lib.hid (Lst.q HL2.out hq)
  replace HL3 := Lib.hid (Lst.q HL3.out hq)
  obtain ⟨v6, hv6⟩ : ∃ y, y = v5.alloc (.cells #[.bool g1, .slice aX xn1 cX, .int .i64 (tz1 : Nat)] 24) := ⟨_, rfl⟩
  have hqb : Q v5 v6 := by rw [hv6]; exact (Q.refl _).alloc _
  have hbx : Bk v6 v5.heap.size 24 [.bool g1, .slice aX xn1 cX, .int .i64 (tz1 : Nat)] := by rw [hv6]; exact Bk.new _ _ _
  obtain ⟨bX, hbX⟩ : ∃ b, b = v5.heap.size := ⟨_, rfl⟩
  rw [← hbX] at hbx
  replace HQ := Lib.hid (Q.trans HQ.out hqb)
  replace HA := Lib.hid (Bk.q HA.out hqb)
  replace HB := Lib.hid (Bk.q HB.out hqb)
  replace HR := Lib.hid (Bk.q HR.out hqb)
  replace HL1 := Lib.hid (Lst.q HL1.out hqb)
  replace HL2 := Lib.hid (Lst.q HL2.out hqb)
  replace HL3 := Lib.hid (Lst.q HL3.out hqb)
  have HBX := Lib.hid hbx
  have HLX := Lib.hid (hlx.q hqb)
  clear hq hqb hbx hlx
  go_upto_region 5 with fail
  rw [← hv6, ← hbX]
  clear hv6 hbX
  have hdd := HB.out
  have d0 := hdd.cell 0 rfl
  have d1 := hdd.cell 1 rfl
  have d2 := hdd.cell 2 rfl
  clear hdd
  go_wp2_with fail
  refine (HX2.out _ HQ.out).mono ?_
  rintro e v7 ⟨aY, cY, rfl, hlx, hq⟩
  clear d0 d1 d2
  replace HQ := Lib.hid (Q.trans HQ.out hq)
  replace HA := Lib.hid (Bk.q HA.out hq)
  replace HB := Lib.hid (Bk.q HB.out hq)
  replace HR := Lib.hid (Bk.q HR.out hq)
  replace HL1 := Lib.hid (Lst.q HL1.out hq)
  replace HL2 := Lib.hid (Lst.q HL2.out hq)
  replace HL3 := Lib.hid (Lst.q HL3.out hq)
  replace HBX := Lib.hid (Bk.q HBX.out hq)
  replace HLX := Lib.hid (Lst.q HLX.out hq)
  obtain ⟨v8, hv8⟩ : ∃ y, y = v7.alloc (.cells #[.bool g2, .slice aY xn2 cY, .int .i64 (tz2 : Nat)] 24) := ⟨_, rfl⟩
  have hqb : Q v7 v8 := by rw [hv8]; exact (Q.refl _).alloc _
  have hbx : Bk v8 v7.heap.size 24 [.bool g2, .slice aY xn2 cY, .int .i64 (tz2 : Nat)] := by rw [hv8]; exact Bk.new _ _ _
  obtain ⟨bY, hbY⟩ : ∃ b, b = v7.heap.size := ⟨_, rfl⟩
  rw [← hbY] at hbx
  replace HQ := Lib.hid (Q.trans HQ.out hqb)
  replace HA := Lib.hid (Bk.q HA.out hqb)
  replace HB := Lib.hid (Bk.q HB.out hqb)
  replace HR := Lib.hid (Bk.q HR.out hqb)
  replace HL1 := Lib.hid (Lst.q HL1.out hqb)
  replace HL2 := Lib.hid (Lst.q HL2.out hqb)
  replace HL3 := Lib.hid (Lst.q HL3.out hqb)
  replace HBX := Lib.hid (Bk.q HBX.out hqb)
  replace HLX := Lib.hid (Lst.q HLX.out hqb)
  have HBY := Lib.hid hbx
  have HLY := Lib.hid (hlx.q hqb)
  clear hq hqb hbx hlx
  go_upto_region 6 with fail
  rw [← hv8, ← hbY]
  clear hv8 hbY
  clear HA HB
  go_cut [11, 12] (fun p e wx => ∃ b a c, p = .pointer (some ⟨b, 0, none⟩) ∧ e = .int .i64 0 ∧ Bk wx b 29 [.bool V1.g, .slice a vl1 c, .int .i64 (V1.s : Nat)] ∧ Lst wx (.slice a vl1 c) (Dm.dg V1.m) ∧ Q v8 wx)
  case first =>
    refine wp_region_held_drew (S := fun u => Q v8 u) (by kernel_rfl) (by exact (Q.refl v8).drew) (fun hHeld => ?_)
    have hS : Q v8 v8.drew := hHeld
    clear hHeld
    have hq : Q v8 v8.drew := (Q.refl _).drew
    clear hq
    generalize v8.drew = yR1x0 at *
    change wpAnyH _ _ _ _ _ _ #[ff,ff,ff,ff,ff,ff,ff,ff,ff,ff] _ _
    refine wpAnyH_take (i := 0) (v := ?vR1x1) (by (try simp only [gA, gB, gC]); rfl) (by kernel_rfl) (by kernel_rfl) (by kernel_rfl) (by exact fun _ _ _ h => h) (Or.inl ⟨by first | kernel_rfl | rfl, ?hyR1x1⟩) (by exact hS) ?rsR1x1
    case hyR1x1 => (intro uz hSw; (try dsimp only at hSw); refine ld_row (x := .tmp 7) ?_ ?_ (Bk.q HR.out hSw) Try.underlying32 (by exact Kp.infoRp) <;> rfl)
    try simp only [Act.put, sA, sB, sC]
    change wpAnyH _ _ _ _ _ _ #[tt,ff,ff,ff,ff,ff,ff,ff,ff,ff] _ _
    refine wpAnyH_take (i := 1) (v := ?vR1x2) (by (try simp only [gA, gB, gC]); rfl) (by kernel_rfl) (by kernel_rfl) (by kernel_rfl) (by exact fun _ _ _ h => h) (Or.inl ⟨by first | kernel_rfl | rfl, ?hyR1x2⟩) (by exact hS) ?rsR1x2
    case hyR1x2 => (intro uz hSw; (try dsimp only at hSw); have hxx := HBX.out.q hSw; have d0 := hxx.cell 0 rfl; have d1 := hxx.cell 1 rfl; have d2 := hxx.cell 2 rfl; clear hxx; go_simp; try with_reducible rfl)
    try simp only [Act.put, sA, sB, sC]
    change wpAnyH _ _ _ _ _ _ #[tt,tt,ff,ff,ff,ff,ff,ff,ff,ff] _ _
    refine wpAnyH_ready (rs := [2, 7]) (by kernel_rfl) (by simp) ?_
    refine (AllReadyH.cons (by (try simp only [gA, gB, gC]); rfl) (fun K hK => ?_) (AllReadyH.cons (by (try simp only [gA, gB, gC]); rfl) (fun K hK => ?_) AllReadyH.nil))
    · go_simp
      refine (Kl.dec_q _ _ _ _ _ _).mono ?_
      rintro e yR1x3 ⟨rfl, hq⟩
      try (go_wp2_with fail)
      have hS2 := Q.trans hS hq
      refine hK.out _ _ (by exact hS2) (fun hHeld => ?_)
      clear hK K hHeld hS hq
      have hS := hS2
      clear hS2
      try simp only [Act.put, sA, sB, sC]
      change wpAnyH _ _ _ _ _ _ #[tt,tt,tt,ff,ff,ff,ff,ff,ff,ff] _ _
      refine wpAnyH_ready (rs := [3, 7]) (by kernel_rfl) (by simp) ?_
      refine (AllReadyH.cons (by (try simp only [gA, gB, gC]); rfl) (fun K hK => ?_) (AllReadyH.cons (by (try simp only [gA, gB, gC]); rfl) (fun K hK => ?_) AllReadyH.nil))
      · go_simp
        refine (HV1.out _ _ _ _ _ _ _ _ _ _ (HL1.out.q hS) (HL2.out.q hS) (HLX.out.q hS)).mono ?_
        rintro e yR1x4 ⟨ua, uc, rfl, hlf, hq⟩
        have HQL := Lib.hid hlf.lst
        clear hlf
        try (go_wp2_with fail)
        have hS2 := Q.trans hS hq
        refine hK.out _ _ (by exact hS2) (fun hHeld => ?_)
        clear hK K hHeld hS hq
        have hS := hS2
        clear hS2
        try simp only [Act.put, sA, sB, sC]
        change wpAnyH _ _ _ _ _ _ #[tt,tt,tt,tt,ff,ff,ff,ff,ff,ff] _ _
        refine wpAnyH_take (i := 4) (v := ?vR1x5) (by (try simp only [gA, gB, gC]); rfl) (by kernel_rfl) (by kernel_rfl) (by kernel_rfl) (by exact fun _ _ _ h => h) (Or.inl ⟨by first | kernel_rfl | rfl, ?hyR1x5⟩) (by exact hS) ?rsR1x5
        case hyR1x5 => (intro uz hSw; (try dsimp only at hSw); go_simp; try with_reducible rfl)
        try simp only [Act.put, sA, sB, sC]
        change wpAnyH _ _ _ _ _ _ #[tt,tt,tt,tt,tt,ff,ff,ff,ff,ff] _ _
        refine wpAnyH_take (i := 5) (v := ?vR1x6) (by (try simp only [gA, gB, gC]); rfl) (by kernel_rfl) (by kernel_rfl) (by kernel_rfl) (by exact fun _ _ _ h => h) (Or.inl ⟨by first | kernel_rfl | rfl, ?hyR1x6⟩) (by exact hS) ?rsR1x6
        case hyR1x6 => (intro uz hSw; (try dsimp only at hSw); go_simp; try with_reducible rfl)
        try simp only [Act.put, sA, sB, sC]
        change wpAnyH _ _ _ _ _ _ #[tt,tt,tt,tt,tt,tt,ff,ff,ff,ff] _ _
        refine wpAnyH_take (i := 6) (v := ?vR1x7) (by (try simp only [gA, gB, gC]); rfl) (by kernel_rfl) (by kernel_rfl) (by kernel_rfl) (by exact fun _ _ _ h => h) (Or.inl ⟨by first | kernel_rfl | rfl, ?hyR1x7⟩) (by exact hS) ?rsR1x7
        case hyR1x7 => (intro uz hSw; (try dsimp only at hSw); go_simp; try with_reducible rfl)
        try simp only [Act.put, sA, sB, sC]
        change wpAnyH _ _ _ _ _ _ #[tt,tt,tt,tt,tt,tt,tt,ff,ff,ff] _ _
        refine wpAnyH_ready (rs := [7]) (by kernel_rfl) (by simp) ?_
        refine (AllReadyH.cons (by (try simp only [gA, gB, gC]); rfl) (fun K hK => ?_) AllReadyH.nil)
        go_simp
        have HQN := Lib.hid (Kr.Ap.new HQL.out (Nat.le_refl _))
        have hq := (Q.refl yR1x4).alloc (.cells #[.bool false, .slice none 0 0, .int .i64 0] 29)
        have HBX := Lib.hid (Bk.new yR1x4 29 [.bool false, .slice none 0 0, .int .i64 0])
        have HW_bX := Lib.hid (Q.le hS)
        have HQL := Lib.hid (Lst.q HQL.out hq)
        have hS2 := Q.trans hS hq
        refine hK.out _ _ (by exact hS2) (fun hHeld => ?_)
        clear hK K hHeld hS hq
        have hS := hS2
        clear hS2
        generalize yR1x4.alloc (.cells #[.bool false, .slice none 0 0, .int .i64 0] 29) = yR1x8 at *
        generalize yR1x4.heap.size = bX at *
        try simp only [Act.put, sA, sB, sC]
        change wpAnyH _ _ _ _ _ _ #[tt,tt,tt,tt,tt,tt,tt,tt,ff,ff] _ _
        refine wpAnyH_ready (rs := [8]) (by kernel_rfl) (by simp) ?_
        refine (AllReadyH.cons (by (try simp only [gA, gB, gC]); rfl) (fun K hK => ?_) AllReadyH.nil)
        have b0 := HBX.out.cell 0 rfl
        have f0 := HBX.out.free 0
        have b1 := HBX.out.cell 1 rfl
        have f1 := HBX.out.free 1
        have b2 := HBX.out.cell 2 rfl
        have f2 := HBX.out.free 2
        go_simp
        have hS2 := (Q.setCell (Q.setCell (Q.setCell hS (ad := ⟨bX, 0, none⟩) HW_bX.out (.bool V1.g)) (ad := ⟨bX, 1, none⟩) HW_bX.out (.slice ua vl1 uc)) (ad := ⟨bX, 2, none⟩) HW_bX.out (.int .i64 (V1.s : Nat)))
        replace HBX := Lib.hid (((HBX.out.set 0 (.bool V1.g)).set 1 (.slice ua vl1 uc)).set 2 (.int .i64 (V1.s : Nat)))
        replace HQL := Lib.hid (Lst.setCell ((Lst.setCell ((Lst.setCell (HQL.out) (ad := ⟨bX, 0, none⟩) (.bool V1.g) HQN.out)) (ad := ⟨bX, 1, none⟩) (.slice ua vl1 uc) HQN.out)) (ad := ⟨bX, 2, none⟩) (.int .i64 (V1.s : Nat)) HQN.out)
        refine hK.out _ _ (by exact hS2) (fun hHeld => ?_)
        clear hK K hHeld hS
        have hS := hS2
        clear hS2 b0 f0 b1 f1 b2 f2
        generalize (((yR1x8.setCell ⟨bX, 0, none⟩ (.bool V1.g)).setCell ⟨bX, 1, none⟩ (.slice ua vl1 uc)).setCell ⟨bX, 2, none⟩ (.int .i64 (V1.s : Nat))) = yR1x9 at *
        try simp only [Act.put, sA, sB, sC]
        change wpAnyH _ _ _ _ _ _ #[tt,tt,tt,tt,tt,tt,tt,tt,tt,ff] _ _
        refine wpAnyH_take (i := 9) (v := ?vR1x10) (by (try simp only [gA, gB, gC]); rfl) (by kernel_rfl) (by kernel_rfl) (by kernel_rfl) (by exact fun _ _ _ h => h) (Or.inl ⟨by first | kernel_rfl | rfl, ?hyR1x10⟩) (by exact hS) ?rsR1x10
        case hyR1x10 => (intro uz hSw; (try dsimp only at hSw); go_simp; try with_reducible rfl)
        try simp only [Act.put, sA, sB, sC]
        change wpAnyH _ _ _ _ _ _ #[tt,tt,tt,tt,tt,tt,tt,tt,tt,tt] _ _
        refine wpAnyH_done (by kernel_rfl) ?_ _
        go_wp2_with fail
        go_meet
        exact ⟨bX, ua, uc, rfl, rfl, HBX.out, HQL.out, hS⟩
      · go_simp
        have hq := (Q.refl yR1x3).alloc (.cells #[.bool false, .slice none 0 0, .int .i64 0] 29)
        have HBX := Lib.hid (Bk.new yR1x3 29 [.bool false, .slice none 0 0, .int .i64 0])
        have HW_bX := Lib.hid (Q.le hS)
        have hS2 := Q.trans hS hq
        refine hK.out _ _ (by exact hS2) (fun hHeld => ?_)
        clear hK K hHeld hS hq
        have hS := hS2
        clear hS2
        generalize yR1x3.alloc (.cells #[.bool false, .slice none 0 0, .int .i64 0] 29) = yR1x11 at *
        generalize yR1x3.heap.size = bX at *
        try simp only [Act.put, sA, sB, sC]
        change wpAnyH _ _ _ _ _ _ #[tt,tt,tt,ff,ff,ff,ff,tt,ff,ff] _ _
        refine wpAnyH_ready (rs := [3]) (by kernel_rfl) (by simp) ?_
        refine (AllReadyH.cons (by (try simp only [gA, gB, gC]); rfl) (fun K hK => ?_) AllReadyH.nil)
        go_simp
        refine (HV1.out _ _ _ _ _ _ _ _ _ _ (HL1.out.q hS) (HL2.out.q hS) (HLX.out.q hS)).mono ?_
        rintro e yR1x12 ⟨ua, uc, rfl, hlf, hq⟩
        have HQL := Lib.hid hlf.lst
        have HQN := Lib.hid (Kr.Ap.lf hlf HBX.out.lt)
        clear hlf
        try (go_wp2_with fail)
        have HBX := Lib.hid (Bk.q HBX.out hq)
        have hS2 := Q.trans hS hq
        refine hK.out _ _ (by exact hS2) (fun hHeld => ?_)
        clear hK K hHeld hS hq
        have hS := hS2
        clear hS2
        try simp only [Act.put, sA, sB, sC]
        change wpAnyH _ _ _ _ _ _ #[tt,tt,tt,tt,ff,ff,ff,tt,ff,ff] _ _
        refine wpAnyH_take (i := 4) (v := ?vR1x13) (by (try simp only [gA, gB, gC]); rfl) (by kernel_rfl) (by kernel_rfl) (by kernel_rfl) (by exact fun _ _ _ h => h) (Or.inl ⟨by first | kernel_rfl | rfl, ?hyR1x13⟩) (by exact hS) ?rsR1x13
        case hyR1x13 => (intro uz hSw; (try dsimp only at hSw); go_simp; try with_reducible rfl)
        try simp only [Act.put, sA, sB, sC]
        change wpAnyH _ _ _ _ _ _ #[tt,tt,tt,tt,tt,ff,ff,tt,ff,ff] _ _
        refine wpAnyH_take (i := 5) (v := ?vR1x14) (by (try simp only [gA, gB, gC]); rfl) (by kernel_rfl) (by kernel_rfl) (by kernel_rfl) (by exact fun _ _ _ h => h) (Or.inl ⟨by first | kernel_rfl | rfl, ?hyR1x14⟩) (by exact hS) ?rsR1x14
        case hyR1x14 => (intro uz hSw; (try dsimp only at hSw); go_simp; try with_reducible rfl)
        try simp only [Act.put, sA, sB, sC]
        change wpAnyH _ _ _ _ _ _ #[tt,tt,tt,tt,tt,tt,ff,tt,ff,ff] _ _
        refine wpAnyH_take (i := 6) (v := ?vR1x15) (by (try simp only [gA, gB, gC]); rfl) (by kernel_rfl) (by kernel_rfl) (by kernel_rfl) (by exact fun _ _ _ h => h) (Or.inl ⟨by first | kernel_rfl | rfl, ?hyR1x15⟩) (by exact hS) ?rsR1x15
        case hyR1x15 => (intro uz hSw; (try dsimp only at hSw); go_simp; try with_reducible rfl)
        try simp only [Act.put, sA, sB, sC]
        change wpAnyH _ _ _ _ _ _ #[tt,tt,tt,tt,tt,tt,tt,tt,ff,ff] _ _
        refine wpAnyH_ready (rs := [8]) (by kernel_rfl) (by simp) ?_
        refine (AllReadyH.cons (by (try simp only [gA, gB, gC]); rfl) (fun K hK => ?_) AllReadyH.nil)
        have b0 := HBX.out.cell 0 rfl
        have f0 := HBX.out.free 0
        have b1 := HBX.out.cell 1 rfl
        have f1 := HBX.out.free 1
        have b2 := HBX.out.cell 2 rfl
        have f2 := HBX.out.free 2
        go_simp
        have hS2 := (Q.setCell (Q.setCell (Q.setCell hS (ad := ⟨bX, 0, none⟩) HW_bX.out (.bool V1.g)) (ad := ⟨bX, 1, none⟩) HW_bX.out (.slice ua vl1 uc)) (ad := ⟨bX, 2, none⟩) HW_bX.out (.int .i64 (V1.s : Nat)))
        replace HBX := Lib.hid (((HBX.out.set 0 (.bool V1.g)).set 1 (.slice ua vl1 uc)).set 2 (.int .i64 (V1.s : Nat)))
        replace HQL := Lib.hid (Lst.setCell ((Lst.setCell ((Lst.setCell (HQL.out) (ad := ⟨bX, 0, none⟩) (.bool V1.g) HQN.out)) (ad := ⟨bX, 1, none⟩) (.slice ua vl1 uc) HQN.out)) (ad := ⟨bX, 2, none⟩) (.int .i64 (V1.s : Nat)) HQN.out)
        refine hK.out _ _ (by exact hS2) (fun hHeld => ?_)
        clear hK K hHeld hS
        have hS := hS2
        clear hS2 b0 f0 b1 f1 b2 f2
        generalize (((yR1x12.setCell ⟨bX, 0, none⟩ (.bool V1.g)).setCell ⟨bX, 1, none⟩ (.slice ua vl1 uc)).setCell ⟨bX, 2, none⟩ (.int .i64 (V1.s : Nat))) = yR1x16 at *
        try simp only [Act.put, sA, sB, sC]
        change wpAnyH _ _ _ _ _ _ #[tt,tt,tt,tt,tt,tt,tt,tt,tt,ff] _ _
        refine wpAnyH_take (i := 9) (v := ?vR1x17) (by (try simp only [gA, gB, gC]); rfl) (by kernel_rfl) (by kernel_rfl) (by kernel_rfl) (by exact fun _ _ _ h => h) (Or.inl ⟨by first | kernel_rfl | rfl, ?hyR1x17⟩) (by exact hS) ?rsR1x17
        case hyR1x17 => (intro uz hSw; (try dsimp only at hSw); go_simp; try with_reducible rfl)
        try simp only [Act.put, sA, sB, sC]
        change wpAnyH _ _ _ _ _ _ #[tt,tt,tt,tt,tt,tt,tt,tt,tt,tt] _ _
        refine wpAnyH_done (by kernel_rfl) ?_ _
        go_wp2_with fail
        go_meet
        exact ⟨bX, ua, uc, rfl, rfl, HBX.out, HQL.out, hS⟩
    · go_simp
      have hq := (Q.refl yR1x0).alloc (.cells #[.bool false, .slice none 0 0, .int .i64 0] 29)
      have HBX := Lib.hid (Bk.new yR1x0 29 [.bool false, .slice none 0 0, .int .i64 0])
      have HW_bX := Lib.hid (Q.le hS)
      have hS2 := Q.trans hS hq
      refine hK.out _ _ (by exact hS2) (fun hHeld => ?_)
      clear hK K hHeld hS hq
      have hS := hS2
      clear hS2
      generalize yR1x0.alloc (.cells #[.bool false, .slice none 0 0, .int .i64 0] 29) = yR1x18 at *
      generalize yR1x0.heap.size = bX at *
      try simp only [Act.put, sA, sB, sC]
      change wpAnyH _ _ _ _ _ _ #[tt,tt,ff,ff,ff,ff,ff,tt,ff,ff] _ _
      refine wpAnyH_ready (rs := [2]) (by kernel_rfl) (by simp) ?_
      refine (AllReadyH.cons (by (try simp only [gA, gB, gC]); rfl) (fun K hK => ?_) AllReadyH.nil)
      go_simp
      refine (Kl.dec_q _ _ _ _ _ _).mono ?_
      rintro e yR1x19 ⟨rfl, hq⟩
      try (go_wp2_with fail)
      have HBX := Lib.hid (Bk.q HBX.out hq)
      have hS2 := Q.trans hS hq
      refine hK.out _ _ (by exact hS2) (fun hHeld => ?_)
      clear hK K hHeld hS hq
      have hS := hS2
      clear hS2
      try simp only [Act.put, sA, sB, sC]
      change wpAnyH _ _ _ _ _ _ #[tt,tt,tt,ff,ff,ff,ff,tt,ff,ff] _ _
      refine wpAnyH_ready (rs := [3]) (by kernel_rfl) (by simp) ?_
      refine (AllReadyH.cons (by (try simp only [gA, gB, gC]); rfl) (fun K hK => ?_) AllReadyH.nil)
      go_simp
      refine (HV1.out _ _ _ _ _ _ _ _ _ _ (HL1.out.q hS) (HL2.out.q hS) (HLX.out.q hS)).mono ?_
      rintro e yR1x20 ⟨ua, uc, rfl, hlf, hq⟩
      have HQL := Lib.hid hlf.lst
      have HQN := Lib.hid (Kr.Ap.lf hlf HBX.out.lt)
      clear hlf
      try (go_wp2_with fail)
      have HBX := Lib.hid (Bk.q HBX.out hq)
      have hS2 := Q.trans hS hq
      refine hK.out _ _ (by exact hS2) (fun hHeld => ?_)
      clear hK K hHeld hS hq
      have hS := hS2
      clear hS2
      try simp only [Act.put, sA, sB, sC]
      change wpAnyH _ _ _ _ _ _ #[tt,tt,tt,tt,ff,ff,ff,tt,ff,ff] _ _
      refine wpAnyH_take (i := 4) (v := ?vR1x21) (by (try simp only [gA, gB, gC]); rfl) (by kernel_rfl) (by kernel_rfl) (by kernel_rfl) (by exact fun _ _ _ h => h) (Or.inl ⟨by first | kernel_rfl | rfl, ?hyR1x21⟩) (by exact hS) ?rsR1x21
      case hyR1x21 => (intro uz hSw; (try dsimp only at hSw); go_simp; try with_reducible rfl)
      try simp only [Act.put, sA, sB, sC]
      change wpAnyH _ _ _ _ _ _ #[tt,tt,tt,tt,tt,ff,ff,tt,ff,ff] _ _
      refine wpAnyH_take (i := 5) (v := ?vR1x22) (by (try simp only [gA, gB, gC]); rfl) (by kernel_rfl) (by kernel_rfl) (by kernel_rfl) (by exact fun _ _ _ h => h) (Or.inl ⟨by first | kernel_rfl | rfl, ?hyR1x22⟩) (by exact hS) ?rsR1x22
      case hyR1x22 => (intro uz hSw; (try dsimp only at hSw); go_simp; try with_reducible rfl)
      try simp only [Act.put, sA, sB, sC]
      change wpAnyH _ _ _ _ _ _ #[tt,tt,tt,tt,tt,tt,ff,tt,ff,ff] _ _
      refine wpAnyH_take (i := 6) (v := ?vR1x23) (by (try simp only [gA, gB, gC]); rfl) (by kernel_rfl) (by kernel_rfl) (by kernel_rfl) (by exact fun _ _ _ h => h) (Or.inl ⟨by first | kernel_rfl | rfl, ?hyR1x23⟩) (by exact hS) ?rsR1x23
      case hyR1x23 => (intro uz hSw; (try dsimp only at hSw); go_simp; try with_reducible rfl)
      try simp only [Act.put, sA, sB, sC]
      change wpAnyH _ _ _ _ _ _ #[tt,tt,tt,tt,tt,tt,tt,tt,ff,ff] _ _
      refine wpAnyH_ready (rs := [8]) (by kernel_rfl) (by simp) ?_
      refine (AllReadyH.cons (by (try simp only [gA, gB, gC]); rfl) (fun K hK => ?_) AllReadyH.nil)
      have b0 := HBX.out.cell 0 rfl
      have f0 := HBX.out.free 0
      have b1 := HBX.out.cell 1 rfl
      have f1 := HBX.out.free 1
      have b2 := HBX.out.cell 2 rfl
      have f2 := HBX.out.free 2
      go_simp
      have hS2 := (Q.setCell (Q.setCell (Q.setCell hS (ad := ⟨bX, 0, none⟩) HW_bX.out (.bool V1.g)) (ad := ⟨bX, 1, none⟩) HW_bX.out (.slice ua vl1 uc)) (ad := ⟨bX, 2, none⟩) HW_bX.out (.int .i64 (V1.s : Nat)))
      replace HBX := Lib.hid (((HBX.out.set 0 (.bool V1.g)).set 1 (.slice ua vl1 uc)).set 2 (.int .i64 (V1.s : Nat)))
      replace HQL := Lib.hid (Lst.setCell ((Lst.setCell ((Lst.setCell (HQL.out) (ad := ⟨bX, 0, none⟩) (.bool V1.g) HQN.out)) (ad := ⟨bX, 1, none⟩) (.slice ua vl1 uc) HQN.out)) (ad := ⟨bX, 2, none⟩) (.int .i64 (V1.s : Nat)) HQN.out)
      refine hK.out _ _ (by exact hS2) (fun hHeld => ?_)
      clear hK K hHeld hS
      have hS := hS2
      clear hS2 b0 f0 b1 f1 b2 f2
      generalize (((yR1x20.setCell ⟨bX, 0, none⟩ (.bool V1.g)).setCell ⟨bX, 1, none⟩ (.slice ua vl1 uc)).setCell ⟨bX, 2, none⟩ (.int .i64 (V1.s : Nat))) = yR1x24 at *
      try simp only [Act.put, sA, sB, sC]
      change wpAnyH _ _ _ _ _ _ #[tt,tt,tt,tt,tt,tt,tt,tt,tt,ff] _ _
      refine wpAnyH_take (i := 9) (v := ?vR1x25) (by (try simp only [gA, gB, gC]); rfl) (by kernel_rfl) (by kernel_rfl) (by kernel_rfl) (by exact fun _ _ _ h => h) (Or.inl ⟨by first | kernel_rfl | rfl, ?hyR1x25⟩) (by exact hS) ?rsR1x25
      case hyR1x25 => (intro uz hSw; (try dsimp only at hSw); go_simp; try with_reducible rfl)
      try simp only [Act.put, sA, sB, sC]
      change wpAnyH _ _ _ _ _ _ #[tt,tt,tt,tt,tt,tt,tt,tt,tt,tt] _ _
      refine wpAnyH_done (by kernel_rfl) ?_ _
      go_wp2_with fail
      go_meet
      exact ⟨bX, ua, uc, rfl, rfl, HBX.out, HQL.out, hS⟩
  case rest =>
    obtain ⟨bP, aP, cP, rfl, rfl, hbx, hlx, hqc⟩ := hcut
    obtain ⟨v9, hv9⟩ : ∃ x, x = wc := ⟨_, rfl⟩
    subst hv9
    replace HQ := Lib.hid (Q.trans HQ.out hqc)
    replace HR := Lib.hid (Bk.q HR.out hqc)
    replace HL1 := Lib.hid (Lst.q HL1.out hqc)
    replace HL2 := Lib.hid (Lst.q HL2.out hqc)
    replace HL3 := Lib.hid (Lst.q HL3.out hqc)
    replace HBX := Lib.hid (Bk.q HBX.out hqc)
    replace HLX := Lib.hid (Lst.q HLX.out hqc)
    replace HBY := Lib.hid (Bk.q HBY.out hqc)
    replace HLY := Lib.hid (Lst.q HLY.out hqc)
    have HBP := Lib.hid hbx
    have HLP := Lib.hid hlx
    clear hqc hbx hlx
    go_upto_region 7 with fail
    go_cut [13, 14] (fun p e wx => ∃ b a c, p = .pointer (some ⟨b, 0, none⟩) ∧ e = .int .i64 0 ∧ Bk wx b 29 [.bool V2.g, .slice a vl2 c, .int .i64 (V2.s : Nat)] ∧ Lst wx (.slice a vl2 c) (Dm.dg V2.m) ∧ Q v9 wx)
    case first =>
      refine wp_region_held_drew (S := fun u => Q v9 u) (by kernel_rfl) (by exact (Q.refl v9).drew) (fun hHeld => ?_)
      have hS : Q v9 v9.drew := hHeld
      clear hHeld
      have hq : Q v9 v9.drew := (Q.refl _).drew
      clear hq
      generalize v9.drew = yR2x0 at *
      change wpAnyH _ _ _ _ _ _ #[ff,ff,ff,ff,ff,ff,ff,ff,ff,ff] _ _
      refine wpAnyH_take (i := 0) (v := ?vR2x1) (by (try simp only [gA, gB, gC]); rfl) (by kernel_rfl) (by kernel_rfl) (by kernel_rfl) (by exact fun _ _ _ h => h) (Or.inl ⟨by first | kernel_rfl | rfl, ?hyR2x1⟩) (by exact hS) ?rsR2x1
      case hyR2x1 => (intro uz hSw; (try dsimp only at hSw); refine ld_row (x := .tmp 7) ?_ ?_ (Bk.q HR.out hSw) Try.underlying32 (by exact Kp.infoRp) <;> rfl)
      try simp only [Act.put, sA, sB, sC]
      change wpAnyH _ _ _ _ _ _ #[tt,ff,ff,ff,ff,ff,ff,ff,ff,ff] _ _
      refine wpAnyH_take (i := 1) (v := ?vR2x2) (by (try simp only [gA, gB, gC]); rfl) (by kernel_rfl) (by kernel_rfl) (by kernel_rfl) (by exact fun _ _ _ h => h) (Or.inl ⟨by first | kernel_rfl | rfl, ?hyR2x2⟩) (by exact hS) ?rsR2x2
      case hyR2x2 => (intro uz hSw; (try dsimp only at hSw); have hxx := HBY.out.q hSw; have d0 := hxx.cell 0 rfl; have d1 := hxx.cell 1 rfl; have d2 := hxx.cell 2 rfl; clear hxx; go_simp; try with_reducible rfl)
      try simp only [Act.put, sA, sB, sC]
      change wpAnyH _ _ _ _ _ _ #[tt,tt,ff,ff,ff,ff,ff,ff,ff,ff] _ _
      refine wpAnyH_ready (rs := [2, 7]) (by kernel_rfl) (by simp) ?_
      refine (AllReadyH.cons (by (try simp only [gA, gB, gC]); rfl) (fun K hK => ?_) (AllReadyH.cons (by (try simp only [gA, gB, gC]); rfl) (fun K hK => ?_) AllReadyH.nil))
      · go_simp
        refine (Kl.dec_q _ _ _ _ _ _).mono ?_
        rintro e yR2x3 ⟨rfl, hq⟩
        try (go_wp2_with fail)
        have hS2 := Q.trans hS hq
        refine hK.out _ _ (by exact hS2) (fun hHeld => ?_)
        clear hK K hHeld hS hq
        have hS := hS2
        clear hS2
        try simp only [Act.put, sA, sB, sC]
        change wpAnyH _ _ _ _ _ _ #[tt,tt,tt,ff,ff,ff,ff,ff,ff,ff] _ _
        refine wpAnyH_ready (rs := [3, 7]) (by kernel_rfl) (by simp) ?_
        refine (AllReadyH.cons (by (try simp only [gA, gB, gC]); rfl) (fun K hK => ?_) (AllReadyH.cons (by (try simp only [gA, gB, gC]); rfl) (fun K hK => ?_) AllReadyH.nil))
        · go_simp
          refine (HV2.out _ _ _ _ _ _ _ _ _ _ (HL1.out.q hS) (HL2.out.q hS) (HLY.out.q hS)).mono ?_
          rintro e yR2x4 ⟨ua, uc, rfl, hlf, hq⟩
          have HQL := Lib.hid hlf.lst
          clear hlf
          try (go_wp2_with fail)
          have hS2 := Q.trans hS hq
          refine hK.out _ _ (by exact hS2) (fun hHeld => ?_)
          clear hK K hHeld hS hq
          have hS := hS2
          clear hS2
          try simp only [Act.put, sA, sB, sC]
          change wpAnyH _ _ _ _ _ _ #[tt,tt,tt,tt,ff,ff,ff,ff,ff,ff] _ _
          refine wpAnyH_take (i := 4) (v := ?vR2x5) (by (try simp only [gA, gB, gC]); rfl) (by kernel_rfl) (by kernel_rfl) (by kernel_rfl) (by exact fun _ _ _ h => h) (Or.inl ⟨by first | kernel_rfl | rfl, ?hyR2x5⟩) (by exact hS) ?rsR2x5
          case hyR2x5 => (intro uz hSw; (try dsimp only at hSw); go_simp; try with_reducible rfl)
          try simp only [Act.put, sA, sB, sC]
          change wpAnyH _ _ _ _ _ _ #[tt,tt,tt,tt,tt,ff,ff,ff,ff,ff] _ _
          refine wpAnyH_take (i := 5) (v := ?vR2x6) (by (try simp only [gA, gB, gC]); rfl) (by kernel_rfl) (by kernel_rfl) (by kernel_rfl) (by exact fun _ _ _ h => h) (Or.inl ⟨by first | kernel_rfl | rfl, ?hyR2x6⟩) (by exact hS) ?rsR2x6
          case hyR2x6 => (intro uz hSw; (try dsimp only at hSw); go_simp; try with_reducible rfl)
          try simp only [Act.put, sA, sB, sC]
          change wpAnyH _ _ _ _ _ _ #[tt,tt,tt,tt,tt,tt,ff,ff,ff,ff] _ _
          refine wpAnyH_take (i := 6) (v := ?vR2x7) (by (try simp only [gA, gB, gC]); rfl) (by kernel_rfl) (by kernel_rfl) (by kernel_rfl) (by exact fun _ _ _ h => h) (Or.inl ⟨by first | kernel_rfl | rfl, ?hyR2x7⟩) (by exact hS) ?rsR2x7
          case hyR2x7 => (intro uz hSw; (try dsimp only at hSw); go_simp; try with_reducible rfl)
          try simp only [Act.put, sA, sB, sC]
          change wpAnyH _ _ _ _ _ _ #[tt,tt,tt,tt,tt,tt,tt,ff,ff,ff] _ _
          refine wpAnyH_ready (rs := [7]) (by kernel_rfl) (by simp) ?_
          refine (AllReadyH.cons (by (try simp only [gA, gB, gC]); rfl) (fun K hK => ?_) AllReadyH.nil)
          go_simp
          have HQN := Lib.hid (Kr.Ap.new HQL.out (Nat.le_refl _))
          have hq := (Q.refl yR2x4).alloc (.cells #[.bool false, .slice none 0 0, .int .i64 0] 29)
          have HBX := Lib.hid (Bk.new yR2x4 29 [.bool false, .slice none 0 0, .int .i64 0])
          have HW_bX := Lib.hid (Q.le hS)
          have HQL := Lib.hid (Lst.q HQL.out hq)
          have hS2 := Q.trans hS hq
          refine hK.out _ _ (by exact hS2) (fun hHeld => ?_)
          clear hK K hHeld hS hq
          have hS := hS2
          clear hS2
          generalize yR2x4.alloc (.cells #[.bool false, .slice none 0 0, .int .i64 0] 29) = yR2x8 at *
          generalize yR2x4.heap.size = bX at *
          try simp only [Act.put, sA, sB, sC]
          change wpAnyH _ _ _ _ _ _ #[tt,tt,tt,tt,tt,tt,tt,tt,ff,ff] _ _
          refine wpAnyH_ready (rs := [8]) (by kernel_rfl) (by simp) ?_
          refine (AllReadyH.cons (by (try simp only [gA, gB, gC]); rfl) (fun K hK => ?_) AllReadyH.nil)
          have b0 := HBX.out.cell 0 rfl
          have f0 := HBX.out.free 0
          have b1 := HBX.out.cell 1 rfl
          have f1 := HBX.out.free 1
          have b2 := HBX.out.cell 2 rfl
          have f2 := HBX.out.free 2
          go_simp
          have hS2 := (Q.setCell (Q.setCell (Q.setCell hS (ad := ⟨bX, 0, none⟩) HW_bX.out (.bool V2.g)) (ad := ⟨bX, 1, none⟩) HW_bX.out (.slice ua vl2 uc)) (ad := ⟨bX, 2, none⟩) HW_bX.out (.int .i64 (V2.s : Nat)))
          replace HBX := Lib.hid (((HBX.out.set 0 (.bool V2.g)).set 1 (.slice ua vl2 uc)).set 2 (.int .i64 (V2.s : Nat)))
          replace HQL := Lib.hid (Lst.setCell ((Lst.setCell ((Lst.setCell (HQL.out) (ad := ⟨bX, 0, none⟩) (.bool V2.g) HQN.out)) (ad := ⟨bX, 1, none⟩) (.slice ua vl2 uc) HQN.out)) (ad := ⟨bX, 2, none⟩) (.int .i64 (V2.s : Nat)) HQN.out)
          refine hK.out _ _ (by exact hS2) (fun hHeld => ?_)
          clear hK K hHeld hS
          have hS := hS2
          clear hS2 b0 f0 b1 f1 b2 f2
          generalize (((yR2x8.setCell ⟨bX, 0, none⟩ (.bool V2.g)).setCell ⟨bX, 1, none⟩ (.slice ua vl2 uc)).setCell ⟨bX, 2, none⟩ (.int .i64 (V2.s : Nat))) = yR2x9 at *
          try simp only [Act.put, sA, sB, sC]
          change wpAnyH _ _ _ _ _ _ #[tt,tt,tt,tt,tt,tt,tt,tt,tt,ff] _ _
          refine wpAnyH_take (i := 9) (v := ?vR2x10) (by (try simp only [gA, gB, gC]); rfl) (by kernel_rfl) (by kernel_rfl) (by kernel_rfl) (by exact fun _ _ _ h => h) (Or.inl ⟨by first | kernel_rfl | rfl, ?hyR2x10⟩) (by exact hS) ?rsR2x10
          case hyR2x10 => (intro uz hSw; (try dsimp only at hSw); go_simp; try with_reducible rfl)
          try simp only [Act.put, sA, sB, sC]
          change wpAnyH _ _ _ _ _ _ #[tt,tt,tt,tt,tt,tt,tt,tt,tt,tt] _ _
          refine wpAnyH_done (by kernel_rfl) ?_ _
          go_wp2_with fail
          go_meet
          exact ⟨bX, ua, uc, rfl, rfl, HBX.out, HQL.out, hS⟩
        · go_simp
          have hq := (Q.refl yR2x3).alloc (.cells #[.bool false, .slice none 0 0, .int .i64 0] 29)
          have HBX := Lib.hid (Bk.new yR2x3 29 [.bool false, .slice none 0 0, .int .i64 0])
          have HW_bX := Lib.hid (Q.le hS)
          have hS2 := Q.trans hS hq
          refine hK.out _ _ (by exact hS2) (fun hHeld => ?_)
          clear hK K hHeld hS hq
          have hS := hS2
          clear hS2
          generalize yR2x3.alloc (.cells #[.bool false, .slice none 0 0, .int .i64 0] 29) = yR2x11 at *
          generalize yR2x3.heap.size = bX at *
          try simp only [Act.put, sA, sB, sC]
          change wpAnyH _ _ _ _ _ _ #[tt,tt,tt,ff,ff,ff,ff,tt,ff,ff] _ _
          refine wpAnyH_ready (rs := [3]) (by kernel_rfl) (by simp) ?_
          refine (AllReadyH.cons (by (try simp only [gA, gB, gC]); rfl) (fun K hK => ?_) AllReadyH.nil)
          go_simp
          refine (HV2.out _ _ _ _ _ _ _ _ _ _ (HL1.out.q hS) (HL2.out.q hS) (HLY.out.q hS)).mono ?_
          rintro e yR2x12 ⟨ua, uc, rfl, hlf, hq⟩
          have HQL := Lib.hid hlf.lst
          have HQN := Lib.hid (Kr.Ap.lf hlf HBX.out.lt)
          clear hlf
          try (go_wp2_with fail)
          have HBX := Lib.hid (Bk.q HBX.out hq)
          have hS2 := Q.trans hS hq
          refine hK.out _ _ (by exact hS2) (fun hHeld => ?_)
          clear hK K hHeld hS hq
          have hS := hS2
          clear hS2
          try simp only [Act.put, sA, sB, sC]
          change wpAnyH _ _ _ _ _ _ #[tt,tt,tt,tt,ff,ff,ff,tt,ff,ff] _ _
          refine wpAnyH_take (i := 4) (v := ?vR2x13) (by (try simp only [gA, gB, gC]); rfl) (by kernel_rfl) (by kernel_rfl) (by kernel_rfl) (by exact fun _ _ _ h => h) (Or.inl ⟨by first | kernel_rfl | rfl, ?hyR2x13⟩) (by exact hS) ?rsR2x13
          case hyR2x13 => (intro uz hSw; (try dsimp only at hSw); go_simp; try with_reducible rfl)
          try simp only [Act.put, sA, sB, sC]
          change wpAnyH _ _ _ _ _ _ #[tt,tt,tt,tt,tt,ff,ff,tt,ff,ff] _ _
          refine wpAnyH_take (i := 5) (v := ?vR2x14) (by (try simp only [gA, gB, gC]); rfl) (by kernel_rfl) (by kernel_rfl) (by kernel_rfl) (by exact fun _ _ _ h => h) (Or.inl ⟨by first | kernel_rfl | rfl, ?hyR2x14⟩) (by exact hS) ?rsR2x14
          case hyR2x14 => (intro uz hSw; (try dsimp only at hSw); go_simp; try with_reducible rfl)
          try simp only [Act.put, sA, sB, sC]
          change wpAnyH _ _ _ _ _ _ #[tt,tt,tt,tt,tt,tt,ff,tt,ff,ff] _ _
          refine wpAnyH_take (i := 6) (v := ?vR2x15) (by (try simp only [gA, gB, gC]); rfl) (by kernel_rfl) (by kernel_rfl) (by kernel_rfl) (by exact fun _ _ _ h => h) (Or.inl ⟨by first | kernel_rfl | rfl, ?hyR2x15⟩) (by exact hS) ?rsR2x15
          case hyR2x15 => (intro uz hSw; (try dsimp only at hSw); go_simp; try with_reducible rfl)
          try simp only [Act.put, sA, sB, sC]
          change wpAnyH _ _ _ _ _ _ #[tt,tt,tt,tt,tt,tt,tt,tt,ff,ff] _ _
          refine wpAnyH_ready (rs := [8]) (by kernel_rfl) (by simp) ?_
          refine (AllReadyH.cons (by (try simp only [gA, gB, gC]); rfl) (fun K hK => ?_) AllReadyH.nil)
          have b0 := HBX.out.cell 0 rfl
          have f0 := HBX.out.free 0
          have b1 := HBX.out.cell 1 rfl
          have f1 := HBX.out.free 1
          have b2 := HBX.out.cell 2 rfl
          have f2 := HBX.out.free 2
          go_simp
          have hS2 := (Q.setCell (Q.setCell (Q.setCell hS (ad := ⟨bX, 0, none⟩) HW_bX.out (.bool V2.g)) (ad := ⟨bX, 1, none⟩) HW_bX.out (.slice ua vl2 uc)) (ad := ⟨bX, 2, none⟩) HW_bX.out (.int .i64 (V2.s : Nat)))
          replace HBX := Lib.hid (((HBX.out.set 0 (.bool V2.g)).set 1 (.slice ua vl2 uc)).set 2 (.int .i64 (V2.s : Nat)))
          replace HQL := Lib.hid (Lst.setCell ((Lst.setCell ((Lst.setCell (HQL.out) (ad := ⟨bX, 0, none⟩) (.bool V2.g) HQN.out)) (ad := ⟨bX, 1, none⟩) (.slice ua vl2 uc) HQN.out)) (ad := ⟨bX, 2, none⟩) (.int .i64 (V2.s : Nat)) HQN.out)
          refine hK.out _ _ (by exact hS2) (fun hHeld => ?_)
          clear hK K hHeld hS
          have hS := hS2
          clear hS2 b0 f0 b1 f1 b2 f2
          generalize (((yR2x12.setCell ⟨bX, 0, none⟩ (.bool V2.g)).setCell ⟨bX, 1, none⟩ (.slice ua vl2 uc)).setCell ⟨bX, 2, none⟩ (.int .i64 (V2.s : Nat))) = yR2x16 at *
          try simp only [Act.put, sA, sB, sC]
          change wpAnyH _ _ _ _ _ _ #[tt,tt,tt,tt,tt,tt,tt,tt,tt,ff] _ _
          refine wpAnyH_take (i := 9) (v := ?vR2x17) (by (try simp only [gA, gB, gC]); rfl) (by kernel_rfl) (by kernel_rfl) (by kernel_rfl) (by exact fun _ _ _ h => h) (Or.inl ⟨by first | kernel_rfl | rfl, ?hyR2x17⟩) (by exact hS) ?rsR2x17
          case hyR2x17 => (intro uz hSw; (try dsimp only at hSw); go_simp; try with_reducible rfl)
          try simp only [Act.put, sA, sB, sC]
          change wpAnyH _ _ _ _ _ _ #[tt,tt,tt,tt,tt,tt,tt,tt,tt,tt] _ _
          refine wpAnyH_done (by kernel_rfl) ?_ _
          go_wp2_with fail
          go_meet
          exact ⟨bX, ua, uc, rfl, rfl, HBX.out, HQL.out, hS⟩
      · go_simp
        have hq := (Q.refl yR2x0).alloc (.cells #[.bool false, .slice none 0 0, .int .i64 0] 29)
        have HBX := Lib.hid (Bk.new yR2x0 29 [.bool false, .slice none 0 0, .int .i64 0])
        have HW_bX := Lib.hid (Q.le hS)
        have hS2 := Q.trans hS hq
        refine hK.out _ _ (by exact hS2) (fun hHeld => ?_)
        clear hK K hHeld hS hq
        have hS := hS2
        clear hS2
        generalize yR2x0.alloc (.cells #[.bool false, .slice none 0 0, .int .i64 0] 29) = yR2x18 at *
        generalize yR2x0.heap.size = bX at *
        try simp only [Act.put, sA, sB, sC]
        change wpAnyH _ _ _ _ _ _ #[tt,tt,ff,ff,ff,ff,ff,tt,ff,ff] _ _
        refine wpAnyH_ready (rs := [2]) (by kernel_rfl) (by simp) ?_
        refine (AllReadyH.cons (by (try simp only [gA, gB, gC]); rfl) (fun K hK => ?_) AllReadyH.nil)
        go_simp
        refine (Kl.dec_q _ _ _ _ _ _).mono ?_
        rintro e yR2x19 ⟨rfl, hq⟩
        try (go_wp2_with fail)
        have HBX := Lib.hid (Bk.q HBX.out hq)
        have hS2 := Q.trans hS hq
        refine hK.out _ _ (by exact hS2) (fun hHeld => ?_)
        clear hK K hHeld hS hq
        have hS := hS2
        clear hS2
        try simp only [Act.put, sA, sB, sC]
        change wpAnyH _ _ _ _ _ _ #[tt,tt,tt,ff,ff,ff,ff,tt,ff,ff] _ _
        refine wpAnyH_ready (rs := [3]) (by kernel_rfl) (by simp) ?_
        refine (AllReadyH.cons (by (try simp only [gA, gB, gC]); rfl) (fun K hK => ?_) AllReadyH.nil)
        go_simp
        refine (HV2.out _ _ _ _ _ _ _ _ _ _ (HL1.out.q hS) (HL2.out.q hS) (HLY.out.q hS)).mono ?_
        rintro e yR2x20 ⟨ua, uc, rfl, hlf, hq⟩
        have HQL := Lib.hid hlf.lst
        have HQN := Lib.hid (Kr.Ap.lf hlf HBX.out.lt)
        clear hlf
        try (go_wp2_with fail)
        have HBX := Lib.hid (Bk.q HBX.out hq)
        have hS2 := Q.trans hS hq
        refine hK.out _ _ (by exact hS2) (fun hHeld => ?_)
        clear hK K hHeld hS hq
        have hS := hS2
        clear hS2
        try simp only [Act.put, sA, sB, sC]
        change wpAnyH _ _ _ _ _ _ #[tt,tt,tt,tt,ff,ff,ff,tt,ff,ff] _ _
        refine wpAnyH_take (i := 4) (v := ?vR2x21) (by (try simp only [gA, gB, gC]); rfl) (by kernel_rfl) (by kernel_rfl) (by kernel_rfl) (by exact fun _ _ _ h => h) (Or.inl ⟨by first | kernel_rfl | rfl, ?hyR2x21⟩) (by exact hS) ?rsR2x21
        case hyR2x21 => (intro uz hSw; (try dsimp only at hSw); go_simp; try with_reducible rfl)
        try simp only [Act.put, sA, sB, sC]
        change wpAnyH _ _ _ _ _ _ #[tt,tt,tt,tt,tt,ff,ff,tt,ff,ff] _ _
        refine wpAnyH_take (i := 5) (v := ?vR2x22) (by (try simp only [gA, gB, gC]); rfl) (by kernel_rfl) (by kernel_rfl) (by kernel_rfl) (by exact fun _ _ _ h => h) (Or.inl ⟨by first | kernel_rfl | rfl, ?hyR2x22⟩) (by exact hS) ?rsR2x22
        case hyR2x22 => (intro uz hSw; (try dsimp only at hSw); go_simp; try with_reducible rfl)
        try simp only [Act.put, sA, sB, sC]
        change wpAnyH _ _ _ _ _ _ #[tt,tt,tt,tt,tt,tt,ff,tt,ff,ff] _ _
        refine wpAnyH_take (i := 6) (v := ?vR2x23) (by (try simp only [gA, gB, gC]); rfl) (by kernel_rfl) (by kernel_rfl) (by kernel_rfl) (by exact fun _ _ _ h => h) (Or.inl ⟨by first | kernel_rfl | rfl, ?hyR2x23⟩) (by exact hS) ?rsR2x23
        case hyR2x23 => (intro uz hSw; (try dsimp only at hSw); go_simp; try with_reducible rfl)
        try simp only [Act.put, sA, sB, sC]
        change wpAnyH _ _ _ _ _ _ #[tt,tt,tt,tt,tt,tt,tt,tt,ff,ff] _ _
        refine wpAnyH_ready (rs := [8]) (by kernel_rfl) (by simp) ?_
        refine (AllReadyH.cons (by (try simp only [gA, gB, gC]); rfl) (fun K hK => ?_) AllReadyH.nil)
        have b0 := HBX.out.cell 0 rfl
        have f0 := HBX.out.free 0
        have b1 := HBX.out.cell 1 rfl
        have f1 := HBX.out.free 1
        have b2 := HBX.out.cell 2 rfl
        have f2 := HBX.out.free 2
        go_simp
        have hS2 := (Q.setCell (Q.setCell (Q.setCell hS (ad := ⟨bX, 0, none⟩) HW_bX.out (.bool V2.g)) (ad := ⟨bX, 1, none⟩) HW_bX.out (.slice ua vl2 uc)) (ad := ⟨bX, 2, none⟩) HW_bX.out (.int .i64 (V2.s : Nat)))
        replace HBX := Lib.hid (((HBX.out.set 0 (.bool V2.g)).set 1 (.slice ua vl2 uc)).set 2 (.int .i64 (V2.s : Nat)))
        replace HQL := Lib.hid (Lst.setCell ((Lst.setCell ((Lst.setCell (HQL.out) (ad := ⟨bX, 0, none⟩) (.bool V2.g) HQN.out)) (ad := ⟨bX, 1, none⟩) (.slice ua vl2 uc) HQN.out)) (ad := ⟨bX, 2, none⟩) (.int .i64 (V2.s : Nat)) HQN.out)
        refine hK.out _ _ (by exact hS2) (fun hHeld => ?_)
        clear hK K hHeld hS
        have hS := hS2
        clear hS2 b0 f0 b1 f1 b2 f2
        generalize (((yR2x20.setCell ⟨bX, 0, none⟩ (.bool V2.g)).setCell ⟨bX, 1, none⟩ (.slice ua vl2 uc)).setCell ⟨bX, 2, none⟩ (.int .i64 (V2.s : Nat))) = yR2x24 at *
        try simp only [Act.put, sA, sB, sC]
        change wpAnyH _ _ _ _ _ _ #[tt,tt,tt,tt,tt,tt,tt,tt,tt,ff] _ _
        refine wpAnyH_take (i := 9) (v := ?vR2x25) (by (try simp only [gA, gB, gC]); rfl) (by kernel_rfl) (by kernel_rfl) (by kernel_rfl) (by exact fun _ _ _ h => h) (Or.inl ⟨by first | kernel_rfl | rfl, ?hyR2x25⟩) (by exact hS) ?rsR2x25
        case hyR2x25 => (intro uz hSw; (try dsimp only at hSw); go_simp; try with_reducible rfl)
        try simp only [Act.put, sA, sB, sC]
        change wpAnyH _ _ _ _ _ _ #[tt,tt,tt,tt,tt,tt,tt,tt,tt,tt] _ _
        refine wpAnyH_done (by kernel_rfl) ?_ _
        go_wp2_with fail
        go_meet
        exact ⟨bX, ua, uc, rfl, rfl, HBX.out, HQL.out, hS⟩
    case rest =>
      obtain ⟨bZ, aZ, cZ, rfl, rfl, hbx, hlx, hqc⟩ := hcut
      obtain ⟨v10, hv10⟩ : ∃ x, x = wc := ⟨_, rfl⟩
      subst hv10
      replace HQ := Lib.hid (Q.trans HQ.out hqc)
      replace HR := Lib.hid (Bk.q HR.out hqc)
      replace HL1 := Lib.hid (Lst.q HL1.out hqc)
      replace HL2 := Lib.hid (Lst.q HL2.out hqc)
      replace HL3 := Lib.hid (Lst.q HL3.out hqc)
      replace HBX := Lib.hid (Bk.q HBX.out hqc)
      replace HLX := Lib.hid (Lst.q HLX.out hqc)
      replace HBY := Lib.hid (Bk.q HBY.out hqc)
      replace HLY := Lib.hid (Lst.q HLY.out hqc)
      replace HBP := Lib.hid (Bk.q HBP.out hqc)
      replace HLP := Lib.hid (Lst.q HLP.out hqc)
      have HBZ := Lib.hid hbx
      have HLZ := Lib.hid hlx
      clear hqc hbx hlx
      go_upto_region 10 with fail
      have kl1 : decide ((0 : Int) ≤ kl) = true := decide_eq_true kl0
      have kh1 : decide (kh ≤ (0 : Int)) = true := decide_eq_true kh0
      go_cut [15] (fun p wx => p = .bool true ∧ Q v10 wx)
      case first =>
        refine wp_region_held_drew (S := fun u => Q v10 u) (by kernel_rfl) (by exact (Q.refl v10).drew) (fun hHeld => ?_)
        have hS : Q v10 v10.drew := hHeld
        clear hHeld
        have hq : Q v10 v10.drew := (Q.refl _).drew
        clear hq
        generalize v10.drew = yR3x0 at *
        change wpAnyH _ _ _ _ _ _ #[ff,ff,ff,ff,ff,ff,ff,ff,ff,ff,ff,ff,ff,ff,ff,ff,ff] _ _
        refine wpAnyH_take (i := 0) (v := ?vR3x1) (by (try simp only [gA, gB, gC]); rfl) (by kernel_rfl) (by kernel_rfl) (by kernel_rfl) (by exact fun _ _ _ h => h) (Or.inl ⟨by first | kernel_rfl | rfl, ?hyR3x1⟩) (by exact hS) ?rsR3x1
        case hyR3x1 => (intro uz hSw; (try dsimp only at hSw); have hxx := HBP.out.q hSw; have d0 := hxx.cell 0 rfl; have d1 := hxx.cell 1 rfl; have d2 := hxx.cell 2 rfl; clear hxx; go_simp; try with_reducible rfl)
        try simp only [Act.put, sA, sB, sC]
        change wpAnyH _ _ _ _ _ _ #[tt,ff,ff,ff,ff,ff,ff,ff,ff,ff,ff,ff,ff,ff,ff,ff,ff] _ _
        refine wpAnyH_take (i := 2) (v := ?vR3x2) (by (try simp only [gA, gB, gC]); rfl) (by kernel_rfl) (by kernel_rfl) (by kernel_rfl) (by exact fun _ _ _ h => h) (Or.inl ⟨by first | kernel_rfl | rfl, ?hyR3x2⟩) (by exact hS) ?rsR3x2
        case hyR3x2 => (intro uz hSw; (try dsimp only at hSw); go_simp; try with_reducible rfl)
        try simp only [Act.put, sA, sB, sC]
        change wpAnyH _ _ _ _ _ _ #[tt,ff,tt,ff,ff,ff,ff,ff,ff,ff,ff,ff,ff,ff,ff,ff,ff] _ _
        refine wpAnyH_take (i := 3) (v := ?vR3x3) (by (try simp only [gA, gB, gC]); rfl) (by kernel_rfl) (by kernel_rfl) (by kernel_rfl) (by exact fun _ _ _ h => h) (Or.inl ⟨by first | kernel_rfl | rfl, ?hyR3x3⟩) (by exact hS) ?rsR3x3
        case hyR3x3 => (intro uz hSw; (try dsimp only at hSw); have hxx := HR.out.q hSw; have d0 := hxx.cell 0 rfl; have d1 := hxx.cell 1 rfl; have d2 := hxx.cell 2 rfl; clear hxx; go_simp; try with_reducible rfl)
        try simp only [Act.put, sA, sB, sC]
        change wpAnyH _ _ _ _ _ _ #[tt,ff,tt,tt,ff,ff,ff,ff,ff,ff,ff,ff,ff,ff,ff,ff,ff] _ _
        refine wpAnyH_ready (rs := [1]) (by kernel_rfl) (by simp) ?_
        refine (AllReadyH.cons (by (try simp only [gA, gB, gC]); rfl) (fun K hK => ?_) AllReadyH.nil)
        go_simp
        refine (Kl.as_q _ _ _ _ _ _).mono ?_
        rintro e yR3x4 ⟨rfl, hq⟩
        try (go_wp2_with fail)
        have hS2 := Q.trans hS hq
        refine hK.out _ _ (by exact hS2) (fun hHeld => ?_)
        clear hK K hHeld hS hq
        have hS := hS2
        clear hS2
        try simp only [Act.put, sA, sB, sC]
        change wpAnyH _ _ _ _ _ _ #[tt,tt,tt,tt,ff,ff,ff,ff,ff,ff,ff,ff,ff,ff,ff,ff,ff] _ _
        refine wpAnyH_ready (rs := [4]) (by kernel_rfl) (by simp) ?_
        refine (AllReadyH.cons (by (try simp only [gA, gB, gC]); rfl) (fun K hK => ?_) AllReadyH.nil)
        go_simp
        refine (Kl.as_q _ _ _ _ _ _).mono ?_
        rintro e yR3x5 ⟨rfl, hq⟩
        try (go_wp2_with fail)
        have hS2 := Q.trans hS hq
        refine hK.out _ _ (by exact hS2) (fun hHeld => ?_)
        clear hK K hHeld hS hq
        have hS := hS2
        clear hS2
        try simp only [Act.put, sA, sB, sC]
        change wpAnyH _ _ _ _ _ _ #[tt,tt,tt,tt,tt,ff,ff,ff,ff,ff,ff,ff,ff,ff,ff,ff,ff] _ _
        refine wpAnyH_ready (rs := [5]) (by kernel_rfl) (by simp) ?_
        refine (AllReadyH.cons (by (try simp only [gA, gB, gC]); rfl) (fun K hK => ?_) AllReadyH.nil)
        go_simp
        refine (HCL.out _ _ _ _ _ (HLP.out.q hS) (HL1.out.q hS)).mono ?_
        rintro e yR3x6 ⟨rfl, hq⟩
        try (go_wp2_with fail)
        have hS2 := Q.trans hS hq
        refine hK.out _ _ (by exact hS2) (fun hHeld => ?_)
        clear hK K hHeld hS hq
        have hS := hS2
        clear hS2
        try simp only [Act.put, sA, sB, sC]
        change wpAnyH _ _ _ _ _ _ #[tt,tt,tt,tt,tt,tt,ff,ff,ff,ff,ff,ff,ff,ff,ff,ff,ff] _ _
        refine wpAnyH_take (i := 6) (v := ?vR3x7) (by (try simp only [gA, gB, gC]); rfl) (by kernel_rfl) (by kernel_rfl) (by kernel_rfl) (by exact fun _ _ _ h => h) (Or.inl ⟨by first | kernel_rfl | rfl, ?hyR3x7⟩) (by exact hS) ?rsR3x7
        case hyR3x7 => (intro uz hSw; (try dsimp only at hSw); go_simp; try with_reducible rfl)
        try simp only [Act.put, sA, sB, sC]
        change wpAnyH _ _ _ _ _ _ #[tt,tt,tt,tt,tt,tt,tt,ff,ff,ff,ff,ff,ff,ff,ff,ff,ff] _ _
        refine wpAnyH_take (i := 7) (v := ?vR3x8) (by (try simp only [gA, gB, gC]); rfl) (by kernel_rfl) (by kernel_rfl) (by kernel_rfl) (by exact fun _ _ _ h => h) (Or.inl ⟨by first | kernel_rfl | rfl, ?hyR3x8⟩) (by exact hS) ?rsR3x8
        case hyR3x8 => (intro uz hSw; (try dsimp only at hSw); go_simp; try with_reducible rfl)
        try simp only [Act.put, sA, sB, sC]
        change wpAnyH _ _ _ _ _ _ #[tt,tt,tt,tt,tt,tt,tt,tt,ff,ff,ff,ff,ff,ff,ff,ff,ff] _ _
        refine wpAnyH_take (i := 8) (v := ?vR3x9) (by (try simp only [gA, gB, gC]); rfl) (by kernel_rfl) (by kernel_rfl) (by kernel_rfl) (by exact fun _ _ _ h => h) (Or.inl ⟨by first | kernel_rfl | rfl, ?hyR3x9⟩) (by exact hS) ?rsR3x9
        case hyR3x9 => (intro uz hSw; (try dsimp only at hSw); have hxx := HBP.out.q hSw; have d0 := hxx.cell 0 rfl; have d1 := hxx.cell 1 rfl; have d2 := hxx.cell 2 rfl; clear hxx; go_simp; try with_reducible rfl)
        try simp only [Act.put, sA, sB, sC]
        change wpAnyH _ _ _ _ _ _ #[tt,tt,tt,tt,tt,tt,tt,tt,tt,ff,ff,ff,ff,ff,ff,ff,ff] _ _
        refine wpAnyH_take (i := 10) (v := ?vR3x10) (by (try simp only [gA, gB, gC]); rfl) (by kernel_rfl) (by kernel_rfl) (by kernel_rfl) (by exact fun _ _ _ h => h) (Or.inl ⟨by first | kernel_rfl | rfl, ?hyR3x10⟩) (by exact hS) ?rsR3x10
        case hyR3x10 => (intro uz hSw; (try dsimp only at hSw); go_simp; try with_reducible rfl)
        try simp only [Act.put, sA, sB, sC]
        change wpAnyH _ _ _ _ _ _ #[tt,tt,tt,tt,tt,tt,tt,tt,tt,ff,tt,ff,ff,ff,ff,ff,ff] _ _
        refine wpAnyH_take (i := 11) (v := ?vR3x11) (by (try simp only [gA, gB, gC]); rfl) (by kernel_rfl) (by kernel_rfl) (by kernel_rfl) (by exact fun _ _ _ h => h) (Or.inl ⟨by first | kernel_rfl | rfl, ?hyR3x11⟩) (by exact hS) ?rsR3x11
        case hyR3x11 => (intro uz hSw; (try dsimp only at hSw); have hxx := HR.out.q hSw; have d0 := hxx.cell 3 rfl; have d1 := hxx.cell 4 rfl; have d2 := hxx.cell 5 rfl; clear hxx; go_simp; try with_reducible rfl)
        try simp only [Act.put, sA, sB, sC]
        change wpAnyH _ _ _ _ _ _ #[tt,tt,tt,tt,tt,tt,tt,tt,tt,ff,tt,tt,ff,ff,ff,ff,ff] _ _
        refine wpAnyH_ready (rs := [9]) (by kernel_rfl) (by simp) ?_
        refine (AllReadyH.cons (by (try simp only [gA, gB, gC]); rfl) (fun K hK => ?_) AllReadyH.nil)
        go_simp
        refine (Kl.as_q _ _ _ _ _ _).mono ?_
        rintro e yR3x12 ⟨rfl, hq⟩
        try (go_wp2_with fail)
        have hS2 := Q.trans hS hq
        refine hK.out _ _ (by exact hS2) (fun hHeld => ?_)
        clear hK K hHeld hS hq
        have hS := hS2
        clear hS2
        try simp only [Act.put, sA, sB, sC]
        change wpAnyH _ _ _ _ _ _ #[tt,tt,tt,tt,tt,tt,tt,tt,tt,tt,tt,tt,ff,ff,ff,ff,ff] _ _
        refine wpAnyH_ready (rs := [12]) (by kernel_rfl) (by simp) ?_
        refine (AllReadyH.cons (by (try simp only [gA, gB, gC]); rfl) (fun K hK => ?_) AllReadyH.nil)
        go_simp
        refine (Kl.as_q _ _ _ _ _ _).mono ?_
        rintro e yR3x13 ⟨rfl, hq⟩
        try (go_wp2_with fail)
        have hS2 := Q.trans hS hq
        refine hK.out _ _ (by exact hS2) (fun hHeld => ?_)
        clear hK K hHeld hS hq
        have hS := hS2
        clear hS2
        try simp only [Act.put, sA, sB, sC]
        change wpAnyH _ _ _ _ _ _ #[tt,tt,tt,tt,tt,tt,tt,tt,tt,tt,tt,tt,tt,ff,ff,ff,ff] _ _
        refine wpAnyH_ready (rs := [13]) (by kernel_rfl) (by simp) ?_
        refine (AllReadyH.cons (by (try simp only [gA, gB, gC]); rfl) (fun K hK => ?_) AllReadyH.nil)
        go_simp
        refine (HCH.out _ _ _ _ _ (HLP.out.q hS) (HL2.out.q hS)).mono ?_
        rintro e yR3x14 ⟨rfl, hq⟩
        try (go_wp2_with fail)
        have hS2 := Q.trans hS hq
        refine hK.out _ _ (by exact hS2) (fun hHeld => ?_)
        clear hK K hHeld hS hq
        have hS := hS2
        clear hS2
        try simp only [Act.put, sA, sB, sC]
        change wpAnyH _ _ _ _ _ _ #[tt,tt,tt,tt,tt,tt,tt,tt,tt,tt,tt,tt,tt,tt,ff,ff,ff] _ _
        refine wpAnyH_take (i := 14) (v := ?vR3x15) (by (try simp only [gA, gB, gC]); rfl) (by kernel_rfl) (by kernel_rfl) (by kernel_rfl) (by exact fun _ _ _ h => h) (Or.inl ⟨by first | kernel_rfl | rfl, ?hyR3x15⟩) (by exact hS) ?rsR3x15
        case hyR3x15 => (intro uz hSw; (try dsimp only at hSw); go_simp; try with_reducible rfl)
        try simp only [Act.put, sA, sB, sC]
        change wpAnyH _ _ _ _ _ _ #[tt,tt,tt,tt,tt,tt,tt,tt,tt,tt,tt,tt,tt,tt,tt,ff,ff] _ _
        refine wpAnyH_take (i := 15) (v := ?vR3x16) (by (try simp only [gA, gB, gC]); rfl) (by kernel_rfl) (by kernel_rfl) (by kernel_rfl) (by exact fun _ _ _ h => h) (Or.inl ⟨by first | kernel_rfl | rfl, ?hyR3x16⟩) (by exact hS) ?rsR3x16
        case hyR3x16 => (intro uz hSw; (try dsimp only at hSw); go_simp; try with_reducible rfl)
        try simp only [Act.put, sA, sB, sC]
        change wpAnyH _ _ _ _ _ _ #[tt,tt,tt,tt,tt,tt,tt,tt,tt,tt,tt,tt,tt,tt,tt,tt,ff] _ _
        refine wpAnyH_take (i := 16) (v := ?vR3x17) (by (try simp only [gA, gB, gC]); rfl) (by kernel_rfl) (by kernel_rfl) (by kernel_rfl) (by exact fun _ _ _ h => h) (Or.inl ⟨by first | kernel_rfl | rfl, ?hyR3x17⟩) (by exact hS) ?rsR3x17
        case hyR3x17 => (intro uz hSw; (try dsimp only at hSw); go_simp; try with_reducible rfl)
        try simp only [Act.put, sA, sB, sC]
        change wpAnyH _ _ _ _ _ _ #[tt,tt,tt,tt,tt,tt,tt,tt,tt,tt,tt,tt,tt,tt,tt,tt,tt] _ _
        refine wpAnyH_done (by kernel_rfl) ?_ _
        go_wp2_with fail
        go_meet
        exact ⟨rfl, hS⟩
      case rest =>
        obtain ⟨rfl, hqc⟩ := hcut
        obtain ⟨v11, hv11⟩ : ∃ x, x = wc := ⟨_, rfl⟩
        subst hv11
        replace HQ := Lib.hid (Q.trans HQ.out hqc)
        replace HR := Lib.hid (Bk.q HR.out hqc)
        replace HL1 := Lib.hid (Lst.q HL1.out hqc)
        replace HL2 := Lib.hid (Lst.q HL2.out hqc)
        replace HL3 := Lib.hid (Lst.q HL3.out hqc)
        replace HBX := Lib.hid (Bk.q HBX.out hqc)
        replace HLX := Lib.hid (Lst.q HLX.out hqc)
        replace HBY := Lib.hid (Bk.q HBY.out hqc)
        replace HLY := Lib.hid (Lst.q HLY.out hqc)
        replace HBP := Lib.hid (Bk.q HBP.out hqc)
        replace HLP := Lib.hid (Lst.q HLP.out hqc)
        replace HBZ := Lib.hid (Bk.q HBZ.out hqc)
        replace HLZ := Lib.hid (Lst.q HLZ.out hqc)
        clear hqc
        go_upto_region 11 with fail
        by_cases hx : 0 < kx
        · have hx1 : decide ((0 : Int) < kx) = true := decide_eq_true hx
          refine wp_region_held_drew (S := fun u => Q v11 u) (by kernel_rfl) (by exact (Q.refl v11).drew) (fun hHeld => ?_)
          have hS : Q v11 v11.drew := hHeld
          clear hHeld
          have hq : Q v11 v11.drew := (Q.refl _).drew
          clear hq
          generalize v11.drew = yR4x0 at *
          change wpAnyH _ _ _ _ _ _ #[ff,ff,ff,ff,ff,ff,ff,ff,ff,ff,ff,ff,ff,ff,ff,ff,ff,ff,ff] _ _
          refine wpAnyH_take (i := 0) (v := ?vR4x1) (by (try simp only [gA, gB, gC]); rfl) (by kernel_rfl) (by kernel_rfl) (by kernel_rfl) (by exact fun _ _ _ h => h) (Or.inl ⟨by first | kernel_rfl | rfl, ?hyR4x1⟩) (by exact hS) ?rsR4x1
          case hyR4x1 => (intro uz hSw; (try dsimp only at hSw); go_simp; try with_reducible rfl)
          try simp only [Act.put, sA, sB, sC]
          change wpAnyH _ _ _ _ _ _ #[tt,ff,ff,ff,ff,ff,ff,ff,ff,ff,ff,ff,ff,ff,ff,ff,ff,ff,ff] _ _
          refine wpAnyH_take (i := 1) (v := ?vR4x2) (by (try simp only [gA, gB, gC]); rfl) (by kernel_rfl) (by kernel_rfl) (by kernel_rfl) (by exact fun _ _ _ h => h) (Or.inl ⟨by first | kernel_rfl | rfl, ?hyR4x2⟩) (by exact hS) ?rsR4x2
          case hyR4x2 => (intro uz hSw; (try dsimp only at hSw); go_simp; try with_reducible rfl)
          try simp only [Act.put, sA, sB, sC]
          change wpAnyH _ _ _ _ _ _ #[tt,tt,ff,ff,ff,ff,ff,ff,ff,ff,ff,ff,ff,ff,ff,ff,ff,ff,ff] _ _
          refine wpAnyH_take (i := 2) (v := ?vR4x3) (by (try simp only [gA, gB, gC]); rfl) (by kernel_rfl) (by kernel_rfl) (by kernel_rfl) (by exact fun _ _ _ h => h) (Or.inl ⟨by first | kernel_rfl | rfl, ?hyR4x3⟩) (by exact hS) ?rsR4x3
          case hyR4x3 => (intro uz hSw; (try dsimp only at hSw); have hxx := HBX.out.q hSw; have d0 := hxx.cell 0 rfl; have d1 := hxx.cell 1 rfl; have d2 := hxx.cell 2 rfl; clear hxx; go_simp; try with_reducible rfl)
          try simp only [Act.put, sA, sB, sC]
          change wpAnyH _ _ _ _ _ _ #[tt,tt,tt,ff,ff,ff,ff,ff,ff,ff,ff,ff,ff,ff,ff,ff,ff,ff,ff] _ _
          refine wpAnyH_take (i := 3) (v := ?vR4x4) (by (try simp only [gA, gB, gC]); rfl) (by kernel_rfl) (by kernel_rfl) (by kernel_rfl) (by exact fun _ _ _ h => h) (Or.inl ⟨by first | kernel_rfl | rfl, ?hyR4x4⟩) (by exact hS) ?rsR4x4
          case hyR4x4 => (intro uz hSw; (try dsimp only at hSw); have hxx := HBY.out.q hSw; have d0 := hxx.cell 0 rfl; have d1 := hxx.cell 1 rfl; have d2 := hxx.cell 2 rfl; clear hxx; go_simp; try with_reducible rfl)
          try simp only [Act.put, sA, sB, sC]
          change wpAnyH _ _ _ _ _ _ #[tt,tt,tt,tt,ff,ff,ff,ff,ff,ff,ff,ff,ff,ff,ff,ff,ff,ff,ff] _ _
          refine wpAnyH_ready (rs := [4]) (by kernel_rfl) (by simp) ?_
          refine (AllReadyH.cons (by (try simp only [gA, gB, gC]); rfl) (fun K hK => ?_) AllReadyH.nil)
          go_simp
          refine (HCX.out _ _ _ _ _ (HLX.out.q hS) (HLY.out.q hS)).mono ?_
          rintro e yR4x5 ⟨rfl, hq⟩
          try (go_wp2_with fail)
          have hS2 := Q.trans hS hq
          refine hK.out _ _ (by exact hS2) (fun hHeld => ?_)
          clear hK K hHeld hS hq
          have hS := hS2
          clear hS2
          try simp only [Act.put, sA, sB, sC]
          change wpAnyH _ _ _ _ _ _ #[tt,tt,tt,tt,tt,ff,ff,ff,ff,ff,ff,ff,ff,ff,ff,ff,ff,ff,ff] _ _
          refine wpAnyH_take (i := 5) (v := ?vR4x6) (by (try simp only [gA, gB, gC]); rfl) (by kernel_rfl) (by kernel_rfl) (by kernel_rfl) (by exact fun _ _ _ h => h) (Or.inl ⟨by first | kernel_rfl | rfl, ?hyR4x6⟩) (by exact hS) ?rsR4x6
          case hyR4x6 => (intro uz hSw; (try dsimp only at hSw); go_simp; try with_reducible rfl)
          try simp only [Act.put, sA, sB, sC]
          change wpAnyH _ _ _ _ _ _ #[tt,tt,tt,tt,tt,tt,ff,ff,ff,ff,ff,ff,ff,ff,ff,ff,ff,ff,ff] _ _
          refine wpAnyH_take (i := 6) (v := ?vR4x7) (by (try simp only [gA, gB, gC]); rfl) (by kernel_rfl) (by kernel_rfl) (by kernel_rfl) (by exact fun _ _ _ h => h) (Or.inl ⟨by first | kernel_rfl | rfl, ?hyR4x7⟩) (by exact hS) ?rsR4x7
          case hyR4x7 => (intro uz hSw; (try dsimp only at hSw); go_simp; try with_reducible rfl)
          try simp only [Act.put, sA, sB, sC]
          change wpAnyH _ _ _ _ _ _ #[tt,tt,tt,tt,tt,tt,tt,ff,ff,ff,ff,ff,ff,ff,ff,ff,ff,ff,ff] _ _
          refine wpAnyH_take (i := 7) (v := undef) (by (try simp only [gA, gB, gC]); rfl) (by kernel_rfl) (by kernel_rfl) (by kernel_rfl) (by exact fun _ _ _ h => h) (Or.inr ⟨by first | kernel_rfl | rfl, rfl⟩) (by exact hS) ?_
          try simp only [Act.put, sA, sB, sC]
          change wpAnyH _ _ _ _ _ _ #[tt,tt,tt,tt,tt,tt,tt,tt,ff,ff,ff,ff,ff,ff,ff,ff,ff,ff,ff] _ _
          refine wpAnyH_take (i := 9) (v := undef) (by (try simp only [gA, gB, gC]); rfl) (by kernel_rfl) (by kernel_rfl) (by kernel_rfl) (by exact fun _ _ _ h => h) (Or.inr ⟨by first | kernel_rfl | rfl, rfl⟩) (by exact hS) ?_
          try simp only [Act.put, sA, sB, sC]
          change wpAnyH _ _ _ _ _ _ #[tt,tt,tt,tt,tt,tt,tt,tt,ff,tt,ff,ff,ff,ff,ff,ff,ff,ff,ff] _ _
          refine wpAnyH_ready (rs := [8]) (by kernel_rfl) (by simp) ?_
          refine (AllReadyH.cons (by (try simp only [gA, gB, gC]); rfl) (fun K hK => ?_) AllReadyH.nil)
          go_simp
          refine hK.out _ _ (by exact hS) (fun hHeld => ?_)
          clear hK K hHeld
          try simp only [Act.put, sA, sB, sC]
          change wpAnyH _ _ _ _ _ _ #[tt,tt,tt,tt,tt,tt,tt,tt,tt,tt,ff,ff,ff,ff,ff,ff,ff,ff,ff] _ _
          refine wpAnyH_ready (rs := [10]) (by kernel_rfl) (by simp) ?_
          refine (AllReadyH.cons (by (try simp only [gA, gB, gC]); rfl) (fun K hK => ?_) AllReadyH.nil)
          go_simp
          refine hK.out _ _ (by exact hS) (fun hHeld => ?_)
          clear hK K hHeld
          try simp only [Act.put, sA, sB, sC]
          change wpAnyH _ _ _ _ _ _ #[tt,tt,tt,tt,tt,tt,tt,tt,tt,tt,tt,ff,ff,ff,ff,ff,ff,ff,ff] _ _
          refine wpAnyH_ready (rs := [11]) (by kernel_rfl) (by simp) ?_
          refine (AllReadyH.cons (by (try simp only [gA, gB, gC]); rfl) (fun K hK => ?_) AllReadyH.nil)
          go_simp
          refine hK.out _ _ (by exact hS) (fun hHeld => ?_)
          clear hK K hHeld
          try simp only [Act.put, sA, sB, sC]
          change wpAnyH _ _ _ _ _ _ #[tt,tt,tt,tt,tt,tt,tt,tt,tt,tt,tt,tt,ff,ff,ff,ff,ff,ff,ff] _ _
          refine wpAnyH_take (i := 12) (v := undef) (by (try simp only [gA, gB, gC]); rfl) (by kernel_rfl) (by kernel_rfl) (by kernel_rfl) (by exact fun _ _ _ h => h) (Or.inr ⟨by first | kernel_rfl | rfl, rfl⟩) (by exact hS) ?_
          try simp only [Act.put, sA, sB, sC]
          change wpAnyH _ _ _ _ _ _ #[tt,tt,tt,tt,tt,tt,tt,tt,tt,tt,tt,tt,tt,ff,ff,ff,ff,ff,ff] _ _
          refine wpAnyH_take (i := 13) (v := ?vR4x14) (by (try simp only [gA, gB, gC]); rfl) (by kernel_rfl) (by kernel_rfl) (by kernel_rfl) (by exact fun _ _ _ h => h) (Or.inl ⟨by first | kernel_rfl | rfl, ?hyR4x14⟩) (by exact hS) ?rsR4x14
          case hyR4x14 => (intro uz hSw; (try dsimp only at hSw); go_simp; try with_reducible rfl)
          try simp only [Act.put, sA, sB, sC]
          change wpAnyH _ _ _ _ _ _ #[tt,tt,tt,tt,tt,tt,tt,tt,tt,tt,tt,tt,tt,tt,ff,ff,ff,ff,ff] _ _
          refine wpAnyH_take (i := 14) (v := ?vR4x15) (by (try simp only [gA, gB, gC]); rfl) (by kernel_rfl) (by kernel_rfl) (by kernel_rfl) (by exact fun _ _ _ h => h) (Or.inl ⟨by first | kernel_rfl | rfl, ?hyR4x15⟩) (by exact hS) ?rsR4x15
          case hyR4x15 => (intro uz hSw; (try dsimp only at hSw); go_simp; try with_reducible rfl)
          try simp only [Act.put, sA, sB, sC]
          change wpAnyH _ _ _ _ _ _ #[tt,tt,tt,tt,tt,tt,tt,tt,tt,tt,tt,tt,tt,tt,tt,ff,ff,ff,ff] _ _
          refine wpAnyH_take (i := 15) (v := ?vR4x16) (by (try simp only [gA, gB, gC]); rfl) (by kernel_rfl) (by kernel_rfl) (by kernel_rfl) (by exact fun _ _ _ h => h) (Or.inl ⟨by first | kernel_rfl | rfl, ?hyR4x16⟩) (by exact hS) ?rsR4x16
          case hyR4x16 => (intro uz hSw; (try dsimp only at hSw); go_simp; try with_reducible rfl)
          try simp only [Act.put, sA, sB, sC]
          change wpAnyH _ _ _ _ _ _ #[tt,tt,tt,tt,tt,tt,tt,tt,tt,tt,tt,tt,tt,tt,tt,tt,ff,ff,ff] _ _
          refine wpAnyH_ready (rs := [16]) (by kernel_rfl) (by simp) ?_
          refine (AllReadyH.cons (by (try simp only [gA, gB, gC]); rfl) (fun K hK => ?_) AllReadyH.nil)
          go_simp
          refine (HLI.out _).mono ?_
          rintro e yR4x17 ⟨rfl, hq⟩
          try (go_wp2_with fail)
          have hS2 := Q.trans hS hq
          refine hK.out _ _ (by exact hS2) (fun hHeld => ?_)
          clear hK K hHeld hS hq
          have hS := hS2
          clear hS2
          try simp only [Act.put, sA, sB, sC]
          change wpAnyH _ _ _ _ _ _ #[tt,tt,tt,tt,tt,tt,tt,tt,tt,tt,tt,tt,tt,tt,tt,tt,tt,ff,ff] _ _
          refine wpAnyH_take (i := 17) (v := ?vR4x18) (by (try simp only [gA, gB, gC]); rfl) (by kernel_rfl) (by kernel_rfl) (by kernel_rfl) (by exact fun _ _ _ h => h) (Or.inl ⟨by first | kernel_rfl | rfl, ?hyR4x18⟩) (by exact hS) ?rsR4x18
          case hyR4x18 => (intro uz hSw; (try dsimp only at hSw); go_simp; try with_reducible rfl)
          try simp only [Act.put, sA, sB, sC]
          change wpAnyH _ _ _ _ _ _ #[tt,tt,tt,tt,tt,tt,tt,tt,tt,tt,tt,tt,tt,tt,tt,tt,tt,tt,ff] _ _
          refine wpAnyH_take (i := 18) (v := ?vR4x19) (by (try simp only [gA, gB, gC]); rfl) (by kernel_rfl) (by kernel_rfl) (by kernel_rfl) (by exact fun _ _ _ h => h) (Or.inl ⟨by first | kernel_rfl | rfl, ?hyR4x19⟩) (by exact hS) ?rsR4x19
          case hyR4x19 => (intro uz hSw; (try dsimp only at hSw); go_simp; try with_reducible rfl)
          try simp only [Act.put, sA, sB, sC]
          change wpAnyH _ _ _ _ _ _ #[tt,tt,tt,tt,tt,tt,tt,tt,tt,tt,tt,tt,tt,tt,tt,tt,tt,tt,tt] _ _
          refine wpAnyH_done (by kernel_rfl) ?_ _
          go_wp2_with fail
          go_ret
          exact ⟨rfl, HQ.out.trans hS⟩
        · have hx1 : decide ((0 : Int) < kx) = false := decide_eq_false hx
          have hp := HB2.out (by omega)
          have hp1 : decide (kp ≤ (0 : Int)) = true := decide_eq_true hp
          refine wp_region_held_drew (S := fun u => Q v11 u) (by kernel_rfl) (by exact (Q.refl v11).drew) (fun hHeld => ?_)
          have hS : Q v11 v11.drew := hHeld
          clear hHeld
          have hq : Q v11 v11.drew := (Q.refl _).drew
          clear hq
          generalize v11.drew = yR5x0 at *
          change wpAnyH _ _ _ _ _ _ #[ff,ff,ff,ff,ff,ff,ff,ff,ff,ff,ff,ff,ff,ff,ff,ff,ff,ff,ff] _ _
          refine wpAnyH_take (i := 0) (v := ?vR5x1) (by (try simp only [gA, gB, gC]); rfl) (by kernel_rfl) (by kernel_rfl) (by kernel_rfl) (by exact fun _ _ _ h => h) (Or.inl ⟨by first | kernel_rfl | rfl, ?hyR5x1⟩) (by exact hS) ?rsR5x1
          case hyR5x1 => (intro uz hSw; (try dsimp only at hSw); go_simp; try with_reducible rfl)
          try simp only [Act.put, sA, sB, sC]
          change wpAnyH _ _ _ _ _ _ #[tt,ff,ff,ff,ff,ff,ff,ff,ff,ff,ff,ff,ff,ff,ff,ff,ff,ff,ff] _ _
          refine wpAnyH_take (i := 1) (v := ?vR5x2) (by (try simp only [gA, gB, gC]); rfl) (by kernel_rfl) (by kernel_rfl) (by kernel_rfl) (by exact fun _ _ _ h => h) (Or.inl ⟨by first | kernel_rfl | rfl, ?hyR5x2⟩) (by exact hS) ?rsR5x2
          case hyR5x2 => (intro uz hSw; (try dsimp only at hSw); go_simp; try with_reducible rfl)
          try simp only [Act.put, sA, sB, sC]
          change wpAnyH _ _ _ _ _ _ #[tt,tt,ff,ff,ff,ff,ff,ff,ff,ff,ff,ff,ff,ff,ff,ff,ff,ff,ff] _ _
          refine wpAnyH_take (i := 2) (v := ?vR5x3) (by (try simp only [gA, gB, gC]); rfl) (by kernel_rfl) (by kernel_rfl) (by kernel_rfl) (by exact fun _ _ _ h => h) (Or.inl ⟨by first | kernel_rfl | rfl, ?hyR5x3⟩) (by exact hS) ?rsR5x3
          case hyR5x3 => (intro uz hSw; (try dsimp only at hSw); have hxx := HBX.out.q hSw; have d0 := hxx.cell 0 rfl; have d1 := hxx.cell 1 rfl; have d2 := hxx.cell 2 rfl; clear hxx; go_simp; try with_reducible rfl)
          try simp only [Act.put, sA, sB, sC]
          change wpAnyH _ _ _ _ _ _ #[tt,tt,tt,ff,ff,ff,ff,ff,ff,ff,ff,ff,ff,ff,ff,ff,ff,ff,ff] _ _
          refine wpAnyH_take (i := 3) (v := ?vR5x4) (by (try simp only [gA, gB, gC]); rfl) (by kernel_rfl) (by kernel_rfl) (by kernel_rfl) (by exact fun _ _ _ h => h) (Or.inl ⟨by first | kernel_rfl | rfl, ?hyR5x4⟩) (by exact hS) ?rsR5x4
          case hyR5x4 => (intro uz hSw; (try dsimp only at hSw); have hxx := HBY.out.q hSw; have d0 := hxx.cell 0 rfl; have d1 := hxx.cell 1 rfl; have d2 := hxx.cell 2 rfl; clear hxx; go_simp; try with_reducible rfl)
          try simp only [Act.put, sA, sB, sC]
          change wpAnyH _ _ _ _ _ _ #[tt,tt,tt,tt,ff,ff,ff,ff,ff,ff,ff,ff,ff,ff,ff,ff,ff,ff,ff] _ _
          refine wpAnyH_ready (rs := [4]) (by kernel_rfl) (by simp) ?_
          refine (AllReadyH.cons (by (try simp only [gA, gB, gC]); rfl) (fun K hK => ?_) AllReadyH.nil)
          go_simp
          refine (HCX.out _ _ _ _ _ (HLX.out.q hS) (HLY.out.q hS)).mono ?_
          rintro e yR5x5 ⟨rfl, hq⟩
          try (go_wp2_with fail)
          have hS2 := Q.trans hS hq
          refine hK.out _ _ (by exact hS2) (fun hHeld => ?_)
          clear hK K hHeld hS hq
          have hS := hS2
          clear hS2
          try simp only [Act.put, sA, sB, sC]
          change wpAnyH _ _ _ _ _ _ #[tt,tt,tt,tt,tt,ff,ff,ff,ff,ff,ff,ff,ff,ff,ff,ff,ff,ff,ff] _ _
          refine wpAnyH_take (i := 5) (v := ?vR5x6) (by (try simp only [gA, gB, gC]); rfl) (by kernel_rfl) (by kernel_rfl) (by kernel_rfl) (by exact fun _ _ _ h => h) (Or.inl ⟨by first | kernel_rfl | rfl, ?hyR5x6⟩) (by exact hS) ?rsR5x6
          case hyR5x6 => (intro uz hSw; (try dsimp only at hSw); go_simp; try with_reducible rfl)
          try simp only [Act.put, sA, sB, sC]
          change wpAnyH _ _ _ _ _ _ #[tt,tt,tt,tt,tt,tt,ff,ff,ff,ff,ff,ff,ff,ff,ff,ff,ff,ff,ff] _ _
          refine wpAnyH_take (i := 6) (v := ?vR5x7) (by (try simp only [gA, gB, gC]); rfl) (by kernel_rfl) (by kernel_rfl) (by kernel_rfl) (by exact fun _ _ _ h => h) (Or.inl ⟨by first | kernel_rfl | rfl, ?hyR5x7⟩) (by exact hS) ?rsR5x7
          case hyR5x7 => (intro uz hSw; (try dsimp only at hSw); go_simp; try with_reducible rfl)
          try simp only [Act.put, sA, sB, sC]
          change wpAnyH _ _ _ _ _ _ #[tt,tt,tt,tt,tt,tt,tt,ff,ff,ff,ff,ff,ff,ff,ff,ff,ff,ff,ff] _ _
          refine wpAnyH_take (i := 7) (v := ?vR5x8) (by (try simp only [gA, gB, gC]); rfl) (by kernel_rfl) (by kernel_rfl) (by kernel_rfl) (by exact fun _ _ _ h => h) (Or.inl ⟨by first | kernel_rfl | rfl, ?hyR5x8⟩) (by exact hS) ?rsR5x8
          case hyR5x8 => (intro uz hSw; (try dsimp only at hSw); have hxx := HBP.out.q hSw; have d0 := hxx.cell 0 rfl; have d1 := hxx.cell 1 rfl; have d2 := hxx.cell 2 rfl; clear hxx; go_simp; try with_reducible rfl)
          try simp only [Act.put, sA, sB, sC]
          change wpAnyH _ _ _ _ _ _ #[tt,tt,tt,tt,tt,tt,tt,tt,ff,ff,ff,ff,ff,ff,ff,ff,ff,ff,ff] _ _
          refine wpAnyH_take (i := 9) (v := ?vR5x9) (by (try simp only [gA, gB, gC]); rfl) (by kernel_rfl) (by kernel_rfl) (by kernel_rfl) (by exact fun _ _ _ h => h) (Or.inl ⟨by first | kernel_rfl | rfl, ?hyR5x9⟩) (by exact hS) ?rsR5x9
          case hyR5x9 => (intro uz hSw; (try dsimp only at hSw); have hxx := HBZ.out.q hSw; have d0 := hxx.cell 0 rfl; have d1 := hxx.cell 1 rfl; have d2 := hxx.cell 2 rfl; clear hxx; go_simp; try with_reducible rfl)
          try simp only [Act.put, sA, sB, sC]
          change wpAnyH _ _ _ _ _ _ #[tt,tt,tt,tt,tt,tt,tt,tt,ff,tt,ff,ff,ff,ff,ff,ff,ff,ff,ff] _ _
          refine wpAnyH_ready (rs := [8]) (by kernel_rfl) (by simp) ?_
          refine (AllReadyH.cons (by (try simp only [gA, gB, gC]); rfl) (fun K hK => ?_) AllReadyH.nil)
          go_simp
          refine (Kl.as_q _ _ _ _ _ _).mono ?_
          rintro e yR5x10 ⟨rfl, hq⟩
          try (go_wp2_with fail)
          have hS2 := Q.trans hS hq
          refine hK.out _ _ (by exact hS2) (fun hHeld => ?_)
          clear hK K hHeld hS hq
          have hS := hS2
          clear hS2
          try simp only [Act.put, sA, sB, sC]
          change wpAnyH _ _ _ _ _ _ #[tt,tt,tt,tt,tt,tt,tt,tt,tt,tt,ff,ff,ff,ff,ff,ff,ff,ff,ff] _ _
          refine wpAnyH_ready (rs := [10]) (by kernel_rfl) (by simp) ?_
          refine (AllReadyH.cons (by (try simp only [gA, gB, gC]); rfl) (fun K hK => ?_) AllReadyH.nil)
          go_simp
          refine (Kl.as_q _ _ _ _ _ _).mono ?_
          rintro e yR5x11 ⟨rfl, hq⟩
          try (go_wp2_with fail)
          have hS2 := Q.trans hS hq
          refine hK.out _ _ (by exact hS2) (fun hHeld => ?_)
          clear hK K hHeld hS hq
          have hS := hS2
          clear hS2
          try simp only [Act.put, sA, sB, sC]
          change wpAnyH _ _ _ _ _ _ #[tt,tt,tt,tt,tt,tt,tt,tt,tt,tt,tt,ff,ff,ff,ff,ff,ff,ff,ff] _ _
          refine wpAnyH_ready (rs := [11]) (by kernel_rfl) (by simp) ?_
          refine (AllReadyH.cons (by (try simp only [gA, gB, gC]); rfl) (fun K hK => ?_) AllReadyH.nil)
          go_simp
          refine (HCP.out _ _ _ _ _ (HLP.out.q hS) (HLZ.out.q hS)).mono ?_
          rintro e yR5x12 ⟨rfl, hq⟩
          try (go_wp2_with fail)
          have hS2 := Q.trans hS hq
          refine hK.out _ _ (by exact hS2) (fun hHeld => ?_)
          clear hK K hHeld hS hq
          have hS := hS2
          clear hS2
          try simp only [Act.put, sA, sB, sC]
          change wpAnyH _ _ _ _ _ _ #[tt,tt,tt,tt,tt,tt,tt,tt,tt,tt,tt,tt,ff,ff,ff,ff,ff,ff,ff] _ _
          refine wpAnyH_take (i := 12) (v := ?vR5x13) (by (try simp only [gA, gB, gC]); rfl) (by kernel_rfl) (by kernel_rfl) (by kernel_rfl) (by exact fun _ _ _ h => h) (Or.inl ⟨by first | kernel_rfl | rfl, ?hyR5x13⟩) (by exact hS) ?rsR5x13
          case hyR5x13 => (intro uz hSw; (try dsimp only at hSw); go_simp; try with_reducible rfl)
          try simp only [Act.put, sA, sB, sC]
          change wpAnyH _ _ _ _ _ _ #[tt,tt,tt,tt,tt,tt,tt,tt,tt,tt,tt,tt,tt,ff,ff,ff,ff,ff,ff] _ _
          refine wpAnyH_take (i := 13) (v := ?vR5x14) (by (try simp only [gA, gB, gC]); rfl) (by kernel_rfl) (by kernel_rfl) (by kernel_rfl) (by exact fun _ _ _ h => h) (Or.inl ⟨by first | kernel_rfl | rfl, ?hyR5x14⟩) (by exact hS) ?rsR5x14
          case hyR5x14 => (intro uz hSw; (try dsimp only at hSw); go_simp; try with_reducible rfl)
          try simp only [Act.put, sA, sB, sC]
          change wpAnyH _ _ _ _ _ _ #[tt,tt,tt,tt,tt,tt,tt,tt,tt,tt,tt,tt,tt,tt,ff,ff,ff,ff,ff] _ _
          refine wpAnyH_take (i := 14) (v := ?vR5x15) (by (try simp only [gA, gB, gC]); rfl) (by kernel_rfl) (by kernel_rfl) (by kernel_rfl) (by exact fun _ _ _ h => h) (Or.inl ⟨by first | kernel_rfl | rfl, ?hyR5x15⟩) (by exact hS) ?rsR5x15
          case hyR5x15 => (intro uz hSw; (try dsimp only at hSw); go_simp; try with_reducible rfl)
          try simp only [Act.put, sA, sB, sC]
          change wpAnyH _ _ _ _ _ _ #[tt,tt,tt,tt,tt,tt,tt,tt,tt,tt,tt,tt,tt,tt,tt,ff,ff,ff,ff] _ _
          refine wpAnyH_take (i := 15) (v := ?vR5x16) (by (try simp only [gA, gB, gC]); rfl) (by kernel_rfl) (by kernel_rfl) (by kernel_rfl) (by exact fun _ _ _ h => h) (Or.inl ⟨by first | kernel_rfl | rfl, ?hyR5x16⟩) (by exact hS) ?rsR5x16
          case hyR5x16 => (intro uz hSw; (try dsimp only at hSw); go_simp; try with_reducible rfl)
          try simp only [Act.put, sA, sB, sC]
          change wpAnyH _ _ _ _ _ _ #[tt,tt,tt,tt,tt,tt,tt,tt,tt,tt,tt,tt,tt,tt,tt,tt,ff,ff,ff] _ _
          refine wpAnyH_ready (rs := [16]) (by kernel_rfl) (by simp) ?_
          refine (AllReadyH.cons (by (try simp only [gA, gB, gC]); rfl) (fun K hK => ?_) AllReadyH.nil)
          go_simp
          refine (HLI.out _).mono ?_
          rintro e yR5x17 ⟨rfl, hq⟩
          try (go_wp2_with fail)
          have hS2 := Q.trans hS hq
          refine hK.out _ _ (by exact hS2) (fun hHeld => ?_)
          clear hK K hHeld hS hq
          have hS := hS2
          clear hS2
          try simp only [Act.put, sA, sB, sC]
          change wpAnyH _ _ _ _ _ _ #[tt,tt,tt,tt,tt,tt,tt,tt,tt,tt,tt,tt,tt,tt,tt,tt,tt,ff,ff] _ _
          refine wpAnyH_take (i := 17) (v := ?vR5x18) (by (try simp only [gA, gB, gC]); rfl) (by kernel_rfl) (by kernel_rfl) (by kernel_rfl) (by exact fun _ _ _ h => h) (Or.inl ⟨by first | kernel_rfl | rfl, ?hyR5x18⟩) (by exact hS) ?rsR5x18
          case hyR5x18 => (intro uz hSw; (try dsimp only at hSw); go_simp; try with_reducible rfl)
          try simp only [Act.put, sA, sB, sC]
          change wpAnyH _ _ _ _ _ _ #[tt,tt,tt,tt,tt,tt,tt,tt,tt,tt,tt,tt,tt,tt,tt,tt,tt,tt,ff] _ _
          refine wpAnyH_take (i := 18) (v := ?vR5x19) (by (try simp only [gA, gB, gC]); rfl) (by kernel_rfl) (by kernel_rfl) (by kernel_rfl) (by exact fun _ _ _ h => h) (Or.inl ⟨by first | kernel_rfl | rfl, ?hyR5x19⟩) (by exact hS) ?rsR5x19
          case hyR5x19 => (intro uz hSw; (try dsimp only at hSw); go_simp; try with_reducible rfl)
          try simp only [Act.put, sA, sB, sC]
          change wpAnyH _ _ _ _ _ _ #[tt,tt,tt,tt,tt,tt,tt,tt,tt,tt,tt,tt,tt,tt,tt,tt,tt,tt,tt] _ _
          refine wpAnyH_done (by kernel_rfl) ?_ _
          go_wp2_with fail
          go_ret
          exact ⟨rfl, HQ.out.trans hS⟩

set_option maxRecDepth 100000 in
theorem lifted (os : Os) (started : os.Started) (H : Type) (enc : TypeId × Value → H) :
    ReturnsInHanded {} Try.checked os 6 .any (Rows.configBoundsSpec.pre6 enc Try.prog Try.f6 Rows.configBoundsRow.domain false) (Rows.configBoundsSpec.post enc Try.prog Try.f6 false true false false) := by
  refine returnsInHanded_of_change (C := Try.checked) own started (by kernel_rfl) Try.func6
    (ChangeSpec.witness6 (enc := enc) (C := Try.checked) false ⟨#[], #[.agg #[.bool false, .slice none 0 0, .int .i64 0, .bool false, .slice none 0 0, .int .i64 0, .slice none 0 0, .bool false, .int .i64 0, .int .i64 0, .int .i64 0, .int .i64 0, .int .i64 0, .int .i64 0, .int .i64 0], .agg #[.bool false, .slice none 0 0, .int .i64 0], .agg #[.bool false, .slice none 0 0, .int .i64 0]], []⟩ 8 (by kernel_rfl) (by kernel_rfl) (by kernel_rfl) (by kernel_rfl)) ?_
  intro W base args ds gs before hval0 hW hcnd _
  have hval : ∀ (j : Nat) t v, Try.f6.params[j]? = some t → args[j]? = some v → Value.okWide Try.prog W .any base t v := hval0
  have hW' := hW
  obtain ⟨p, q, hA0, hV, rfl, hfz, hnd⟩ := hW
  have hA : DataW.TrodAll enc Try.prog W 0 (fun _ => true) true Try.f6.params.toList args.toList ds p := hA0
  rw [Try.params6] at hA hval
  obtain ⟨v0, vs0, d0, ds0, p0, q0, hargs, rfl, rfl, h0, r0⟩ := trodAll_cons hA
  obtain ⟨v1, vs1, d1, ds1, p1, q1, rfl, rfl, rfl, h1, r1⟩ := trodAll_cons r0
  obtain ⟨v2, vs2, d2, ds2, p2, q2, rfl, rfl, rfl, h2, r2⟩ := trodAll_cons r1
  obtain ⟨rfl, rfl, rfl⟩ := trodAll_nil r2
  obtain rfl : args = #[v0, v1, v2] := by cases args; simp_all
  obtain ⟨rfl, rfl⟩ := trodVars_none hV
  have k0 := h0
  have lt0 : ∀ x ∈ p0, x.block < W.heap.size := by obtain ⟨m, hm⟩ := k0; exact DataW.trod_lt m _ _ _ hm
  obtain ⟨cs0, rfl, hc0, hf0⟩ := FrH.open_any Try.underlying28 (k := 15) (by kernel_rfl) (hval 0 28 v0 rfl rfl) h0
  obtain ⟨f0_0, f0_1, f0_2, f0_3, f0_4, f0_5, f0_6, f0_7, f0_8, f0_9, f0_10, f0_11, f0_12, f0_13, f0_14, rfl⟩ := FrH.arr15 hc0
  have hn0_1 := FrH.nest Try.underlying28 hf0 0 rfl 0 3 rfl (T := 24) rfl (by kernel_rfl) (l := [f0_0, f0_1, f0_2]) rfl
  have hn0_2 := FrH.nest Try.underlying24 hn0_1 0 rfl 0 1 rfl (T := 4) rfl (by kernel_rfl) (l := [f0_0]) rfl
  have hn0_3 := FrH.nest Try.underlying24 hn0_1 1 rfl 1 1 rfl (T := 22) rfl (by kernel_rfl) (l := [f0_1]) rfl
  have hn0_4 := FrH.nest Try.underlying24 hn0_1 2 rfl 2 1 rfl (T := 3) rfl (by kernel_rfl) (l := [f0_2]) rfl
  have hn0_5 := FrH.nest Try.underlying28 hf0 1 rfl 3 3 rfl (T := 24) rfl (by kernel_rfl) (l := [f0_3, f0_4, f0_5]) rfl
  have hn0_6 := FrH.nest Try.underlying24 hn0_5 0 rfl 0 1 rfl (T := 4) rfl (by kernel_rfl) (l := [f0_3]) rfl
  have hn0_7 := FrH.nest Try.underlying24 hn0_5 1 rfl 1 1 rfl (T := 22) rfl (by kernel_rfl) (l := [f0_4]) rfl
  have hn0_8 := FrH.nest Try.underlying24 hn0_5 2 rfl 2 1 rfl (T := 3) rfl (by kernel_rfl) (l := [f0_5]) rfl
  have hn0_9 := FrH.nest Try.underlying28 hf0 2 rfl 6 1 rfl (T := 22) rfl (by kernel_rfl) (l := [f0_6]) rfl
  have hn0_10 := FrH.nest Try.underlying28 hf0 3 rfl 7 1 rfl (T := 4) rfl (by kernel_rfl) (l := [f0_7]) rfl
  have hn0_11 := FrH.nest Try.underlying28 hf0 4 rfl 8 7 rfl (T := 26) rfl (by kernel_rfl) (l := [f0_8, f0_9, f0_10, f0_11, f0_12, f0_13, f0_14]) rfl
  have hn0_12 := FrH.nest Try.underlying26 hn0_11 0 rfl 0 1 rfl (T := 3) rfl (by kernel_rfl) (l := [f0_8]) rfl
  have hn0_13 := FrH.nest Try.underlying26 hn0_11 1 rfl 1 1 rfl (T := 3) rfl (by kernel_rfl) (l := [f0_9]) rfl
  have hn0_14 := FrH.nest Try.underlying26 hn0_11 2 rfl 2 1 rfl (T := 3) rfl (by kernel_rfl) (l := [f0_10]) rfl
  have hn0_15 := FrH.nest Try.underlying26 hn0_11 3 rfl 3 1 rfl (T := 3) rfl (by kernel_rfl) (l := [f0_11]) rfl
  have hn0_16 := FrH.nest Try.underlying26 hn0_11 4 rfl 4 1 rfl (T := 3) rfl (by kernel_rfl) (l := [f0_12]) rfl
  have hn0_17 := FrH.nest Try.underlying26 hn0_11 5 rfl 5 1 rfl (T := 3) rfl (by kernel_rfl) (l := [f0_13]) rfl
  have hn0_18 := FrH.nest Try.underlying26 hn0_11 6 rfl 6 1 rfl (T := 3) rfl (by kernel_rfl) (l := [f0_14]) rfl
  obtain ⟨g0_0, rfl⟩ := FrH.bool_of Try.underlying4 hn0_2
  obtain ⟨xs0_1, w0_1, b0_1⟩ := FrH.lst_of Try.underlying22 Try.underlying3 (by kernel_rfl) hn0_3
  obtain ⟨s0_2, rfl, ws0_2⟩ := FrH.int_of Try.underlying3 hn0_4
  obtain ⟨g0_3, rfl⟩ := FrH.bool_of Try.underlying4 hn0_6
  obtain ⟨xs0_4, w0_4, b0_4⟩ := FrH.lst_of Try.underlying22 Try.underlying3 (by kernel_rfl) hn0_7
  obtain ⟨s0_5, rfl, ws0_5⟩ := FrH.int_of Try.underlying3 hn0_8
  obtain ⟨xs0_6, w0_6, b0_6⟩ := FrH.lst_of Try.underlying22 Try.underlying3 (by kernel_rfl) hn0_9
  obtain ⟨g0_7, rfl⟩ := FrH.bool_of Try.underlying4 hn0_10
  obtain ⟨s0_8, rfl, ws0_8⟩ := FrH.int_of Try.underlying3 hn0_12
  obtain ⟨s0_9, rfl, ws0_9⟩ := FrH.int_of Try.underlying3 hn0_13
  obtain ⟨s0_10, rfl, ws0_10⟩ := FrH.int_of Try.underlying3 hn0_14
  obtain ⟨s0_11, rfl, ws0_11⟩ := FrH.int_of Try.underlying3 hn0_15
  obtain ⟨s0_12, rfl, ws0_12⟩ := FrH.int_of Try.underlying3 hn0_16
  obtain ⟨s0_13, rfl, ws0_13⟩ := FrH.int_of Try.underlying3 hn0_17
  obtain ⟨s0_14, rfl, ws0_14⟩ := FrH.int_of Try.underlying3 hn0_18
  have k1 := h1
  have lt1 : ∀ x ∈ p1, x.block < W.heap.size := by obtain ⟨m, hm⟩ := k1; exact DataW.trod_lt m _ _ _ hm
  obtain ⟨c10, c11, c12, y10, y11, y12, m1, rfl, _, _, hy10, hy11, hy12⟩ := Joins.open_agg3 Try.underlying24 (by kernel_rfl) (by kernel_rfl) (hval 1 24 v1 rfl rfl) h1
  obtain ⟨g1, rfl⟩ : ∃ b, c10 = .bool b := by
    obtain ⟨b, h, _⟩ := DataW.trod_bool Try.underlying4 hy10
    exact ⟨b, by simpa using h⟩
  obtain ⟨s1, rfl, ws1⟩ : ∃ n, c12 = .int .i64 n ∧ (Lit.int .i64 n).wf = true := by
    obtain ⟨n, h, _, hw⟩ := DataW.trod_int Try.underlying3 hy12
    exact ⟨n, by simpa using h, hw⟩
  obtain ⟨a1, len1, cap1, z1, rfl, w1⟩ : ∃ a len cap zs, c11 = .slice a len cap ∧ IsRow .i64 W a len cap zs := by
    rcases open_ints Try.underlying22 Try.underlying3 (by kernel_rfl) hy11 with ⟨hcs, _⟩ | ⟨x, l, c, zs, hcs, _, hl, hm, hz, _, hcell, hwz⟩
    · exact ⟨none, 0, 0, [], by simpa using hcs, .inl ⟨rfl, rfl, rfl, rfl⟩⟩
    · exact ⟨some x, l, c, zs, by simpa using hcs, .inr ⟨_, rfl, hl, hm, by simpa using hz, hcell, hwz⟩⟩
  obtain ⟨xs1, l1, _, b1⟩ := w1.lst
  have k2 := h2
  have lt2 : ∀ x ∈ p2, x.block < W.heap.size := by obtain ⟨m, hm⟩ := k2; exact DataW.trod_lt m _ _ _ hm
  obtain ⟨c20, c21, c22, y20, y21, y22, m2, rfl, _, _, hy20, hy21, hy22⟩ := Joins.open_agg3 Try.underlying24 (by kernel_rfl) (by kernel_rfl) (hval 2 24 v2 rfl rfl) h2
  obtain ⟨g2, rfl⟩ : ∃ b, c20 = .bool b := by
    obtain ⟨b, h, _⟩ := DataW.trod_bool Try.underlying4 hy20
    exact ⟨b, by simpa using h⟩
  obtain ⟨s2, rfl, ws2⟩ : ∃ n, c22 = .int .i64 n ∧ (Lit.int .i64 n).wf = true := by
    obtain ⟨n, h, _, hw⟩ := DataW.trod_int Try.underlying3 hy22
    exact ⟨n, by simpa using h, hw⟩
  obtain ⟨a2, len2, cap2, z2, rfl, w2⟩ : ∃ a len cap zs, c21 = .slice a len cap ∧ IsRow .i64 W a len cap zs := by
    rcases open_ints Try.underlying22 Try.underlying3 (by kernel_rfl) hy21 with ⟨hcs, _⟩ | ⟨x, l, c, zs, hcs, _, hl, hm, hz, _, hcell, hwz⟩
    · exact ⟨none, 0, 0, [], by simpa using hcs, .inl ⟨rfl, rfl, rfl, rfl⟩⟩
    · exact ⟨some x, l, c, zs, by simpa using hcs, .inr ⟨_, rfl, hl, hm, by simpa using hz, hcell, hwz⟩⟩
  obtain ⟨xs2, l2, _, b2⟩ := w2.lst
  clear hA0 hval0
  refine (walk W g0_0 f0_1 xs0_1 w0_1 b0_1 s0_2 ws0_2 g0_3 f0_4 xs0_4 w0_4 b0_4 s0_5 ws0_5 f0_6 xs0_6 w0_6 b0_6 g0_7 s0_8 ws0_8 s0_9 ws0_9 s0_10 ws0_10 s0_11 ws0_11 s0_12 ws0_12 s0_13 ws0_13 s0_14 ws0_14 g1 (.slice a1 len1 cap1) xs1 l1 b1 s1 (bounds_i64 ws1) g2 (.slice a2 len2 cap2) xs2 l2 b2 s2 (bounds_i64 ws2)).mono fun e W' ⟨he, bel⟩ => ?_
  subst he
  exact ⟨_, rfl, _, _, _, [], _, [], hW', trodAll_mk1 (shut_bool Try.underlying4 _), (trodAll_cons_mk (Below.trod laidOut (by kernel_rfl) (of_decide_eq_true (by kernel_rfl)) k0 bel lt0) (trodAll_cons_mk (Below.trod laidOut (by kernel_rfl) (of_decide_eq_true (by kernel_rfl)) k1 bel lt1) (trodAll_cons_mk (Below.trod laidOut (by kernel_rfl) (of_decide_eq_true (by kernel_rfl)) k2 bel lt2) trodAll_mk0))), rfl, bel.below.frame _, fun h => by cases h⟩

/-- The statement. -/
theorem proved : Rows.ConfigBoundsSaid :=
  OpenClaim.holds_of_wide 6 Try.f6 rfl rfl rfl rfl rfl rfl rfl ⟨rfl, rfl, rfl, rfl, rfl⟩ rfl rfl rfl rfl rfl (by kernel_rfl) Try.func6 (by kernel_rfl)
    (of_decide_eq_true (by kernel_rfl)) (by unfold Func.isWrapper; first | (rw [if_pos (by decide +kernel)]; kernel_rfl) | (rw [if_neg (by decide +kernel)]; exact ⟨rfl, rfl⟩))
    (fun os started H enc _ => lifted os started H enc)
#print axioms proved
end Go.Proofs.Yteljedefbomlgaa.configBounds
