/- ConfigValues: of whatever configuration (made one that may be), and whatever decimal (its first 14 numbers; raw, and made one that may be), a number's value is the document's, or refused, and it fits, and is its own value; no conditions. -/
import Derived.Test.YteljedefbomlgaaRows
import Derived.WalkKit
import Derived.ProofKit
import Derived.OpenShut
import Derived.ShutString
import Derived.ChangeOld
import Derived.Below
import Derived.Lib.SmallJoins
import Derived.Test.YteljedefbomlgaaR00
import Derived.Test.YteljedefbomlgaaR02
import Derived.Test.YteljedefbomlgaaR03
import Derived.Test.YteljedefbomlgaaR01
import Derived.Test.YteljedefbomlgaaR08
import Derived.Test.YteljedefbomlgaaR10
import Derived.Test.YteljedefbomlgaaR12
import Derived.Test.YteljedefbomlgaaR06
import Derived.Test.YteljedefbomlgaaR13
import Derived.Test.YteljedefbomlgaaR23
import Derived.Test.YteljedefbomlgaaR30
import Derived.Test.YteljedefbomlgaaR26
import Derived.Test.YteljedefbomlgaaR27
import Derived.Test.YteljedefbomlgaaR37
import Derived.Test.YteljedefbomlgaaR38
import Derived.Test.YteljedefbomlgaaR39
import Derived.Test.YteljedefbomlgaaR40
import Derived.Test.YteljedefbomlgaaR42
import Derived.Test.YteljedefbomlgaaR49
import Derived.Test.YteljedefbomlgaaR41
import Derived.Test.YteljedefbomlgaaR43
import Derived.Test.YteljedefbomlgaaR50
import Derived.Test.YteljedefbomlgaaR46
import Derived.Test.YteljedefbomlgaaR51
import Derived.Test.YteljedefbomlgaaR32
import Derived.Test.YteljedefbomlgaaR44
import Derived.Test.YteljedefbomlgaaR48
set_option linter.unusedVariables false
set_option linter.unusedSimpArgs false
namespace Go.Proofs.Yteljedefbomlgaa.configValues
open Go.ChangeShapes Go.WideShapes Go.ChangeAt Go.RowKit
open Go.ChangeMaps (open_string shut_string)

theorem own : ownKnob Try.prog.godebug = none := by kernel_rfl
theorem laidOut : laidOutB Try.prog = true := by kernel_rfl


set_option maxHeartbeats 8000000 in
set_option maxRecDepth 100000 in
theorem walk (w : World) (g0_0 : Bool) (f0_1 : Value) (xs0_1 : List Int) (w0_1 : Lst w f0_1 xs0_1) (b0_1 : ∀ n ∈ xs0_1, -9223372036854775808 ≤ n ∧ n ≤ 9223372036854775807) (s0_2 : Int) (ws0_2 : -9223372036854775808 ≤ s0_2 ∧ s0_2 ≤ 9223372036854775807) (g0_3 : Bool) (f0_4 : Value) (xs0_4 : List Int) (w0_4 : Lst w f0_4 xs0_4) (b0_4 : ∀ n ∈ xs0_4, -9223372036854775808 ≤ n ∧ n ≤ 9223372036854775807) (s0_5 : Int) (ws0_5 : -9223372036854775808 ≤ s0_5 ∧ s0_5 ≤ 9223372036854775807) (f0_6 : Value) (xs0_6 : List Int) (w0_6 : Lst w f0_6 xs0_6) (b0_6 : ∀ n ∈ xs0_6, -9223372036854775808 ≤ n ∧ n ≤ 9223372036854775807) (g0_7 : Bool) (s0_8 : Int) (ws0_8 : -9223372036854775808 ≤ s0_8 ∧ s0_8 ≤ 9223372036854775807) (s0_9 : Int) (ws0_9 : -9223372036854775808 ≤ s0_9 ∧ s0_9 ≤ 9223372036854775807) (s0_10 : Int) (ws0_10 : -9223372036854775808 ≤ s0_10 ∧ s0_10 ≤ 9223372036854775807) (s0_11 : Int) (ws0_11 : -9223372036854775808 ≤ s0_11 ∧ s0_11 ≤ 9223372036854775807) (s0_12 : Int) (ws0_12 : -9223372036854775808 ≤ s0_12 ∧ s0_12 ≤ 9223372036854775807) (s0_13 : Int) (ws0_13 : -9223372036854775808 ≤ s0_13 ∧ s0_13 ≤ 9223372036854775807) (s0_14 : Int) (ws0_14 : -9223372036854775808 ≤ s0_14 ∧ s0_14 ≤ 9223372036854775807) (g1 : Bool) (v1 : Value) (xs1 : List Int) (w1 : Lst w v1 xs1) (b1 : ∀ n ∈ xs1, -9223372036854775808 ≤ n ∧ n ≤ 9223372036854775807) (s1 : Int) (ws1 : -9223372036854775808 ≤ s1 ∧ s1 ≤ 9223372036854775807) :
    Calls Try.prog 3 #[.agg #[.bool g0_0, f0_1, .int .i64 s0_2, .bool g0_3, f0_4, .int .i64 s0_5, f0_6, .bool g0_7, .int .i64 s0_8, .int .i64 s0_9, .int .i64 s0_10, .int .i64 s0_11, .int .i64 s0_12, .int .i64 s0_13, .int .i64 s0_14], .agg #[.bool g1, v1, .int .i64 s1]] w fun e w' => e = .returned (.bool true) ∧ Q w w' := by
  obtain ⟨ga, gb, A, B, d, n0, n1, n2, n3, n4, n5, n6, hgk, hgd⟩ := Kl.start g0_0 g0_3 g0_7 f0_1 f0_4 f0_6 s0_2 s0_5 xs0_1 xs0_4 xs0_6 s0_8 s0_9 s0_10 s0_11 s0_12 s0_13 s0_14 w w0_1 w0_4 w0_6 b0_1 b0_4 b0_6 ws0_2 ws0_5 ws0_8 ws0_9 ws0_10 ws0_11 ws0_12 ws0_13 ws0_14
  obtain ⟨al, cl, rfl⟩ := w0_1.shape
  obtain ⟨ah, ch, rfl⟩ := w0_4.shape
  obtain ⟨az, cz, rfl⟩ := w0_6.shape
  obtain ⟨ll, hll⟩ : ∃ x, x = xs0_1.length := ⟨_, rfl⟩
  obtain ⟨lh, hlh⟩ : ∃ x, x = xs0_4.length := ⟨_, rfl⟩
  obtain ⟨lz, hlz⟩ : ∃ x, x = xs0_6.length := ⟨_, rfl⟩
  rw [← hll, ← hlh, ← hlz] at hgd ⊢
  clear w0_1 w0_4 w0_6 b0_1 b0_4 b0_6 ws0_2 ws0_5 ws0_8 ws0_9 ws0_10 ws0_11 ws0_12 ws0_13 ws0_14 hll hlh hlz
  have HGD := Lib.hid hgd
  have HRU := Lib.hid (fun u (q : Q w u) => Kr.rules_any g0_0 g0_3 g0_7 al ah az ll cl lh ch lz cz s0_2 s0_5 s0_8 s0_9 s0_10 s0_11 s0_12 s0_13 s0_14 u hgk (fun u' q' => hgd u' (q.trans q')))
  have HNW := Lib.hid (fun u => Kp.new_good hgk u)
  have HOF := Lib.hid (fun u => Kl.of_q (Dm.prt ga A n2) (Dm.prt gb B n2) (Dm.prt false [d] n2) n0 n1 n2 n3 n4 n5 n6 u)
  have HLI := Lib.hid Kl.lives_any
  have gle := hgk.le
  have gcl := hgk.cle
  have q1 := Km.dLo_s ga A n2
  have q2 := Km.dLo_s gb B n2
  have q3 := Km.dLo_s false [d] n2
  have p1 := Km.dLo_len ga A n2 hgk.a
  have p2 := Km.dLo_len gb B n2 hgk.b
  have p3 := Km.dLo_len false [d] n2 hgk.okd
  have tr1 := Km.dLo_tr ga A n2
  have tr2 := Km.dLo_tr gb B n2
  have z1 := Km.dLo_abs ga A n2 (n0 + n2) hgk.a hgk.al
  have z2 := Km.dLo_abs gb B n2 (n0 + n2) hgk.b hgk.bl
  have ng := Km.neg_cmp ga (Dm.num A) n2
  have ng2 : decide (Dm.cmpD (Km.dLo ga A n2).g (Km.dLo ga A n2).m (Km.dLo ga A n2).s false 0 0 < 0) = (Km.dLo ga A n2).g := ng
  have ma := hgk.al
  have mb := hgk.bl
  have m0 := hgk.m0
  have m1 := hgk.m1
  have m2 := hgk.m2
  have m5 := hgk.m5
  simp only [List.length_cons, List.length_nil] at p3
  clear hgd hgk ng
  generalize Km.dLo ga A n2 = lo at *
  generalize Km.dLo gb B n2 = hi at *
  generalize Km.dLo false [d] n2 = st at *
  generalize Dm.prt ga A n2 = t0 at *
  generalize Dm.prt gb B n2 = t1 at *
  generalize Dm.prt false [d] n2 = t2 at *
  have p1' : (Dm.dg lo.m).length ≤ 13 := by omega
  have p2' : (Dm.dg hi.m).length ≤ 13 := by omega
  have p3' : (Dm.dg st.m).length ≤ 13 := by omega
  have lb : n2 ≤ 5 := by omega
  clear p1 p2 p3 ma mb m1 m2
  obtain ⟨A1, C1, rfl, hca1, hcb1⟩ := w1.shape2
  obtain ⟨l1, hl1⟩ : ∃ x, x = xs1.length := ⟨_, rfl⟩
  rw [← hl1] at hca1 ⊢
  have w1' : Lst w (.slice A1 l1 C1) xs1 := by rw [hl1]; exact w1
  obtain ⟨tz1, htz1⟩ : ∃ t : Nat, Um.around s1 10 = (t : Int) := ⟨(Um.around s1 10).toNat, by have := Um.around_bd s1 10 (by omega); omega⟩
  have tb1 : tz1 ≤ 9 := by have := Um.around_bd s1 10 (by omega); omega
  have xl1 := Dm.gdL_len xs1 14
  have xk1 := Dm.gdL_ok xs1 14
  obtain ⟨xn1, hxn1⟩ : ∃ x, (Dm.gdL xs1 14).length = x := ⟨_, rfl⟩
  have HX1 := Lib.hid (fun u (q : Q w u) => Ep.good_sh u g1 A1 l1 C1 s1 xs1 14 (w1'.q q) hl1.symm ws1 (by omega) b1 tz1 xn1 htz1 hxn1)
  rw [hxn1] at xl1
  have xb1 : xn1 ≤ 14 := by omega
  generalize Dm.gdL xs1 14 = X1 at *
  clear w1 htz1 xl1
  obtain ⟨f1, hf1⟩ : ∃ x, min l1 14 = x := ⟨_, rfl⟩
  have fb1 : f1 ≤ 14 := by omega
  have HW1 := Lib.hid (fun u => Ep.few_sh u g1 A1 l1 C1 s1 14 f1 hca1 hcb1 (by omega) hf1)
  have hr1 : Lst w (.slice A1 f1 C1) (xs1.take f1) := Lst.take w1' f1 (by omega)
  have rn1 : (xs1.take f1).length = f1 := by rw [List.length_take]; omega
  generalize xs1.take f1 = R1 at *
  obtain ⟨mb1, hmb1⟩ : ∃ b, (Dm.okB R1 && decide (0 ≤ s1) && decide (s1 ≤ 1000)) = b := ⟨_, rfl⟩
  have hx1 : X1.length = xn1 := hxn1
  have F1 := Kl.val_full (lo := lo) (hi := hi) (st := st) (n0 := n0) (n1 := n1) (n2 := n2) (n3 := n3) (n4 := n4) (n5 := n5) (n6 := n6) (g := g1) (s := (tz1 : Int)) (x := xn1) (X := X1) hx1 p1' p2' q1 q2 lb m5 gcl gle z1 z2 (by omega) (by omega) (by omega)
  have F2 := Kl.val_full (lo := lo) (hi := hi) (st := st) (n0 := n0) (n1 := n1) (n2 := n2) (n3 := n3) (n4 := n4) (n5 := n5) (n6 := n6) (g := g1) (s := s1) (x := f1) (X := R1) rn1 p1' p2' q1 q2 lb m5 gcl gle z1 z2 (by omega) (by omega) ws1
  have HF1 := Lib.hid F1
  have HF2 := Lib.hid F2
  have HR1 := Lib.hid hr1
  clear F1 F2 hmb1 hr1 rn1 hf1 fb1 hx1 hxn1 gle gcl q1 q2 q3 tr1 tr2 z1 z2 p1' p2' p3' lb m0 m5 ng2 xk1 tb1 xb1 hca1 hcb1 w1' hl1 ws1 b1
  obtain ⟨sg, hsg⟩ : ∃ x, x = lo.g := ⟨_, rfl⟩
  have HSG := Lib.hid hsg
  have hx1 : ∀ u, Calls Try.prog 8 #[.agg #[.string t0, .string t1, .string t2, .int .i64 n0, .int .i64 n1, .int .i64 n2, .int .i64 n3, .int .i64 n4, .int .i64 n5, .int .i64 n6]] u fun e w' => ∃ R, e = .returned (.tuple #[R, .nilIface]) ∧ Kr.RuV 0 w' R lo hi st sg n0 n1 n2 n3 n4 n5 n6 ∧ Q u w' := by rw [hsg]; exact HNW.out
  have hx2 : ∀ u, Q w u → Calls Try.prog 11 #[.agg #[.bool g0_0, .slice al ll cl, .int .i64 s0_2, .bool g0_3, .slice ah lh ch, .int .i64 s0_5, .slice az lz cz, .bool g0_7, .int .i64 s0_8, .int .i64 s0_9, .int .i64 s0_10, .int .i64 s0_11, .int .i64 s0_12, .int .i64 s0_13, .int .i64 s0_14]] u fun e w' => ∃ R, e = .returned R ∧ Kr.RuV u.heap.size w' R lo hi st sg n0 n1 n2 n3 n4 n5 n6 ∧ Q u w' := by rw [hsg]; exact HRU.out
  replace HNW := Lib.hid hx1
  replace HRU := Lib.hid hx2
  clear hx1 hx2 hsg
  obtain ⟨k1, hk1⟩ : ∃ x, x = (Dm.dg lo.m).length := ⟨_, rfl⟩
  obtain ⟨k2, hk2⟩ : ∃ x, x = (Dm.dg hi.m).length := ⟨_, rfl⟩
  obtain ⟨k3, hk3⟩ : ∃ x, x = (Dm.dg st.m).length := ⟨_, rfl⟩
  have HK := Lib.hid (⟨hk1.symm, hk2.symm, hk3.symm⟩ : _ ∧ _ ∧ _)
  clear hk1 hk2 hk3
  obtain ⟨y0, hy0⟩ : ∃ y, y = w.alloc (.cells #[.bool g0_0, .slice al ll cl, .int .i64 s0_2, .bool g0_3, .slice ah lh ch, .int .i64 s0_5, .slice az lz cz, .bool g0_7, .int .i64 s0_8, .int .i64 s0_9, .int .i64 s0_10, .int .i64 s0_11, .int .i64 s0_12, .int .i64 s0_13, .int .i64 s0_14] 28) := ⟨_, rfl⟩
  have hq0 : Q w y0 := by rw [hy0]; exact (Q.refl w).alloc _
  have hbg : Bk y0 w.heap.size 28 [.bool g0_0, .slice al ll cl, .int .i64 s0_2, .bool g0_3, .slice ah lh ch, .int .i64 s0_5, .slice az lz cz, .bool g0_7, .int .i64 s0_8, .int .i64 s0_9, .int .i64 s0_10, .int .i64 s0_11, .int .i64 s0_12, .int .i64 s0_13, .int .i64 s0_14] := by rw [hy0]; exact Bk.new _ _ _
  have hs0 : y0.heap.size = w.heap.size + 1 := by rw [hy0]; simp
  have HQ := Lib.hid hq0
  have HG := Lib.hid hbg
  clear hq0 hbg
  obtain ⟨y1, hy1⟩ : ∃ y, y = y0.alloc (.cells #[.bool g1, .slice A1 l1 C1, .int .i64 s1] 24) := ⟨_, rfl⟩
  have hq : Q y0 y1 := by rw [hy1]; exact (Q.refl _).alloc _
  have hb : Bk y1 (w.heap.size + 1) 24 [.bool g1, .slice A1 l1 C1, .int .i64 s1] := by rw [hy1, ← hs0]; exact Bk.new _ _ _
  have hs1 : y1.heap.size = w.heap.size + 1 + 1 := by rw [hy1]; simp; omega
  replace HQ := Lib.hid (Q.trans HQ.out hq)
  replace HG := Lib.hid (Bk.q HG.out hq)
  have HA := Lib.hid hb
  clear hq hb
  go_enter Try.func3, Try.ntmps3
  go_upto_region 1 with fail
  first | rw [← hy0, ← hy1] | (rw [hy0] at hy1; rw [← hy1])
  clear hy0 hy1 hs0 hs1
  have HRL := Lib.hid (show Lst y1 (.slice A1 f1 C1) R1 from HR1.out.q HQ.out)
  go_wp2_with (refine wpList_load_row (by rfl) 28 _ (by rfl) (w.heap.size) (by rfl) 28 #[.bool g0_0, .slice al ll cl, .int .i64 s0_2, .bool g0_3, .slice ah lh ch, .int .i64 s0_5, .slice az lz cz, .bool g0_7, .int .i64 s0_8, .int .i64 s0_9, .int .i64 s0_10, .int .i64 s0_11, .int .i64 s0_12, .int .i64 s0_13, .int .i64 s0_14] (0, 0) _ HG.out Try.underlying28 rfl (by exact Kr.infoG) ?_)
  refine (HGD.out _ HQ.out).mono ?_
  rintro e v1 ⟨rfl, hq⟩
  replace HQ := Lib.hid (Q.trans HQ.out hq)
  replace HG := Lib.hid (Bk.q HG.out hq)
  replace HA := Lib.hid (Bk.q HA.out hq)
  replace HRL := Lib.hid (Lst.q HRL.out hq)
  clear hq
  go_wp2_with fail
  refine (HOF.out _).mono ?_
  rintro e v2 ⟨rfl, hq⟩
  replace HQ := Lib.hid (Q.trans HQ.out hq)
  replace HG := Lib.hid (Bk.q HG.out hq)
  replace HA := Lib.hid (Bk.q HA.out hq)
  replace HRL := Lib.hid (Lst.q HRL.out hq)
  clear hq
  go_wp2_with fail
  refine (HNW.out _).mono ?_
  rintro e v3 ⟨Rv, rfl, ⟨a1, c1, a2, c2, a3, c3, rfl, l1, l2, l3⟩, hq⟩
  rw [HK.out.1] at l1 ⊢
  rw [HK.out.2.1] at l2 ⊢
  rw [HK.out.2.2] at l3 ⊢
  replace HQ := Lib.hid (Q.trans HQ.out hq)
  replace HG := Lib.hid (Bk.q HG.out hq)
  replace HA := Lib.hid (Bk.q HA.out hq)
  replace HRL := Lib.hid (Lst.q HRL.out hq)
  obtain ⟨v4, hv4⟩ : ∃ y, y = v3.alloc (.cells #[.bool lo.g, .slice a1 k1 c1, .int .i64 (lo.s : Nat), .bool hi.g, .slice a2 k2 c2, .int .i64 (hi.s : Nat), .bool st.g, .slice a3 k3 c3, .int .i64 (st.s : Nat), .bool sg, .int .i64 n0, .int .i64 n1, .int .i64 n2, .int .i64 n3, .int .i64 n4, .int .i64 n5, .int .i64 n6] 32) := ⟨_, rfl⟩
  have hqb : Q v3 v4 := by rw [hv4]; exact (Q.refl _).alloc _
  have hbx : Bk v4 v3.heap.size 32 [.bool lo.g, .slice a1 k1 c1, .int .i64 (lo.s : Nat), .bool hi.g, .slice a2 k2 c2, .int .i64 (hi.s : Nat), .bool st.g, .slice a3 k3 c3, .int .i64 (st.s : Nat), .bool sg, .int .i64 n0, .int .i64 n1, .int .i64 n2, .int .i64 n3, .int .i64 n4, .int .i64 n5, .int .i64 n6] := by rw [hv4]; exact Bk.new _ _ _
  obtain ⟨bR, hbR⟩ : ∃ b, b = v3.heap.size := ⟨_, rfl⟩
  rw [← hbR] at hbx
  replace HQ := Lib.hid (Q.trans HQ.out hqb)
  replace HG := Lib.hid (Bk.q HG.out hqb)
  replace HA := Lib.hid (Bk.q HA.out hqb)
  replace HRL := Lib.hid (Lst.q HRL.out hqb)
  have HR := Lib.hid hbx
  have HL1 := Lib.hid (l1.lst.q hqb)
  have HL2 := Lib.hid (l2.lst.q hqb)
  have HL3 := Lib.hid (l3.lst.q hqb)
  clear hq hqb hbx l1 l2 l3
  go_upto_region 4 with fail
  rw [← hv4, ← hbR]
  clear hv4 hbR
  go_wp2_with (refine wpList_load_row (by rfl) 28 _ (by rfl) (w.heap.size) (by rfl) 28 #[.bool g0_0, .slice al ll cl, .int .i64 s0_2, .bool g0_3, .slice ah lh ch, .int .i64 s0_5, .slice az lz cz, .bool g0_7, .int .i64 s0_8, .int .i64 s0_9, .int .i64 s0_10, .int .i64 s0_11, .int .i64 s0_12, .int .i64 s0_13, .int .i64 s0_14] (0, 0) _ HG.out Try.underlying28 rfl (by exact Kr.infoG) ?_)
  refine (HRU.out _ HQ.out).mono ?_
  rintro e v5 ⟨Rv, rfl, ⟨x1, y1, x2, y2, x3, y3, rfl, l1, l2, l3⟩, hq⟩
  rw [HK.out.1] at l1 ⊢
  rw [HK.out.2.1] at l2 ⊢
  rw [HK.out.2.2] at l3 ⊢
  replace HQ := Lib.hid (Q.trans HQ.out hq)
  replace HG := Lib.hid (Bk.q HG.out hq)
  replace HA := Lib.hid (Bk.q HA.out hq)
  replace HRL := Lib.hid (Lst.q HRL.out hq)
  replace HR := Lib.hid (Bk.q HR.out hq)
  replace HL1 := Lib.hid (Lst.q HL1.out hq)
  replace HL2 := Lib.hid (Lst.q HL2.out hq)
  replace HL3 := Lib.hid (Lst.q HL3.out hq)
  obtain ⟨v6, hv6⟩ : ∃ y, y = v5.alloc (.cells #[.bool lo.g, .slice x1 k1 y1, .int .i64 (lo.s : Nat), .bool hi.g, .slice x2 k2 y2, .int .i64 (hi.s : Nat), .bool st.g, .slice x3 k3 y3, .int .i64 (st.s : Nat), .bool sg, .int .i64 n0, .int .i64 n1, .int .i64 n2, .int .i64 n3, .int .i64 n4, .int .i64 n5, .int .i64 n6] 44) := ⟨_, rfl⟩
  have hqb : Q v5 v6 := by rw [hv6]; exact (Q.refl _).alloc _
  have hbx : Bk v6 v5.heap.size 44 [.bool lo.g, .slice x1 k1 y1, .int .i64 (lo.s : Nat), .bool hi.g, .slice x2 k2 y2, .int .i64 (hi.s : Nat), .bool st.g, .slice x3 k3 y3, .int .i64 (st.s : Nat), .bool sg, .int .i64 n0, .int .i64 n1, .int .i64 n2, .int .i64 n3, .int .i64 n4, .int .i64 n5, .int .i64 n6] := by rw [hv6]; exact Bk.new _ _ _
  obtain ⟨bW, hbW⟩ : ∃ b, b = v5.heap.size := ⟨_, rfl⟩
  rw [← hbW] at hbx
  replace HQ := Lib.hid (Q.trans HQ.out hqb)
  replace HG := Lib.hid (Bk.q HG.out hqb)
  replace HA := Lib.hid (Bk.q HA.out hqb)
  replace HRL := Lib.hid (Lst.q HRL.out hqb)
  replace HR := Lib.hid (Bk.q HR.out hqb)
  replace HL1 := Lib.hid (Lst.q HL1.out hqb)
  replace HL2 := Lib.hid (Lst.q HL2.out hqb)
  replace HL3 := Lib.hid (Lst.q HL3.out hqb)
  have HW := Lib.hid hbx
  have HM1 := Lib.hid (l1.lst.q hqb)
  have HM2 := Lib.hid (l2.lst.q hqb)
  have HM3 := Lib.hid (l3.lst.q hqb)
  clear hq hqb hbx l1 l2 l3
  go_upto_region 5 with fail
  rw [← hv6, ← hbW]
  clear hv6 hbW
  clear HG
  refine wp_region_held_drew (S := fun u => Q v6 u) (by kernel_rfl) (by exact (Q.refl v6).drew) (fun hHeld => ?_)
  have hS : Q v6 v6.drew := hHeld
  clear hHeld
  have hq : Q v6 v6.drew := (Q.refl _).drew
  clear hq
  generalize v6.drew = yR1x0 at *
  change wpAnyH _ _ _ _ _ _ #[ff,ff,ff,ff,ff,ff] _ _
  refine wpAnyH_take (i := 0) (v := ?vR1x1) (by (try simp only [gA, gB, gC]); rfl) (by kernel_rfl) (by kernel_rfl) (by kernel_rfl) (by exact fun _ _ _ h => h) (Or.inl ⟨by first | kernel_rfl | rfl, ?hyR1x1⟩) (by exact hS) ?rsR1x1
  case hyR1x1 => (intro uz hSw; (try dsimp only at hSw); have hxx := HA.out.q hSw; have d0 := hxx.cell 0 rfl; have d1 := hxx.cell 1 rfl; have d2 := hxx.cell 2 rfl; clear hxx; go_simp; try with_reducible rfl)
  try simp only [Act.put, sA, sB, sC]
  change wpAnyH _ _ _ _ _ _ #[tt,ff,ff,ff,ff,ff] _ _
  refine wpAnyH_take (i := 2) (v := ?vR1x2) (by (try simp only [gA, gB, gC]); rfl) (by kernel_rfl) (by kernel_rfl) (by kernel_rfl) (by exact fun _ _ _ h => h) (Or.inl ⟨by first | kernel_rfl | rfl, ?hyR1x2⟩) (by exact hS) ?rsR1x2
  case hyR1x2 => (intro uz hSw; (try dsimp only at hSw); have hxx := HA.out.q hSw; have d0 := hxx.cell 0 rfl; have d1 := hxx.cell 1 rfl; have d2 := hxx.cell 2 rfl; clear hxx; go_simp; try with_reducible rfl)
  try simp only [Act.put, sA, sB, sC]
  change wpAnyH _ _ _ _ _ _ #[tt,ff,tt,ff,ff,ff] _ _
  refine wpAnyH_ready (rs := [1]) (by kernel_rfl) (by simp) ?_
  refine (AllReadyH.cons (by (try simp only [gA, gB, gC]); rfl) (fun K hK => ?_) AllReadyH.nil)
  go_simp
  refine (HX1.out _ (HQ.out.trans hS)).mono ?_
  rintro e yR1x3 ⟨aX, cX, rfl, hlx, hq⟩
  have HLX := Lib.hid hlx
  clear hlx
  try (go_wp2_with fail)
  have hS2 := Q.trans hS hq
  refine hK.out _ _ (by exact hS2) (fun hHeld => ?_)
  clear hK K hHeld hS hq
  have hS := hS2
  clear hS2
  try simp only [Act.put, sA, sB, sC]
  change wpAnyH _ _ _ _ _ _ #[tt,tt,tt,ff,ff,ff] _ _
  refine wpAnyH_ready (rs := [3]) (by kernel_rfl) (by simp) ?_
  refine (AllReadyH.cons (by (try simp only [gA, gB, gC]); rfl) (fun K hK => ?_) AllReadyH.nil)
  go_simp
  refine (HW1.out _).mono ?_
  rintro e yR1x4 ⟨rfl, hq⟩
  try (go_wp2_with fail)
  have HLX := Lib.hid (Lst.q HLX.out hq)
  have hS2 := Q.trans hS hq
  refine hK.out _ _ (by exact hS2) (fun hHeld => ?_)
  clear hK K hHeld hS hq
  have hS := hS2
  clear hS2
  try simp only [Act.put, sA, sB, sC]
  change wpAnyH _ _ _ _ _ _ #[tt,tt,tt,tt,ff,ff] _ _
  refine wpAnyH_ready (rs := [4]) (by kernel_rfl) (by simp) ?_
  refine (AllReadyH.cons (by (try simp only [gA, gB, gC]); rfl) (fun K hK => ?_) AllReadyH.nil)
  go_simp
  have hq := (Q.refl yR1x4).alloc (.cells #[.bool g1, .slice aX xn1 cX, .int .i64 (tz1 : Nat), .bool g1, .slice A1 f1 C1, .int .i64 s1] 24)
  have HBL := Lib.hid (Bk.new yR1x4 24 [.bool g1, .slice aX xn1 cX, .int .i64 (tz1 : Nat), .bool g1, .slice A1 f1 C1, .int .i64 s1])
  have HW_bL := Lib.hid (Q.le hS)
  have HLX := Lib.hid (Lst.q HLX.out hq)
  have hS2 := Q.trans hS hq
  refine hK.out _ _ (by exact hS2) (fun hHeld => ?_)
  clear hK K hHeld hS hq
  have hS := hS2
  clear hS2
  generalize yR1x4.alloc (.cells #[.bool g1, .slice aX xn1 cX, .int .i64 (tz1 : Nat), .bool g1, .slice A1 f1 C1, .int .i64 s1] 24) = yR1x5 at *
  generalize yR1x4.heap.size = bL at *
  try simp only [Act.put, sA, sB, sC]
  change wpAnyH _ _ _ _ _ _ #[tt,tt,tt,tt,tt,ff] _ _
  refine wpAnyH_take (i := 5) (v := ?vR1x6) (by (try simp only [gA, gB, gC]); rfl) (by kernel_rfl) (by kernel_rfl) (by kernel_rfl) (by exact fun _ _ _ h => h) (Or.inl ⟨by first | kernel_rfl | rfl, ?hyR1x6⟩) (by exact hS) ?rsR1x6
  case hyR1x6 => (intro uz hSw; (try dsimp only at hSw); go_simp; try with_reducible rfl)
  try simp only [Act.put, sA, sB, sC]
  change wpAnyH _ _ _ _ _ _ #[tt,tt,tt,tt,tt,tt] _ _
  refine wpAnyH_done (by kernel_rfl) ?_ _
  generalize yR1x5 = w5 at *
  replace HQ := Lib.hid (Q.trans HQ.out hS)
  replace HA := Lib.hid (Bk.q HA.out hS)
  replace HRL := Lib.hid (Lst.q HRL.out hS)
  replace HR := Lib.hid (Bk.q HR.out hS)
  replace HL1 := Lib.hid (Lst.q HL1.out hS)
  replace HL2 := Lib.hid (Lst.q HL2.out hS)
  replace HL3 := Lib.hid (Lst.q HL3.out hS)
  replace HW := Lib.hid (Bk.q HW.out hS)
  replace HM1 := Lib.hid (Lst.q HM1.out hS)
  replace HM2 := Lib.hid (Lst.q HM2.out hS)
  replace HM3 := Lib.hid (Lst.q HM3.out hS)
  clear hS HW_bL
  clear HA
  have HEL := Lib.hid (show ∀ i, i < 2 → ∃ (ea : Option Addr) (en ec : Nat) (es : Int) (eX : List Int), (∀ u, Q w5 u → u.cell? ⟨bL, i * 3, none⟩ = some (.bool g1) ∧ u.cell? ⟨bL, i * 3 + 1, none⟩ = some (.slice ea en ec) ∧ u.cell? ⟨bL, i * 3 + 2, none⟩ = some (.int .i64 es)) ∧ Lst w5 (.slice ea en ec) eX ∧
      ∃ gr Z zl sr er, Kl.V3 14 lo hi st n0 n1 n2 n3 n4 n5 n6 g1 es en eX gr Z zl sr er ∧ Kl.V3 16 lo hi st n0 n1 n2 n3 n4 n5 n6 g1 es en eX gr Z zl sr er ∧ Z.length ≤ 13 ∧ Kl.AG lo hi st n0 n1 n2 n3 n4 n5 n6 gr Z zl sr er from fun i hi => by
    rcases (show i = 0 ∨ i = 1 by omega) with rfl | rfl
    · exact ⟨aX, xn1, cX, tz1, X1, fun u q => ⟨(HBL.out.q q).cell 0 rfl, (HBL.out.q q).cell 1 rfl, (HBL.out.q q).cell 2 rfl⟩, HLX.out, HF1.out⟩
    · exact ⟨A1, f1, C1, s1, R1, fun u q => ⟨(HBL.out.q q).cell 3 rfl, (HBL.out.q q).cell 4 rfl, (HBL.out.q q).cell 5 rfl⟩, HRL.out, HF2.out⟩)
  have HQ5 := Lib.hid (Q.refl w5)
  clear HF1 HF2
  clear HBL HLX HRL
  go_wp2_with fail
  go_loopw [9] (fun t wr => ∃ i : Nat, t = .int .i64 i ∧ i ≤ 2 ∧ Q w5 wr) (fun t _ => 2 - (intOf t).toNat)
  case atStart => exact ⟨0, rfl, by omega, Q.refl _⟩
  case round =>
    obtain ⟨i, rfl, hi2, hq⟩ := hrel
    replace HQ := Lib.hid (Q.trans HQ.out hq)
    replace HR := Lib.hid (Bk.q HR.out hq)
    replace HL1 := Lib.hid (Lst.q HL1.out hq)
    replace HL2 := Lib.hid (Lst.q HL2.out hq)
    replace HL3 := Lib.hid (Lst.q HL3.out hq)
    replace HW := Lib.hid (Bk.q HW.out hq)
    replace HM1 := Lib.hid (Lst.q HM1.out hq)
    replace HM2 := Lib.hid (Lst.q HM2.out hq)
    replace HM3 := Lib.hid (Lst.q HM3.out hq)
    replace HQ5 := Lib.hid (Q.trans HQ5.out hq)
    clear hq
    by_cases hlt : i < 2
    · have hlt2 : (i : Int) < 2 := by omega
      obtain ⟨ea, en, ec, es, eX, hce, hle, gr, Z, zl, sr, er, hvp, hvd, hz, gr2, Z2, zl2, sr2, er2, hv2, hz2, hag⟩ := HEL.out i hlt
      unfold Kl.V3 at hvp hvd hv2
      rw [HK.out.1, HK.out.2.1, HK.out.2.2] at hvp hvd hv2
      have HCE := Lib.hid hce
      have HVP := Lib.hid hvp
      have HVD := Lib.hid hvd
      have HV2 := Lib.hid hv2
      have HZL := Lib.hid (⟨hz, hz2⟩ : _ ∧ _)
      have HAG := Lib.hid hag
      have HLT := Lib.hid hlt
      have HLE := Lib.hid (hle.q HQ5.out)
      clear hce hle hvp hvd hv2 hz hz2 hag hlt hi2
      go_upto_region 9 with fail
      go_cut [10, 11] (fun p e wx => ∃ b a c, p = .pointer (some ⟨b, 0, none⟩) ∧ e = .int .i64 er ∧ Bk wx b 29 [.bool gr, .slice a zl c, .int .i64 sr] ∧ Lst wx (.slice a zl c) Z ∧ Q wr wx)
      case first =>
        refine wp_region_held_drew (S := fun u => Q wr u) (by kernel_rfl) (by exact (Q.refl wr).drew) (fun hHeld => ?_)
        have hS : Q wr wr.drew := hHeld
        clear hHeld
        have hq : Q wr wr.drew := (Q.refl _).drew
        clear hq
        generalize wr.drew = yR2x0 at *
        change wpAnyH _ _ _ _ _ _ #[ff,ff,ff,ff,ff,ff,ff,ff,ff,ff,ff,ff,ff] _ _
        refine wpAnyH_take (i := 0) (v := ?vR2x1) (by (try simp only [gA, gB, gC]); rfl) (by kernel_rfl) (by kernel_rfl) (by kernel_rfl) (by exact fun _ _ _ h => h) (Or.inl ⟨by first | kernel_rfl | rfl, ?hyR2x1⟩) (by exact hS) ?rsR2x1
        case hyR2x1 => (intro uz hSw; (try dsimp only at hSw); refine ld_row (x := .tmp 5) ?_ ?_ (Bk.q HR.out hSw) Try.underlying32 (by exact Kp.infoRp) <;> rfl)
        try simp only [Act.put, sA, sB, sC]
        change wpAnyH _ _ _ _ _ _ #[tt,ff,ff,ff,ff,ff,ff,ff,ff,ff,ff,ff,ff] _ _
        refine wpAnyH_take (i := 1) (v := ?vR2x2) (by (try simp only [gA, gB, gC]); rfl) (by kernel_rfl) (by kernel_rfl) (by kernel_rfl) (by exact fun _ _ _ h => h) (Or.inl ⟨by first | kernel_rfl | rfl, ?hyR2x2⟩) (by exact hS) ?rsR2x2
        case hyR2x2 => (intro uz hSw; (try dsimp only at hSw); go_simp; try with_reducible rfl)
        try simp only [Act.put, sA, sB, sC]
        change wpAnyH _ _ _ _ _ _ #[tt,tt,ff,ff,ff,ff,ff,ff,ff,ff,ff,ff,ff] _ _
        refine wpAnyH_take (i := 2) (v := ?vR2x3) (by (try simp only [gA, gB, gC]); rfl) (by kernel_rfl) (by kernel_rfl) (by kernel_rfl) (by exact fun _ _ _ h => h) (Or.inl ⟨by first | kernel_rfl | rfl, ?hyR2x3⟩) (by exact hS) ?rsR2x3
        case hyR2x3 => (intro uz hSw; (try dsimp only at hSw); go_simp; try with_reducible rfl)
        try simp only [Act.put, sA, sB, sC]
        change wpAnyH _ _ _ _ _ _ #[tt,tt,tt,ff,ff,ff,ff,ff,ff,ff,ff,ff,ff] _ _
        refine wpAnyH_take (i := 3) (v := ?vR2x4) (by (try simp only [gA, gB, gC]); rfl) (by kernel_rfl) (by kernel_rfl) (by kernel_rfl) (by exact fun _ _ _ h => h) (Or.inl ⟨by first | kernel_rfl | rfl, ?hyR2x4⟩) (by exact hS) ?rsR2x4
        case hyR2x4 => (intro uz hSw; (try dsimp only at hSw); go_simp; try with_reducible rfl)
        try simp only [Act.put, sA, sB, sC]
        change wpAnyH _ _ _ _ _ _ #[tt,tt,tt,tt,ff,ff,ff,ff,ff,ff,ff,ff,ff] _ _
        refine wpAnyH_take (i := 4) (v := ?vR2x5) (by (try simp only [gA, gB, gC]); rfl) (by kernel_rfl) (by kernel_rfl) (by kernel_rfl) (by exact fun _ _ _ h => h) (Or.inl ⟨by first | kernel_rfl | rfl, ?hyR2x5⟩) (by exact hS) ?rsR2x5
        case hyR2x5 => (intro uz hSw; (try dsimp only at hSw); obtain ⟨d0, d1, d2⟩ := HCE.out _ (HQ5.out.trans hSw); go_simp; try with_reducible rfl)
        try simp only [Act.put, sA, sB, sC]
        change wpAnyH _ _ _ _ _ _ #[tt,tt,tt,tt,tt,ff,ff,ff,ff,ff,ff,ff,ff] _ _
        refine wpAnyH_ready (rs := [5, 10]) (by kernel_rfl) (by simp) ?_
        refine (AllReadyH.cons (by (try simp only [gA, gB, gC]); rfl) (fun K hK => ?_) (AllReadyH.cons (by (try simp only [gA, gB, gC]); rfl) (fun K hK => ?_) AllReadyH.nil))
        · go_simp
          refine (Kl.dec_q _ _ _ _ _ _).mono ?_
          rintro e yR2x6 ⟨rfl, hq⟩
          try (go_wp2_with fail)
          have hS2 := Q.trans hS hq
          refine hK.out _ _ (by exact hS2) (fun hHeld => ?_)
          clear hK K hHeld hS hq
          have hS := hS2
          clear hS2
          try simp only [Act.put, sA, sB, sC]
          change wpAnyH _ _ _ _ _ _ #[tt,tt,tt,tt,tt,tt,ff,ff,ff,ff,ff,ff,ff] _ _
          refine wpAnyH_ready (rs := [6, 10]) (by kernel_rfl) (by simp) ?_
          refine (AllReadyH.cons (by (try simp only [gA, gB, gC]); rfl) (fun K hK => ?_) (AllReadyH.cons (by (try simp only [gA, gB, gC]); rfl) (fun K hK => ?_) AllReadyH.nil))
          · go_simp
            refine (HVP.out _ _ _ _ _ _ _ _ _ _ (HL1.out.q hS) (HL2.out.q hS) (HL3.out.q hS) (HLE.out.q hS)).mono ?_
            rintro e yR2x7 ⟨ua, uc, rfl, hlf, hq⟩
            have HQL := Lib.hid hlf.lst
            clear hlf
            try (go_wp2_with fail)
            have hS2 := Q.trans hS hq
            refine hK.out _ _ (by exact hS2) (fun hHeld => ?_)
            clear hK K hHeld hS hq
            have hS := hS2
            clear hS2
            try simp only [Act.put, sA, sB, sC]
            change wpAnyH _ _ _ _ _ _ #[tt,tt,tt,tt,tt,tt,tt,ff,ff,ff,ff,ff,ff] _ _
            refine wpAnyH_take (i := 7) (v := ?vR2x8) (by (try simp only [gA, gB, gC]); rfl) (by kernel_rfl) (by kernel_rfl) (by kernel_rfl) (by exact fun _ _ _ h => h) (Or.inl ⟨by first | kernel_rfl | rfl, ?hyR2x8⟩) (by exact hS) ?rsR2x8
            case hyR2x8 => (intro uz hSw; (try dsimp only at hSw); go_simp; try with_reducible rfl)
            try simp only [Act.put, sA, sB, sC]
            change wpAnyH _ _ _ _ _ _ #[tt,tt,tt,tt,tt,tt,tt,tt,ff,ff,ff,ff,ff] _ _
            refine wpAnyH_take (i := 8) (v := ?vR2x9) (by (try simp only [gA, gB, gC]); rfl) (by kernel_rfl) (by kernel_rfl) (by kernel_rfl) (by exact fun _ _ _ h => h) (Or.inl ⟨by first | kernel_rfl | rfl, ?hyR2x9⟩) (by exact hS) ?rsR2x9
            case hyR2x9 => (intro uz hSw; (try dsimp only at hSw); go_simp; try with_reducible rfl)
            try simp only [Act.put, sA, sB, sC]
            change wpAnyH _ _ _ _ _ _ #[tt,tt,tt,tt,tt,tt,tt,tt,tt,ff,ff,ff,ff] _ _
            refine wpAnyH_take (i := 9) (v := ?vR2x10) (by (try simp only [gA, gB, gC]); rfl) (by kernel_rfl) (by kernel_rfl) (by kernel_rfl) (by exact fun _ _ _ h => h) (Or.inl ⟨by first | kernel_rfl | rfl, ?hyR2x10⟩) (by exact hS) ?rsR2x10
            case hyR2x10 => (intro uz hSw; (try dsimp only at hSw); go_simp; try with_reducible rfl)
            try simp only [Act.put, sA, sB, sC]
            change wpAnyH _ _ _ _ _ _ #[tt,tt,tt,tt,tt,tt,tt,tt,tt,tt,ff,ff,ff] _ _
            refine wpAnyH_ready (rs := [10]) (by kernel_rfl) (by simp) ?_
            refine (AllReadyH.cons (by (try simp only [gA, gB, gC]); rfl) (fun K hK => ?_) AllReadyH.nil)
            go_simp
            have HQN := Lib.hid (Kr.Ap.new HQL.out (Nat.le_refl _))
            have hq := (Q.refl yR2x7).alloc (.cells #[.bool false, .slice none 0 0, .int .i64 0] 29)
            have HBX := Lib.hid (Bk.new yR2x7 29 [.bool false, .slice none 0 0, .int .i64 0])
            have HW_bX := Lib.hid (Q.le hS)
            have HQL := Lib.hid (Lst.q HQL.out hq)
            have hS2 := Q.trans hS hq
            refine hK.out _ _ (by exact hS2) (fun hHeld => ?_)
            clear hK K hHeld hS hq
            have hS := hS2
            clear hS2
            generalize yR2x7.alloc (.cells #[.bool false, .slice none 0 0, .int .i64 0] 29) = yR2x11 at *
            generalize yR2x7.heap.size = bX at *
            try simp only [Act.put, sA, sB, sC]
            change wpAnyH _ _ _ _ _ _ #[tt,tt,tt,tt,tt,tt,tt,tt,tt,tt,tt,ff,ff] _ _
            refine wpAnyH_ready (rs := [11]) (by kernel_rfl) (by simp) ?_
            refine (AllReadyH.cons (by (try simp only [gA, gB, gC]); rfl) (fun K hK => ?_) AllReadyH.nil)
            have b0 := HBX.out.cell 0 rfl
            have f0 := HBX.out.free 0
            have b1 := HBX.out.cell 1 rfl
            have f1 := HBX.out.free 1
            have b2 := HBX.out.cell 2 rfl
            have f2 := HBX.out.free 2
            go_simp
            have hS2 := (Q.setCell (Q.setCell (Q.setCell hS (ad := ⟨bX, 0, none⟩) HW_bX.out (.bool gr)) (ad := ⟨bX, 1, none⟩) HW_bX.out (.slice ua zl uc)) (ad := ⟨bX, 2, none⟩) HW_bX.out (.int .i64 sr))
            replace HBX := Lib.hid (((HBX.out.set 0 (.bool gr)).set 1 (.slice ua zl uc)).set 2 (.int .i64 sr))
            replace HQL := Lib.hid (Lst.setCell ((Lst.setCell ((Lst.setCell (HQL.out) (ad := ⟨bX, 0, none⟩) (.bool gr) HQN.out)) (ad := ⟨bX, 1, none⟩) (.slice ua zl uc) HQN.out)) (ad := ⟨bX, 2, none⟩) (.int .i64 sr) HQN.out)
            refine hK.out _ _ (by exact hS2) (fun hHeld => ?_)
            clear hK K hHeld hS
            have hS := hS2
            clear hS2 b0 f0 b1 f1 b2 f2
            generalize (((yR2x11.setCell ⟨bX, 0, none⟩ (.bool gr)).setCell ⟨bX, 1, none⟩ (.slice ua zl uc)).setCell ⟨bX, 2, none⟩ (.int .i64 sr)) = yR2x12 at *
            try simp only [Act.put, sA, sB, sC]
            change wpAnyH _ _ _ _ _ _ #[tt,tt,tt,tt,tt,tt,tt,tt,tt,tt,tt,tt,ff] _ _
            refine wpAnyH_take (i := 12) (v := ?vR2x13) (by (try simp only [gA, gB, gC]); rfl) (by kernel_rfl) (by kernel_rfl) (by kernel_rfl) (by exact fun _ _ _ h => h) (Or.inl ⟨by first | kernel_rfl | rfl, ?hyR2x13⟩) (by exact hS) ?rsR2x13
            case hyR2x13 => (intro uz hSw; (try dsimp only at hSw); go_simp; try with_reducible rfl)
            try simp only [Act.put, sA, sB, sC]
            change wpAnyH _ _ _ _ _ _ #[tt,tt,tt,tt,tt,tt,tt,tt,tt,tt,tt,tt,tt] _ _
            refine wpAnyH_done (by kernel_rfl) ?_ _
            go_wp2_with fail
            go_meet
            exact ⟨bX, ua, uc, rfl, rfl, HBX.out, HQL.out, hS⟩
          · go_simp
            have hq := (Q.refl yR2x6).alloc (.cells #[.bool false, .slice none 0 0, .int .i64 0] 29)
            have HBX := Lib.hid (Bk.new yR2x6 29 [.bool false, .slice none 0 0, .int .i64 0])
            have HW_bX := Lib.hid (Q.le hS)
            have hS2 := Q.trans hS hq
            refine hK.out _ _ (by exact hS2) (fun hHeld => ?_)
            clear hK K hHeld hS hq
            have hS := hS2
            clear hS2
            generalize yR2x6.alloc (.cells #[.bool false, .slice none 0 0, .int .i64 0] 29) = yR2x14 at *
            generalize yR2x6.heap.size = bX at *
            try simp only [Act.put, sA, sB, sC]
            change wpAnyH _ _ _ _ _ _ #[tt,tt,tt,tt,tt,tt,ff,ff,ff,ff,tt,ff,ff] _ _
            refine wpAnyH_ready (rs := [6]) (by kernel_rfl) (by simp) ?_
            refine (AllReadyH.cons (by (try simp only [gA, gB, gC]); rfl) (fun K hK => ?_) AllReadyH.nil)
            go_simp
            refine (HVP.out _ _ _ _ _ _ _ _ _ _ (HL1.out.q hS) (HL2.out.q hS) (HL3.out.q hS) (HLE.out.q hS)).mono ?_
            rintro e yR2x15 ⟨ua, uc, rfl, hlf, hq⟩
            have HQL := Lib.hid hlf.lst
            have HQN := Lib.hid (Kr.Ap.lf hlf HBX.out.lt)
            clear hlf
            try (go_wp2_with fail)
            have HBX := Lib.hid (Bk.q HBX.out hq)
            have hS2 := Q.trans hS hq
            refine hK.out _ _ (by exact hS2) (fun hHeld => ?_)
            clear hK K hHeld hS hq
            have hS := hS2
            clear hS2
            try simp only [Act.put, sA, sB, sC]
            change wpAnyH _ _ _ _ _ _ #[tt,tt,tt,tt,tt,tt,tt,ff,ff,ff,tt,ff,ff] _ _
            refine wpAnyH_take (i := 7) (v := ?vR2x16) (by (try simp only [gA, gB, gC]); rfl) (by kernel_rfl) (by kernel_rfl) (by kernel_rfl) (by exact fun _ _ _ h => h) (Or.inl ⟨by first | kernel_rfl | rfl, ?hyR2x16⟩) (by exact hS) ?rsR2x16
            case hyR2x16 => (intro uz hSw; (try dsimp only at hSw); go_simp; try with_reducible rfl)
            try simp only [Act.put, sA, sB, sC]
            change wpAnyH _ _ _ _ _ _ #[tt,tt,tt,tt,tt,tt,tt,tt,ff,ff,tt,ff,ff] _ _
            refine wpAnyH_take (i := 8) (v := ?vR2x17) (by (try simp only [gA, gB, gC]); rfl) (by kernel_rfl) (by kernel_rfl) (by kernel_rfl) (by exact fun _ _ _ h => h) (Or.inl ⟨by first | kernel_rfl | rfl, ?hyR2x17⟩) (by exact hS) ?rsR2x17
            case hyR2x17 => (intro uz hSw; (try dsimp only at hSw); go_simp; try with_reducible rfl)
            try simp only [Act.put, sA, sB, sC]
            change wpAnyH _ _ _ _ _ _ #[tt,tt,tt,tt,tt,tt,tt,tt,tt,ff,tt,ff,ff] _ _
            refine wpAnyH_take (i := 9) (v := ?vR2x18) (by (try simp only [gA, gB, gC]); rfl) (by kernel_rfl) (by kernel_rfl) (by kernel_rfl) (by exact fun _ _ _ h => h) (Or.inl ⟨by first | kernel_rfl | rfl, ?hyR2x18⟩) (by exact hS) ?rsR2x18
            case hyR2x18 => (intro uz hSw; (try dsimp only at hSw); go_simp; try with_reducible rfl)
            try simp only [Act.put, sA, sB, sC]
            change wpAnyH _ _ _ _ _ _ #[tt,tt,tt,tt,tt,tt,tt,tt,tt,tt,tt,ff,ff] _ _
            refine wpAnyH_ready (rs := [11]) (by kernel_rfl) (by simp) ?_
            refine (AllReadyH.cons (by (try simp only [gA, gB, gC]); rfl) (fun K hK => ?_) AllReadyH.nil)
            have b0 := HBX.out.cell 0 rfl
            have f0 := HBX.out.free 0
            have b1 := HBX.out.cell 1 rfl
            have f1 := HBX.out.free 1
            have b2 := HBX.out.cell 2 rfl
            have f2 := HBX.out.free 2
            go_simp
            have hS2 := (Q.setCell (Q.setCell (Q.setCell hS (ad := ⟨bX, 0, none⟩) HW_bX.out (.bool gr)) (ad := ⟨bX, 1, none⟩) HW_bX.out (.slice ua zl uc)) (ad := ⟨bX, 2, none⟩) HW_bX.out (.int .i64 sr))
            replace HBX := Lib.hid (((HBX.out.set 0 (.bool gr)).set 1 (.slice ua zl uc)).set 2 (.int .i64 sr))
            replace HQL := Lib.hid (Lst.setCell ((Lst.setCell ((Lst.setCell (HQL.out) (ad := ⟨bX, 0, none⟩) (.bool gr) HQN.out)) (ad := ⟨bX, 1, none⟩) (.slice ua zl uc) HQN.out)) (ad := ⟨bX, 2, none⟩) (.int .i64 sr) HQN.out)
            refine hK.out _ _ (by exact hS2) (fun hHeld => ?_)
            clear hK K hHeld hS
            have hS := hS2
            clear hS2 b0 f0 b1 f1 b2 f2
            generalize (((yR2x15.setCell ⟨bX, 0, none⟩ (.bool gr)).setCell ⟨bX, 1, none⟩ (.slice ua zl uc)).setCell ⟨bX, 2, none⟩ (.int .i64 sr)) = yR2x19 at *
            try simp only [Act.put, sA, sB, sC]
            change wpAnyH _ _ _ _ _ _ #[tt,tt,tt,tt,tt,tt,tt,tt,tt,tt,tt,tt,ff] _ _
            refine wpAnyH_take (i := 12) (v := ?vR2x20) (by (try simp only [gA, gB, gC]); rfl) (by kernel_rfl) (by kernel_rfl) (by kernel_rfl) (by exact fun _ _ _ h => h) (Or.inl ⟨by first | kernel_rfl | rfl, ?hyR2x20⟩) (by exact hS) ?rsR2x20
            case hyR2x20 => (intro uz hSw; (try dsimp only at hSw); go_simp; try with_reducible rfl)
            try simp only [Act.put, sA, sB, sC]
            change wpAnyH _ _ _ _ _ _ #[tt,tt,tt,tt,tt,tt,tt,tt,tt,tt,tt,tt,tt] _ _
            refine wpAnyH_done (by kernel_rfl) ?_ _
            go_wp2_with fail
            go_meet
            exact ⟨bX, ua, uc, rfl, rfl, HBX.out, HQL.out, hS⟩
        · go_simp
          have hq := (Q.refl yR2x0).alloc (.cells #[.bool false, .slice none 0 0, .int .i64 0] 29)
          have HBX := Lib.hid (Bk.new yR2x0 29 [.bool false, .slice none 0 0, .int .i64 0])
          have HW_bX := Lib.hid (Q.le hS)
          have hS2 := Q.trans hS hq
          refine hK.out _ _ (by exact hS2) (fun hHeld => ?_)
          clear hK K hHeld hS hq
          have hS := hS2
          clear hS2
          generalize yR2x0.alloc (.cells #[.bool false, .slice none 0 0, .int .i64 0] 29) = yR2x21 at *
          generalize yR2x0.heap.size = bX at *
          try simp only [Act.put, sA, sB, sC]
          change wpAnyH _ _ _ _ _ _ #[tt,tt,tt,tt,tt,ff,ff,ff,ff,ff,tt,ff,ff] _ _
          refine wpAnyH_ready (rs := [5]) (by kernel_rfl) (by simp) ?_
          refine (AllReadyH.cons (by (try simp only [gA, gB, gC]); rfl) (fun K hK => ?_) AllReadyH.nil)
          go_simp
          refine (Kl.dec_q _ _ _ _ _ _).mono ?_
          rintro e yR2x22 ⟨rfl, hq⟩
          try (go_wp2_with fail)
          have HBX := Lib.hid (Bk.q HBX.out hq)
          have hS2 := Q.trans hS hq
          refine hK.out _ _ (by exact hS2) (fun hHeld => ?_)
          clear hK K hHeld hS hq
          have hS := hS2
          clear hS2
          try simp only [Act.put, sA, sB, sC]
          change wpAnyH _ _ _ _ _ _ #[tt,tt,tt,tt,tt,tt,ff,ff,ff,ff,tt,ff,ff] _ _
          refine wpAnyH_ready (rs := [6]) (by kernel_rfl) (by simp) ?_
          refine (AllReadyH.cons (by (try simp only [gA, gB, gC]); rfl) (fun K hK => ?_) AllReadyH.nil)
          go_simp
          refine (HVP.out _ _ _ _ _ _ _ _ _ _ (HL1.out.q hS) (HL2.out.q hS) (HL3.out.q hS) (HLE.out.q hS)).mono ?_
          rintro e yR2x23 ⟨ua, uc, rfl, hlf, hq⟩
          have HQL := Lib.hid hlf.lst
          have HQN := Lib.hid (Kr.Ap.lf hlf HBX.out.lt)
          clear hlf
          try (go_wp2_with fail)
          have HBX := Lib.hid (Bk.q HBX.out hq)
          have hS2 := Q.trans hS hq
          refine hK.out _ _ (by exact hS2) (fun hHeld => ?_)
          clear hK K hHeld hS hq
          have hS := hS2
          clear hS2
          try simp only [Act.put, sA, sB, sC]
          change wpAnyH _ _ _ _ _ _ #[tt,tt,tt,tt,tt,tt,tt,ff,ff,ff,tt,ff,ff] _ _
          refine wpAnyH_take (i := 7) (v := ?vR2x24) (by (try simp only [gA, gB, gC]); rfl) (by kernel_rfl) (by kernel_rfl) (by kernel_rfl) (by exact fun _ _ _ h => h) (Or.inl ⟨by first | kernel_rfl | rfl, ?hyR2x24⟩) (by exact hS) ?rsR2x24
          case hyR2x24 => (intro uz hSw; (try dsimp only at hSw); go_simp; try with_reducible rfl)
          try simp only [Act.put, sA, sB, sC]
          change wpAnyH _ _ _ _ _ _ #[tt,tt,tt,tt,tt,tt,tt,tt,ff,ff,tt,ff,ff] _ _
          refine wpAnyH_take (i := 8) (v := ?vR2x25) (by (try simp only [gA, gB, gC]); rfl) (by kernel_rfl) (by kernel_rfl) (by kernel_rfl) (by exact fun _ _ _ h => h) (Or.inl ⟨by first | kernel_rfl | rfl, ?hyR2x25⟩) (by exact hS) ?rsR2x25
          case hyR2x25 => (intro uz hSw; (try dsimp only at hSw); go_simp; try with_reducible rfl)
          try simp only [Act.put, sA, sB, sC]
          change wpAnyH _ _ _ _ _ _ #[tt,tt,tt,tt,tt,tt,tt,tt,tt,ff,tt,ff,ff] _ _
          refine wpAnyH_take (i := 9) (v := ?vR2x26) (by (try simp only [gA, gB, gC]); rfl) (by kernel_rfl) (by kernel_rfl) (by kernel_rfl) (by exact fun _ _ _ h => h) (Or.inl ⟨by first | kernel_rfl | rfl, ?hyR2x26⟩) (by exact hS) ?rsR2x26
          case hyR2x26 => (intro uz hSw; (try dsimp only at hSw); go_simp; try with_reducible rfl)
          try simp only [Act.put, sA, sB, sC]
          change wpAnyH _ _ _ _ _ _ #[tt,tt,tt,tt,tt,tt,tt,tt,tt,tt,tt,ff,ff] _ _
          refine wpAnyH_ready (rs := [11]) (by kernel_rfl) (by simp) ?_
          refine (AllReadyH.cons (by (try simp only [gA, gB, gC]); rfl) (fun K hK => ?_) AllReadyH.nil)
          have b0 := HBX.out.cell 0 rfl
          have f0 := HBX.out.free 0
          have b1 := HBX.out.cell 1 rfl
          have f1 := HBX.out.free 1
          have b2 := HBX.out.cell 2 rfl
          have f2 := HBX.out.free 2
          go_simp
          have hS2 := (Q.setCell (Q.setCell (Q.setCell hS (ad := ⟨bX, 0, none⟩) HW_bX.out (.bool gr)) (ad := ⟨bX, 1, none⟩) HW_bX.out (.slice ua zl uc)) (ad := ⟨bX, 2, none⟩) HW_bX.out (.int .i64 sr))
          replace HBX := Lib.hid (((HBX.out.set 0 (.bool gr)).set 1 (.slice ua zl uc)).set 2 (.int .i64 sr))
          replace HQL := Lib.hid (Lst.setCell ((Lst.setCell ((Lst.setCell (HQL.out) (ad := ⟨bX, 0, none⟩) (.bool gr) HQN.out)) (ad := ⟨bX, 1, none⟩) (.slice ua zl uc) HQN.out)) (ad := ⟨bX, 2, none⟩) (.int .i64 sr) HQN.out)
          refine hK.out _ _ (by exact hS2) (fun hHeld => ?_)
          clear hK K hHeld hS
          have hS := hS2
          clear hS2 b0 f0 b1 f1 b2 f2
          generalize (((yR2x23.setCell ⟨bX, 0, none⟩ (.bool gr)).setCell ⟨bX, 1, none⟩ (.slice ua zl uc)).setCell ⟨bX, 2, none⟩ (.int .i64 sr)) = yR2x27 at *
          try simp only [Act.put, sA, sB, sC]
          change wpAnyH _ _ _ _ _ _ #[tt,tt,tt,tt,tt,tt,tt,tt,tt,tt,tt,tt,ff] _ _
          refine wpAnyH_take (i := 12) (v := ?vR2x28) (by (try simp only [gA, gB, gC]); rfl) (by kernel_rfl) (by kernel_rfl) (by kernel_rfl) (by exact fun _ _ _ h => h) (Or.inl ⟨by first | kernel_rfl | rfl, ?hyR2x28⟩) (by exact hS) ?rsR2x28
          case hyR2x28 => (intro uz hSw; (try dsimp only at hSw); go_simp; try with_reducible rfl)
          try simp only [Act.put, sA, sB, sC]
          change wpAnyH _ _ _ _ _ _ #[tt,tt,tt,tt,tt,tt,tt,tt,tt,tt,tt,tt,tt] _ _
          refine wpAnyH_done (by kernel_rfl) ?_ _
          go_wp2_with fail
          go_meet
          exact ⟨bX, ua, uc, rfl, rfl, HBX.out, HQL.out, hS⟩
      case rest =>
        obtain ⟨bP, aP, cP, rfl, rfl, hbx, hlx, hqc⟩ := hcut
        obtain ⟨v11, hv11⟩ : ∃ x, x = wc := ⟨_, rfl⟩
        subst hv11
        replace HQ := Lib.hid (Q.trans HQ.out hqc)
        replace HR := Lib.hid (Bk.q HR.out hqc)
        replace HL1 := Lib.hid (Lst.q HL1.out hqc)
        replace HL2 := Lib.hid (Lst.q HL2.out hqc)
        replace HL3 := Lib.hid (Lst.q HL3.out hqc)
        replace HW := Lib.hid (Bk.q HW.out hqc)
        replace HM1 := Lib.hid (Lst.q HM1.out hqc)
        replace HM2 := Lib.hid (Lst.q HM2.out hqc)
        replace HM3 := Lib.hid (Lst.q HM3.out hqc)
        replace HQ5 := Lib.hid (Q.trans HQ5.out hqc)
        replace HLE := Lib.hid (Lst.q HLE.out hqc)
        have HBP := Lib.hid hbx
        have HLP := Lib.hid hlx
        clear hqc hbx hlx
        go_upto_region 10 with fail
        go_cut [12, 13] (fun p e wx => ∃ b a c, p = .pointer (some ⟨b, 0, none⟩) ∧ e = .int .i64 er ∧ Bk wx b 24 [.bool gr, .slice a zl c, .int .i64 sr] ∧ Lst wx (.slice a zl c) Z ∧ Q v11 wx)
        case first =>
          refine wp_region_held_drew (S := fun u => Q v11 u) (by kernel_rfl) (by exact (Q.refl v11).drew) (fun hHeld => ?_)
          have hS : Q v11 v11.drew := hHeld
          clear hHeld
          have hq : Q v11 v11.drew := (Q.refl _).drew
          clear hq
          generalize v11.drew = yR3x0 at *
          change wpAnyH _ _ _ _ _ _ #[ff,ff,ff,ff,ff,ff,ff,ff,ff,ff,ff,ff] _ _
          refine wpAnyH_take (i := 0) (v := ?vR3x1) (by (try simp only [gA, gB, gC]); rfl) (by kernel_rfl) (by kernel_rfl) (by kernel_rfl) (by exact fun _ _ _ h => h) (Or.inl ⟨by first | kernel_rfl | rfl, ?hyR3x1⟩) (by exact hS) ?rsR3x1
          case hyR3x1 => (intro uz hSw; (try dsimp only at hSw); refine ld_row (x := .tmp 7) ?_ ?_ (Bk.q HW.out hSw) Try.underlying44 (by exact Kr.infoRu) <;> rfl)
          try simp only [Act.put, sA, sB, sC]
          change wpAnyH _ _ _ _ _ _ #[tt,ff,ff,ff,ff,ff,ff,ff,ff,ff,ff,ff] _ _
          refine wpAnyH_take (i := 1) (v := ?vR3x2) (by (try simp only [gA, gB, gC]); rfl) (by kernel_rfl) (by kernel_rfl) (by kernel_rfl) (by exact fun _ _ _ h => h) (Or.inl ⟨by first | kernel_rfl | rfl, ?hyR3x2⟩) (by exact hS) ?rsR3x2
          case hyR3x2 => (intro uz hSw; (try dsimp only at hSw); go_simp; try with_reducible rfl)
          try simp only [Act.put, sA, sB, sC]
          change wpAnyH _ _ _ _ _ _ #[tt,tt,ff,ff,ff,ff,ff,ff,ff,ff,ff,ff] _ _
          refine wpAnyH_take (i := 2) (v := ?vR3x3) (by (try simp only [gA, gB, gC]); rfl) (by kernel_rfl) (by kernel_rfl) (by kernel_rfl) (by exact fun _ _ _ h => h) (Or.inl ⟨by first | kernel_rfl | rfl, ?hyR3x3⟩) (by exact hS) ?rsR3x3
          case hyR3x3 => (intro uz hSw; (try dsimp only at hSw); go_simp; try with_reducible rfl)
          try simp only [Act.put, sA, sB, sC]
          change wpAnyH _ _ _ _ _ _ #[tt,tt,tt,ff,ff,ff,ff,ff,ff,ff,ff,ff] _ _
          refine wpAnyH_take (i := 3) (v := ?vR3x4) (by (try simp only [gA, gB, gC]); rfl) (by kernel_rfl) (by kernel_rfl) (by kernel_rfl) (by exact fun _ _ _ h => h) (Or.inl ⟨by first | kernel_rfl | rfl, ?hyR3x4⟩) (by exact hS) ?rsR3x4
          case hyR3x4 => (intro uz hSw; (try dsimp only at hSw); go_simp; try with_reducible rfl)
          try simp only [Act.put, sA, sB, sC]
          change wpAnyH _ _ _ _ _ _ #[tt,tt,tt,tt,ff,ff,ff,ff,ff,ff,ff,ff] _ _
          refine wpAnyH_take (i := 4) (v := ?vR3x5) (by (try simp only [gA, gB, gC]); rfl) (by kernel_rfl) (by kernel_rfl) (by kernel_rfl) (by exact fun _ _ _ h => h) (Or.inl ⟨by first | kernel_rfl | rfl, ?hyR3x5⟩) (by exact hS) ?rsR3x5
          case hyR3x5 => (intro uz hSw; (try dsimp only at hSw); obtain ⟨d0, d1, d2⟩ := HCE.out _ (HQ5.out.trans hSw); go_simp; try with_reducible rfl)
          try simp only [Act.put, sA, sB, sC]
          change wpAnyH _ _ _ _ _ _ #[tt,tt,tt,tt,tt,ff,ff,ff,ff,ff,ff,ff] _ _
          refine wpAnyH_ready (rs := [5, 9]) (by kernel_rfl) (by simp) ?_
          refine (AllReadyH.cons (by (try simp only [gA, gB, gC]); rfl) (fun K hK => ?_) (AllReadyH.cons (by (try simp only [gA, gB, gC]); rfl) (fun K hK => ?_) AllReadyH.nil))
          · go_simp
            refine (HVD.out _ _ _ _ _ _ _ _ _ _ (HM1.out.q hS) (HM2.out.q hS) (HM3.out.q hS) (HLE.out.q hS)).mono ?_
            rintro e yR3x6 ⟨ua, uc, rfl, hlf, hq⟩
            have HQL := Lib.hid hlf.lst
            clear hlf
            try (go_wp2_with fail)
            have hS2 := Q.trans hS hq
            refine hK.out _ _ (by exact hS2) (fun hHeld => ?_)
            clear hK K hHeld hS hq
            have hS := hS2
            clear hS2
            try simp only [Act.put, sA, sB, sC]
            change wpAnyH _ _ _ _ _ _ #[tt,tt,tt,tt,tt,tt,ff,ff,ff,ff,ff,ff] _ _
            refine wpAnyH_take (i := 6) (v := ?vR3x7) (by (try simp only [gA, gB, gC]); rfl) (by kernel_rfl) (by kernel_rfl) (by kernel_rfl) (by exact fun _ _ _ h => h) (Or.inl ⟨by first | kernel_rfl | rfl, ?hyR3x7⟩) (by exact hS) ?rsR3x7
            case hyR3x7 => (intro uz hSw; (try dsimp only at hSw); go_simp; try with_reducible rfl)
            try simp only [Act.put, sA, sB, sC]
            change wpAnyH _ _ _ _ _ _ #[tt,tt,tt,tt,tt,tt,tt,ff,ff,ff,ff,ff] _ _
            refine wpAnyH_take (i := 7) (v := ?vR3x8) (by (try simp only [gA, gB, gC]); rfl) (by kernel_rfl) (by kernel_rfl) (by kernel_rfl) (by exact fun _ _ _ h => h) (Or.inl ⟨by first | kernel_rfl | rfl, ?hyR3x8⟩) (by exact hS) ?rsR3x8
            case hyR3x8 => (intro uz hSw; (try dsimp only at hSw); go_simp; try with_reducible rfl)
            try simp only [Act.put, sA, sB, sC]
            change wpAnyH _ _ _ _ _ _ #[tt,tt,tt,tt,tt,tt,tt,tt,ff,ff,ff,ff] _ _
            refine wpAnyH_take (i := 8) (v := ?vR3x9) (by (try simp only [gA, gB, gC]); rfl) (by kernel_rfl) (by kernel_rfl) (by kernel_rfl) (by exact fun _ _ _ h => h) (Or.inl ⟨by first | kernel_rfl | rfl, ?hyR3x9⟩) (by exact hS) ?rsR3x9
            case hyR3x9 => (intro uz hSw; (try dsimp only at hSw); go_simp; try with_reducible rfl)
            try simp only [Act.put, sA, sB, sC]
            change wpAnyH _ _ _ _ _ _ #[tt,tt,tt,tt,tt,tt,tt,tt,tt,ff,ff,ff] _ _
            refine wpAnyH_ready (rs := [9]) (by kernel_rfl) (by simp) ?_
            refine (AllReadyH.cons (by (try simp only [gA, gB, gC]); rfl) (fun K hK => ?_) AllReadyH.nil)
            go_simp
            have HQN := Lib.hid (Kr.Ap.new HQL.out (Nat.le_refl _))
            have hq := (Q.refl yR3x6).alloc (.cells #[.bool false, .slice none 0 0, .int .i64 0] 24)
            have HBX := Lib.hid (Bk.new yR3x6 24 [.bool false, .slice none 0 0, .int .i64 0])
            have HW_bX := Lib.hid (Q.le hS)
            have HQL := Lib.hid (Lst.q HQL.out hq)
            have hS2 := Q.trans hS hq
            refine hK.out _ _ (by exact hS2) (fun hHeld => ?_)
            clear hK K hHeld hS hq
            have hS := hS2
            clear hS2
            generalize yR3x6.alloc (.cells #[.bool false, .slice none 0 0, .int .i64 0] 24) = yR3x10 at *
            generalize yR3x6.heap.size = bX at *
            try simp only [Act.put, sA, sB, sC]
            change wpAnyH _ _ _ _ _ _ #[tt,tt,tt,tt,tt,tt,tt,tt,tt,tt,ff,ff] _ _
            refine wpAnyH_ready (rs := [10]) (by kernel_rfl) (by simp) ?_
            refine (AllReadyH.cons (by (try simp only [gA, gB, gC]); rfl) (fun K hK => ?_) AllReadyH.nil)
            have b0 := HBX.out.cell 0 rfl
            have f0 := HBX.out.free 0
            have b1 := HBX.out.cell 1 rfl
            have f1 := HBX.out.free 1
            have b2 := HBX.out.cell 2 rfl
            have f2 := HBX.out.free 2
            go_simp
            have hS2 := (Q.setCell (Q.setCell (Q.setCell hS (ad := ⟨bX, 0, none⟩) HW_bX.out (.bool gr)) (ad := ⟨bX, 1, none⟩) HW_bX.out (.slice ua zl uc)) (ad := ⟨bX, 2, none⟩) HW_bX.out (.int .i64 sr))
            replace HBX := Lib.hid (((HBX.out.set 0 (.bool gr)).set 1 (.slice ua zl uc)).set 2 (.int .i64 sr))
            replace HQL := Lib.hid (Lst.setCell ((Lst.setCell ((Lst.setCell (HQL.out) (ad := ⟨bX, 0, none⟩) (.bool gr) HQN.out)) (ad := ⟨bX, 1, none⟩) (.slice ua zl uc) HQN.out)) (ad := ⟨bX, 2, none⟩) (.int .i64 sr) HQN.out)
            refine hK.out _ _ (by exact hS2) (fun hHeld => ?_)
            clear hK K hHeld hS
            have hS := hS2
            clear hS2 b0 f0 b1 f1 b2 f2
            generalize (((yR3x10.setCell ⟨bX, 0, none⟩ (.bool gr)).setCell ⟨bX, 1, none⟩ (.slice ua zl uc)).setCell ⟨bX, 2, none⟩ (.int .i64 sr)) = yR3x11 at *
            try simp only [Act.put, sA, sB, sC]
            change wpAnyH _ _ _ _ _ _ #[tt,tt,tt,tt,tt,tt,tt,tt,tt,tt,tt,ff] _ _
            refine wpAnyH_take (i := 11) (v := ?vR3x12) (by (try simp only [gA, gB, gC]); rfl) (by kernel_rfl) (by kernel_rfl) (by kernel_rfl) (by exact fun _ _ _ h => h) (Or.inl ⟨by first | kernel_rfl | rfl, ?hyR3x12⟩) (by exact hS) ?rsR3x12
            case hyR3x12 => (intro uz hSw; (try dsimp only at hSw); go_simp; try with_reducible rfl)
            try simp only [Act.put, sA, sB, sC]
            change wpAnyH _ _ _ _ _ _ #[tt,tt,tt,tt,tt,tt,tt,tt,tt,tt,tt,tt] _ _
            refine wpAnyH_done (by kernel_rfl) ?_ _
            go_wp2_with fail
            go_meet
            exact ⟨bX, ua, uc, rfl, rfl, HBX.out, HQL.out, hS⟩
          · go_simp
            have hq := (Q.refl yR3x0).alloc (.cells #[.bool false, .slice none 0 0, .int .i64 0] 24)
            have HBX := Lib.hid (Bk.new yR3x0 24 [.bool false, .slice none 0 0, .int .i64 0])
            have HW_bX := Lib.hid (Q.le hS)
            have hS2 := Q.trans hS hq
            refine hK.out _ _ (by exact hS2) (fun hHeld => ?_)
            clear hK K hHeld hS hq
            have hS := hS2
            clear hS2
            generalize yR3x0.alloc (.cells #[.bool false, .slice none 0 0, .int .i64 0] 24) = yR3x13 at *
            generalize yR3x0.heap.size = bX at *
            try simp only [Act.put, sA, sB, sC]
            change wpAnyH _ _ _ _ _ _ #[tt,tt,tt,tt,tt,ff,ff,ff,ff,tt,ff,ff] _ _
            refine wpAnyH_ready (rs := [5]) (by kernel_rfl) (by simp) ?_
            refine (AllReadyH.cons (by (try simp only [gA, gB, gC]); rfl) (fun K hK => ?_) AllReadyH.nil)
            go_simp
            refine (HVD.out _ _ _ _ _ _ _ _ _ _ (HM1.out.q hS) (HM2.out.q hS) (HM3.out.q hS) (HLE.out.q hS)).mono ?_
            rintro e yR3x14 ⟨ua, uc, rfl, hlf, hq⟩
            have HQL := Lib.hid hlf.lst
            have HQN := Lib.hid (Kr.Ap.lf hlf HBX.out.lt)
            clear hlf
            try (go_wp2_with fail)
            have HBX := Lib.hid (Bk.q HBX.out hq)
            have hS2 := Q.trans hS hq
            refine hK.out _ _ (by exact hS2) (fun hHeld => ?_)
            clear hK K hHeld hS hq
            have hS := hS2
            clear hS2
            try simp only [Act.put, sA, sB, sC]
            change wpAnyH _ _ _ _ _ _ #[tt,tt,tt,tt,tt,tt,ff,ff,ff,tt,ff,ff] _ _
            refine wpAnyH_take (i := 6) (v := ?vR3x15) (by (try simp only [gA, gB, gC]); rfl) (by kernel_rfl) (by kernel_rfl) (by kernel_rfl) (by exact fun _ _ _ h => h) (Or.inl ⟨by first | kernel_rfl | rfl, ?hyR3x15⟩) (by exact hS) ?rsR3x15
            case hyR3x15 => (intro uz hSw; (try dsimp only at hSw); go_simp; try with_reducible rfl)
            try simp only [Act.put, sA, sB, sC]
            change wpAnyH _ _ _ _ _ _ #[tt,tt,tt,tt,tt,tt,tt,ff,ff,tt,ff,ff] _ _
            refine wpAnyH_take (i := 7) (v := ?vR3x16) (by (try simp only [gA, gB, gC]); rfl) (by kernel_rfl) (by kernel_rfl) (by kernel_rfl) (by exact fun _ _ _ h => h) (Or.inl ⟨by first | kernel_rfl | rfl, ?hyR3x16⟩) (by exact hS) ?rsR3x16
            case hyR3x16 => (intro uz hSw; (try dsimp only at hSw); go_simp; try with_reducible rfl)
            try simp only [Act.put, sA, sB, sC]
            change wpAnyH _ _ _ _ _ _ #[tt,tt,tt,tt,tt,tt,tt,tt,ff,tt,ff,ff] _ _
            refine wpAnyH_take (i := 8) (v := ?vR3x17) (by (try simp only [gA, gB, gC]); rfl) (by kernel_rfl) (by kernel_rfl) (by kernel_rfl) (by exact fun _ _ _ h => h) (Or.inl ⟨by first | kernel_rfl | rfl, ?hyR3x17⟩) (by exact hS) ?rsR3x17
            case hyR3x17 => (intro uz hSw; (try dsimp only at hSw); go_simp; try with_reducible rfl)
            try simp only [Act.put, sA, sB, sC]
            change wpAnyH _ _ _ _ _ _ #[tt,tt,tt,tt,tt,tt,tt,tt,tt,tt,ff,ff] _ _
            refine wpAnyH_ready (rs := [10]) (by kernel_rfl) (by simp) ?_
            refine (AllReadyH.cons (by (try simp only [gA, gB, gC]); rfl) (fun K hK => ?_) AllReadyH.nil)
            have b0 := HBX.out.cell 0 rfl
            have f0 := HBX.out.free 0
            have b1 := HBX.out.cell 1 rfl
            have f1 := HBX.out.free 1
            have b2 := HBX.out.cell 2 rfl
            have f2 := HBX.out.free 2
            go_simp
            have hS2 := (Q.setCell (Q.setCell (Q.setCell hS (ad := ⟨bX, 0, none⟩) HW_bX.out (.bool gr)) (ad := ⟨bX, 1, none⟩) HW_bX.out (.slice ua zl uc)) (ad := ⟨bX, 2, none⟩) HW_bX.out (.int .i64 sr))
            replace HBX := Lib.hid (((HBX.out.set 0 (.bool gr)).set 1 (.slice ua zl uc)).set 2 (.int .i64 sr))
            replace HQL := Lib.hid (Lst.setCell ((Lst.setCell ((Lst.setCell (HQL.out) (ad := ⟨bX, 0, none⟩) (.bool gr) HQN.out)) (ad := ⟨bX, 1, none⟩) (.slice ua zl uc) HQN.out)) (ad := ⟨bX, 2, none⟩) (.int .i64 sr) HQN.out)
            refine hK.out _ _ (by exact hS2) (fun hHeld => ?_)
            clear hK K hHeld hS
            have hS := hS2
            clear hS2 b0 f0 b1 f1 b2 f2
            generalize (((yR3x14.setCell ⟨bX, 0, none⟩ (.bool gr)).setCell ⟨bX, 1, none⟩ (.slice ua zl uc)).setCell ⟨bX, 2, none⟩ (.int .i64 sr)) = yR3x18 at *
            try simp only [Act.put, sA, sB, sC]
            change wpAnyH _ _ _ _ _ _ #[tt,tt,tt,tt,tt,tt,tt,tt,tt,tt,tt,ff] _ _
            refine wpAnyH_take (i := 11) (v := ?vR3x19) (by (try simp only [gA, gB, gC]); rfl) (by kernel_rfl) (by kernel_rfl) (by kernel_rfl) (by exact fun _ _ _ h => h) (Or.inl ⟨by first | kernel_rfl | rfl, ?hyR3x19⟩) (by exact hS) ?rsR3x19
            case hyR3x19 => (intro uz hSw; (try dsimp only at hSw); go_simp; try with_reducible rfl)
            try simp only [Act.put, sA, sB, sC]
            change wpAnyH _ _ _ _ _ _ #[tt,tt,tt,tt,tt,tt,tt,tt,tt,tt,tt,tt] _ _
            refine wpAnyH_done (by kernel_rfl) ?_ _
            go_wp2_with fail
            go_meet
            exact ⟨bX, ua, uc, rfl, rfl, HBX.out, HQL.out, hS⟩
        case rest =>
          obtain ⟨bZ, aZ, cZ, rfl, rfl, hbx, hlx, hqc⟩ := hcut
          obtain ⟨v12, hv12⟩ : ∃ x, x = wc := ⟨_, rfl⟩
          subst hv12
          replace HQ := Lib.hid (Q.trans HQ.out hqc)
          replace HR := Lib.hid (Bk.q HR.out hqc)
          replace HL1 := Lib.hid (Lst.q HL1.out hqc)
          replace HL2 := Lib.hid (Lst.q HL2.out hqc)
          replace HL3 := Lib.hid (Lst.q HL3.out hqc)
          replace HW := Lib.hid (Bk.q HW.out hqc)
          replace HM1 := Lib.hid (Lst.q HM1.out hqc)
          replace HM2 := Lib.hid (Lst.q HM2.out hqc)
          replace HM3 := Lib.hid (Lst.q HM3.out hqc)
          replace HQ5 := Lib.hid (Q.trans HQ5.out hqc)
          replace HLE := Lib.hid (Lst.q HLE.out hqc)
          replace HBP := Lib.hid (Bk.q HBP.out hqc)
          replace HLP := Lib.hid (Lst.q HLP.out hqc)
          have HBZ := Lib.hid hbx
          have HLZ := Lib.hid hlx
          clear hqc hbx hlx
          go_upto_region 11 with fail
          refine wp_region_held_drew (S := fun u => Q v12 u) (by kernel_rfl) (by exact (Q.refl v12).drew) (fun hHeld => ?_)
          have hS : Q v12 v12.drew := hHeld
          clear hHeld
          have hq : Q v12 v12.drew := (Q.refl _).drew
          clear hq
          generalize v12.drew = yR4x0 at *
          change wpAnyH _ _ _ _ _ _ #[ff,ff,ff,ff,ff,ff,ff,ff,ff,ff] _ _
          refine wpAnyH_take (i := 0) (v := ?vR4x1) (by (try simp only [gA, gB, gC]); rfl) (by kernel_rfl) (by kernel_rfl) (by kernel_rfl) (by exact fun _ _ _ h => h) (Or.inl ⟨by first | kernel_rfl | rfl, ?hyR4x1⟩) (by exact hS) ?rsR4x1
          case hyR4x1 => (intro uz hSw; (try dsimp only at hSw); go_simp; try with_reducible rfl)
          try simp only [Act.put, sA, sB, sC]
          change wpAnyH _ _ _ _ _ _ #[tt,ff,ff,ff,ff,ff,ff,ff,ff,ff] _ _
          refine wpAnyH_take (i := 1) (v := ?vR4x2) (by (try simp only [gA, gB, gC]); rfl) (by kernel_rfl) (by kernel_rfl) (by kernel_rfl) (by exact fun _ _ _ h => h) (Or.inl ⟨by first | kernel_rfl | rfl, ?hyR4x2⟩) (by exact hS) ?rsR4x2
          case hyR4x2 => (intro uz hSw; (try dsimp only at hSw); go_simp; try with_reducible rfl)
          try simp only [Act.put, sA, sB, sC]
          change wpAnyH _ _ _ _ _ _ #[tt,tt,ff,ff,ff,ff,ff,ff,ff,ff] _ _
          refine wpAnyH_take (i := 2) (v := ?vR4x3) (by (try simp only [gA, gB, gC]); rfl) (by kernel_rfl) (by kernel_rfl) (by kernel_rfl) (by exact fun _ _ _ h => h) (Or.inl ⟨by first | kernel_rfl | rfl, ?hyR4x3⟩) (by exact hS) ?rsR4x3
          case hyR4x3 => (intro uz hSw; (try dsimp only at hSw); go_simp; try with_reducible rfl)
          try simp only [Act.put, sA, sB, sC]
          change wpAnyH _ _ _ _ _ _ #[tt,tt,tt,ff,ff,ff,ff,ff,ff,ff] _ _
          refine wpAnyH_take (i := 3) (v := ?vR4x4) (by (try simp only [gA, gB, gC]); rfl) (by kernel_rfl) (by kernel_rfl) (by kernel_rfl) (by exact fun _ _ _ h => h) (Or.inl ⟨by first | kernel_rfl | rfl, ?hyR4x4⟩) (by exact hS) ?rsR4x4
          case hyR4x4 => (intro uz hSw; (try dsimp only at hSw); go_simp; try with_reducible rfl)
          try simp only [Act.put, sA, sB, sC]
          change wpAnyH _ _ _ _ _ _ #[tt,tt,tt,tt,ff,ff,ff,ff,ff,ff] _ _
          refine wpAnyH_take (i := 4) (v := ?vR4x5) (by (try simp only [gA, gB, gC]); rfl) (by kernel_rfl) (by kernel_rfl) (by kernel_rfl) (by exact fun _ _ _ h => h) (Or.inl ⟨by first | kernel_rfl | rfl, ?hyR4x5⟩) (by exact hS) ?rsR4x5
          case hyR4x5 => (intro uz hSw; (try dsimp only at hSw); have hxx := HBP.out.q hSw; have d0 := hxx.cell 0 rfl; have d1 := hxx.cell 1 rfl; have d2 := hxx.cell 2 rfl; clear hxx; go_simp; try with_reducible rfl)
          try simp only [Act.put, sA, sB, sC]
          change wpAnyH _ _ _ _ _ _ #[tt,tt,tt,tt,tt,ff,ff,ff,ff,ff] _ _
          refine wpAnyH_take (i := 6) (v := ?vR4x6) (by (try simp only [gA, gB, gC]); rfl) (by kernel_rfl) (by kernel_rfl) (by kernel_rfl) (by exact fun _ _ _ h => h) (Or.inl ⟨by first | kernel_rfl | rfl, ?hyR4x6⟩) (by exact hS) ?rsR4x6
          case hyR4x6 => (intro uz hSw; (try dsimp only at hSw); have hxx := HBZ.out.q hSw; have d0 := hxx.cell 0 rfl; have d1 := hxx.cell 1 rfl; have d2 := hxx.cell 2 rfl; clear hxx; go_simp; try with_reducible rfl)
          try simp only [Act.put, sA, sB, sC]
          change wpAnyH _ _ _ _ _ _ #[tt,tt,tt,tt,tt,ff,tt,ff,ff,ff] _ _
          refine wpAnyH_ready (rs := [5]) (by kernel_rfl) (by simp) ?_
          refine (AllReadyH.cons (by (try simp only [gA, gB, gC]); rfl) (fun K hK => ?_) AllReadyH.nil)
          go_simp
          refine (Kl.as_q _ _ _ _ _ _).mono ?_
          rintro e yR4x7 ⟨rfl, hq⟩
          try (go_wp2_with fail)
          have hS2 := Q.trans hS hq
          refine hK.out _ _ (by exact hS2) (fun hHeld => ?_)
          clear hK K hHeld hS hq
          have hS := hS2
          clear hS2
          try simp only [Act.put, sA, sB, sC]
          change wpAnyH _ _ _ _ _ _ #[tt,tt,tt,tt,tt,tt,tt,ff,ff,ff] _ _
          refine wpAnyH_ready (rs := [7]) (by kernel_rfl) (by simp) ?_
          refine (AllReadyH.cons (by (try simp only [gA, gB, gC]); rfl) (fun K hK => ?_) AllReadyH.nil)
          go_simp
          refine (Kl.same_q _ _ _ _ _ _ _ _ _ (HLP.out.q hS) (HLZ.out.q hS) (by have := HZL.out; omega)).mono ?_
          rintro e yR4x8 ⟨rfl, hq⟩
          try (go_wp2_with fail)
          have hS2 := Q.trans hS hq
          refine hK.out _ _ (by exact hS2) (fun hHeld => ?_)
          clear hK K hHeld hS hq
          have hS := hS2
          clear hS2
          try simp only [Act.put, sA, sB, sC]
          change wpAnyH _ _ _ _ _ _ #[tt,tt,tt,tt,tt,tt,tt,tt,ff,ff] _ _
          refine wpAnyH_take (i := 8) (v := ?vR4x9) (by (try simp only [gA, gB, gC]); rfl) (by kernel_rfl) (by kernel_rfl) (by kernel_rfl) (by exact fun _ _ _ h => h) (Or.inl ⟨by first | kernel_rfl | rfl, ?hyR4x9⟩) (by exact hS) ?rsR4x9
          case hyR4x9 => (intro uz hSw; (try dsimp only at hSw); go_simp; try with_reducible rfl)
          try simp only [Act.put, sA, sB, sC]
          change wpAnyH _ _ _ _ _ _ #[tt,tt,tt,tt,tt,tt,tt,tt,tt,ff] _ _
          refine wpAnyH_take (i := 9) (v := ?vR4x10) (by (try simp only [gA, gB, gC]); rfl) (by kernel_rfl) (by kernel_rfl) (by kernel_rfl) (by exact fun _ _ _ h => h) (Or.inl ⟨by first | kernel_rfl | rfl, ?hyR4x10⟩) (by exact hS) ?rsR4x10
          case hyR4x10 => (intro uz hSw; (try dsimp only at hSw); go_simp; try with_reducible rfl)
          try simp only [Act.put, sA, sB, sC]
          change wpAnyH _ _ _ _ _ _ #[tt,tt,tt,tt,tt,tt,tt,tt,tt,tt] _ _
          refine wpAnyH_done (by kernel_rfl) ?_ _
          generalize yR4x8 = v13 at *
          replace HQ := Lib.hid (Q.trans HQ.out hS)
          replace HR := Lib.hid (Bk.q HR.out hS)
          replace HL1 := Lib.hid (Lst.q HL1.out hS)
          replace HL2 := Lib.hid (Lst.q HL2.out hS)
          replace HL3 := Lib.hid (Lst.q HL3.out hS)
          replace HW := Lib.hid (Bk.q HW.out hS)
          replace HM1 := Lib.hid (Lst.q HM1.out hS)
          replace HM2 := Lib.hid (Lst.q HM2.out hS)
          replace HM3 := Lib.hid (Lst.q HM3.out hS)
          replace HQ5 := Lib.hid (Q.trans HQ5.out hS)
          replace HLE := Lib.hid (Lst.q HLE.out hS)
          replace HBP := Lib.hid (Bk.q HBP.out hS)
          replace HLP := Lib.hid (Lst.q HLP.out hS)
          replace HBZ := Lib.hid (Bk.q HBZ.out hS)
          replace HLZ := Lib.hid (Lst.q HLZ.out hS)
          clear hS
          go_upto_region 13 with fail
          have hdd := HBP.out
          have d0 := hdd.cell 0 rfl
          have d1 := hdd.cell 1 rfl
          have d2 := hdd.cell 2 rfl
          clear hdd
          go_wp2_with (refine wpList_load_row (by rfl) 32 _ (by rfl) (bR) (by rfl) 32 #[.bool lo.g, .slice a1 k1 c1, .int .i64 (lo.s : Nat), .bool hi.g, .slice a2 k2 c2, .int .i64 (hi.s : Nat), .bool st.g, .slice a3 k3 c3, .int .i64 (st.s : Nat), .bool sg, .int .i64 n0, .int .i64 n1, .int .i64 n2, .int .i64 n3, .int .i64 n4, .int .i64 n5, .int .i64 n6] (0, 0) _ HR.out Try.underlying32 rfl (by exact Kp.infoRp) ?_)
          refine (HV2.out _ _ _ _ _ _ _ _ _ _ HL1.out HL2.out HL3.out HLP.out).mono ?_
          rintro e v14 ⟨aS, cS, rfl, hlx, hq⟩
          replace HQ := Lib.hid (Q.trans HQ.out hq)
          replace HR := Lib.hid (Bk.q HR.out hq)
          replace HL1 := Lib.hid (Lst.q HL1.out hq)
          replace HL2 := Lib.hid (Lst.q HL2.out hq)
          replace HL3 := Lib.hid (Lst.q HL3.out hq)
          replace HW := Lib.hid (Bk.q HW.out hq)
          replace HM1 := Lib.hid (Lst.q HM1.out hq)
          replace HM2 := Lib.hid (Lst.q HM2.out hq)
          replace HM3 := Lib.hid (Lst.q HM3.out hq)
          replace HQ5 := Lib.hid (Q.trans HQ5.out hq)
          replace HLE := Lib.hid (Lst.q HLE.out hq)
          replace HBP := Lib.hid (Bk.q HBP.out hq)
          replace HLP := Lib.hid (Lst.q HLP.out hq)
          replace HBZ := Lib.hid (Bk.q HBZ.out hq)
          replace HLZ := Lib.hid (Lst.q HLZ.out hq)
          obtain ⟨v15, hv15⟩ : ∃ y, y = v14.alloc (.cells #[.bool gr2, .slice aS zl2 cS, .int .i64 sr2] 29) := ⟨_, rfl⟩
          have hqb : Q v14 v15 := by rw [hv15]; exact (Q.refl _).alloc _
          have hbx : Bk v15 v14.heap.size 29 [.bool gr2, .slice aS zl2 cS, .int .i64 sr2] := by rw [hv15]; exact Bk.new _ _ _
          obtain ⟨bS, hbS⟩ : ∃ b, b = v14.heap.size := ⟨_, rfl⟩
          rw [← hbS] at hbx
          replace HQ := Lib.hid (Q.trans HQ.out hqb)
          replace HR := Lib.hid (Bk.q HR.out hqb)
          replace HL1 := Lib.hid (Lst.q HL1.out hqb)
          replace HL2 := Lib.hid (Lst.q HL2.out hqb)
          replace HL3 := Lib.hid (Lst.q HL3.out hqb)
          replace HW := Lib.hid (Bk.q HW.out hqb)
          replace HM1 := Lib.hid (Lst.q HM1.out hqb)
          replace HM2 := Lib.hid (Lst.q HM2.out hqb)
          replace HM3 := Lib.hid (Lst.q HM3.out hqb)
          replace HQ5 := Lib.hid (Q.trans HQ5.out hqb)
          replace HLE := Lib.hid (Lst.q HLE.out hqb)
          replace HBP := Lib.hid (Bk.q HBP.out hqb)
          replace HLP := Lib.hid (Lst.q HLP.out hqb)
          replace HBZ := Lib.hid (Bk.q HBZ.out hqb)
          replace HLZ := Lib.hid (Lst.q HLZ.out hqb)
          have HBS := Lib.hid hbx
          have HLS := Lib.hid (hlx.lst.q hqb)
          clear hq hqb hbx hlx
          go_upto_region 14 with fail
          rw [← hv15, ← hbS]
          clear hv15 hbS
          clear d0 d1 d2
          by_cases her : er = 0
          · subst her
            obtain ⟨h1, h2, h3, h4, h5, hf3⟩ := HAG.out rfl
            subst h1 h2 h3 h4 h5
            have HFT := Lib.hid (hf3 : ∀ (u : World) (v1 v2 v3 : Value) (sg : Bool) (a : Option Addr) (c : Nat), Lst u (.slice a _ c) _ → _)
            clear hf3
            refine wp_region_held_drew (S := fun u => Q v15 u) (by kernel_rfl) (by exact (Q.refl v15).drew) (fun hHeld => ?_)
            have hS : Q v15 v15.drew := hHeld
            clear hHeld
            have hq : Q v15 v15.drew := (Q.refl _).drew
            clear hq
            generalize v15.drew = yR5x0 at *
            change wpAnyH _ _ _ _ _ _ #[ff,ff,ff,ff,ff,ff,ff,ff,ff,ff,ff,ff,ff,ff,ff,ff,ff,ff,ff] _ _
            refine wpAnyH_take (i := 0) (v := ?vR5x1) (by (try simp only [gA, gB, gC]); rfl) (by kernel_rfl) (by kernel_rfl) (by kernel_rfl) (by exact fun _ _ _ h => h) (Or.inl ⟨by first | kernel_rfl | rfl, ?hyR5x1⟩) (by exact hS) ?rsR5x1
            case hyR5x1 => (intro uz hSw; (try dsimp only at hSw); go_simp; try with_reducible rfl)
            try simp only [Act.put, sA, sB, sC]
            change wpAnyH _ _ _ _ _ _ #[tt,ff,ff,ff,ff,ff,ff,ff,ff,ff,ff,ff,ff,ff,ff,ff,ff,ff,ff] _ _
            refine wpAnyH_take (i := 1) (v := ?vR5x2) (by (try simp only [gA, gB, gC]); rfl) (by kernel_rfl) (by kernel_rfl) (by kernel_rfl) (by exact fun _ _ _ h => h) (Or.inl ⟨by first | kernel_rfl | rfl, ?hyR5x2⟩) (by exact hS) ?rsR5x2
            case hyR5x2 => (intro uz hSw; (try dsimp only at hSw); go_simp; try with_reducible rfl)
            try simp only [Act.put, sA, sB, sC]
            change wpAnyH _ _ _ _ _ _ #[tt,tt,ff,ff,ff,ff,ff,ff,ff,ff,ff,ff,ff,ff,ff,ff,ff,ff,ff] _ _
            refine wpAnyH_take (i := 2) (v := ?vR5x3) (by (try simp only [gA, gB, gC]); rfl) (by kernel_rfl) (by kernel_rfl) (by kernel_rfl) (by exact fun _ _ _ h => h) (Or.inl ⟨by first | kernel_rfl | rfl, ?hyR5x3⟩) (by exact hS) ?rsR5x3
            case hyR5x3 => (intro uz hSw; (try dsimp only at hSw); go_simp; try with_reducible rfl)
            try simp only [Act.put, sA, sB, sC]
            change wpAnyH _ _ _ _ _ _ #[tt,tt,tt,ff,ff,ff,ff,ff,ff,ff,ff,ff,ff,ff,ff,ff,ff,ff,ff] _ _
            refine wpAnyH_take (i := 3) (v := ?vR5x4) (by (try simp only [gA, gB, gC]); rfl) (by kernel_rfl) (by kernel_rfl) (by kernel_rfl) (by exact fun _ _ _ h => h) (Or.inl ⟨by first | kernel_rfl | rfl, ?hyR5x4⟩) (by exact hS) ?rsR5x4
            case hyR5x4 => (intro uz hSw; (try dsimp only at hSw); refine ld_row (x := .tmp 5) ?_ ?_ (Bk.q HR.out hSw) Try.underlying32 (by exact Kp.infoRp) <;> rfl)
            try simp only [Act.put, sA, sB, sC]
            change wpAnyH _ _ _ _ _ _ #[tt,tt,tt,tt,ff,ff,ff,ff,ff,ff,ff,ff,ff,ff,ff,ff,ff,ff,ff] _ _
            refine wpAnyH_take (i := 4) (v := ?vR5x5) (by (try simp only [gA, gB, gC]); rfl) (by kernel_rfl) (by kernel_rfl) (by kernel_rfl) (by exact fun _ _ _ h => h) (Or.inl ⟨by first | kernel_rfl | rfl, ?hyR5x5⟩) (by exact hS) ?rsR5x5
            case hyR5x5 => (intro uz hSw; (try dsimp only at hSw); have hxx := HBP.out.q hSw; have d0 := hxx.cell 0 rfl; have d1 := hxx.cell 1 rfl; have d2 := hxx.cell 2 rfl; clear hxx; go_simp; try with_reducible rfl)
            try simp only [Act.put, sA, sB, sC]
            change wpAnyH _ _ _ _ _ _ #[tt,tt,tt,tt,tt,ff,ff,ff,ff,ff,ff,ff,ff,ff,ff,ff,ff,ff,ff] _ _
            refine wpAnyH_ready (rs := [5]) (by kernel_rfl) (by simp) ?_
            refine (AllReadyH.cons (by (try simp only [gA, gB, gC]); rfl) (fun K hK => ?_) AllReadyH.nil)
            go_simp
            refine (HFT.out _ _ _ _ _ _ _ (HLP.out.q hS)).mono ?_
            rintro e yR5x6 ⟨rfl, hq⟩
            try (go_wp2_with fail)
            have hS2 := Q.trans hS hq
            refine hK.out _ _ (by exact hS2) (fun hHeld => ?_)
            clear hK K hHeld hS hq
            have hS := hS2
            clear hS2
            try simp only [Act.put, sA, sB, sC]
            change wpAnyH _ _ _ _ _ _ #[tt,tt,tt,tt,tt,tt,ff,ff,ff,ff,ff,ff,ff,ff,ff,ff,ff,ff,ff] _ _
            refine wpAnyH_take (i := 6) (v := ?vR5x7) (by (try simp only [gA, gB, gC]); rfl) (by kernel_rfl) (by kernel_rfl) (by kernel_rfl) (by exact fun _ _ _ h => h) (Or.inl ⟨by first | kernel_rfl | rfl, ?hyR5x7⟩) (by exact hS) ?rsR5x7
            case hyR5x7 => (intro uz hSw; (try dsimp only at hSw); go_simp; try with_reducible rfl)
            try simp only [Act.put, sA, sB, sC]
            change wpAnyH _ _ _ _ _ _ #[tt,tt,tt,tt,tt,tt,tt,ff,ff,ff,ff,ff,ff,ff,ff,ff,ff,ff,ff] _ _
            refine wpAnyH_take (i := 7) (v := ?vR5x8) (by (try simp only [gA, gB, gC]); rfl) (by kernel_rfl) (by kernel_rfl) (by kernel_rfl) (by exact fun _ _ _ h => h) (Or.inl ⟨by first | kernel_rfl | rfl, ?hyR5x8⟩) (by exact hS) ?rsR5x8
            case hyR5x8 => (intro uz hSw; (try dsimp only at hSw); go_simp; try with_reducible rfl)
            try simp only [Act.put, sA, sB, sC]
            change wpAnyH _ _ _ _ _ _ #[tt,tt,tt,tt,tt,tt,tt,tt,ff,ff,ff,ff,ff,ff,ff,ff,ff,ff,ff] _ _
            refine wpAnyH_take (i := 8) (v := ?vR5x9) (by (try simp only [gA, gB, gC]); rfl) (by kernel_rfl) (by kernel_rfl) (by kernel_rfl) (by exact fun _ _ _ h => h) (Or.inl ⟨by first | kernel_rfl | rfl, ?hyR5x9⟩) (by exact hS) ?rsR5x9
            case hyR5x9 => (intro uz hSw; (try dsimp only at hSw); go_simp; try with_reducible rfl)
            try simp only [Act.put, sA, sB, sC]
            change wpAnyH _ _ _ _ _ _ #[tt,tt,tt,tt,tt,tt,tt,tt,tt,ff,ff,ff,ff,ff,ff,ff,ff,ff,ff] _ _
            refine wpAnyH_take (i := 9) (v := ?vR5x10) (by (try simp only [gA, gB, gC]); rfl) (by kernel_rfl) (by kernel_rfl) (by kernel_rfl) (by exact fun _ _ _ h => h) (Or.inl ⟨by first | kernel_rfl | rfl, ?hyR5x10⟩) (by exact hS) ?rsR5x10
            case hyR5x10 => (intro uz hSw; (try dsimp only at hSw); go_simp; try with_reducible rfl)
            try simp only [Act.put, sA, sB, sC]
            change wpAnyH _ _ _ _ _ _ #[tt,tt,tt,tt,tt,tt,tt,tt,tt,tt,ff,ff,ff,ff,ff,ff,ff,ff,ff] _ _
            refine wpAnyH_take (i := 10) (v := ?vR5x11) (by (try simp only [gA, gB, gC]); rfl) (by kernel_rfl) (by kernel_rfl) (by kernel_rfl) (by exact fun _ _ _ h => h) (Or.inl ⟨by first | kernel_rfl | rfl, ?hyR5x11⟩) (by exact hS) ?rsR5x11
            case hyR5x11 => (intro uz hSw; (try dsimp only at hSw); go_simp; try with_reducible rfl)
            try simp only [Act.put, sA, sB, sC]
            change wpAnyH _ _ _ _ _ _ #[tt,tt,tt,tt,tt,tt,tt,tt,tt,tt,tt,ff,ff,ff,ff,ff,ff,ff,ff] _ _
            refine wpAnyH_take (i := 11) (v := ?vR5x12) (by (try simp only [gA, gB, gC]); rfl) (by kernel_rfl) (by kernel_rfl) (by kernel_rfl) (by exact fun _ _ _ h => h) (Or.inl ⟨by first | kernel_rfl | rfl, ?hyR5x12⟩) (by exact hS) ?rsR5x12
            case hyR5x12 => (intro uz hSw; (try dsimp only at hSw); go_simp; try with_reducible rfl)
            try simp only [Act.put, sA, sB, sC]
            change wpAnyH _ _ _ _ _ _ #[tt,tt,tt,tt,tt,tt,tt,tt,tt,tt,tt,tt,ff,ff,ff,ff,ff,ff,ff] _ _
            refine wpAnyH_take (i := 12) (v := ?vR5x13) (by (try simp only [gA, gB, gC]); rfl) (by kernel_rfl) (by kernel_rfl) (by kernel_rfl) (by exact fun _ _ _ h => h) (Or.inl ⟨by first | kernel_rfl | rfl, ?hyR5x13⟩) (by exact hS) ?rsR5x13
            case hyR5x13 => (intro uz hSw; (try dsimp only at hSw); have hxx := HBS.out.q hSw; have d0 := hxx.cell 0 rfl; have d1 := hxx.cell 1 rfl; have d2 := hxx.cell 2 rfl; clear hxx; go_simp; try with_reducible rfl)
            try simp only [Act.put, sA, sB, sC]
            change wpAnyH _ _ _ _ _ _ #[tt,tt,tt,tt,tt,tt,tt,tt,tt,tt,tt,tt,tt,ff,ff,ff,ff,ff,ff] _ _
            refine wpAnyH_take (i := 14) (v := ?vR5x14) (by (try simp only [gA, gB, gC]); rfl) (by kernel_rfl) (by kernel_rfl) (by kernel_rfl) (by exact fun _ _ _ h => h) (Or.inl ⟨by first | kernel_rfl | rfl, ?hyR5x14⟩) (by exact hS) ?rsR5x14
            case hyR5x14 => (intro uz hSw; (try dsimp only at hSw); have hxx := HBZ.out.q hSw; have d0 := hxx.cell 0 rfl; have d1 := hxx.cell 1 rfl; have d2 := hxx.cell 2 rfl; clear hxx; go_simp; try with_reducible rfl)
            try simp only [Act.put, sA, sB, sC]
            change wpAnyH _ _ _ _ _ _ #[tt,tt,tt,tt,tt,tt,tt,tt,tt,tt,tt,tt,tt,ff,tt,ff,ff,ff,ff] _ _
            refine wpAnyH_ready (rs := [13]) (by kernel_rfl) (by simp) ?_
            refine (AllReadyH.cons (by (try simp only [gA, gB, gC]); rfl) (fun K hK => ?_) AllReadyH.nil)
            go_simp
            refine (Kl.as_q _ _ _ _ _ _).mono ?_
            rintro e yR5x15 ⟨rfl, hq⟩
            try (go_wp2_with fail)
            have hS2 := Q.trans hS hq
            refine hK.out _ _ (by exact hS2) (fun hHeld => ?_)
            clear hK K hHeld hS hq
            have hS := hS2
            clear hS2
            try simp only [Act.put, sA, sB, sC]
            change wpAnyH _ _ _ _ _ _ #[tt,tt,tt,tt,tt,tt,tt,tt,tt,tt,tt,tt,tt,tt,tt,ff,ff,ff,ff] _ _
            refine wpAnyH_ready (rs := [15]) (by kernel_rfl) (by simp) ?_
            refine (AllReadyH.cons (by (try simp only [gA, gB, gC]); rfl) (fun K hK => ?_) AllReadyH.nil)
            go_simp
            refine (Kl.same_q _ _ _ _ _ _ _ _ _ (HLS.out.q hS) (HLZ.out.q hS) (by have := HZL.out; omega)).mono ?_
            rintro e yR5x16 ⟨rfl, hq⟩
            try (go_wp2_with fail)
            have hS2 := Q.trans hS hq
            refine hK.out _ _ (by exact hS2) (fun hHeld => ?_)
            clear hK K hHeld hS hq
            have hS := hS2
            clear hS2
            try simp only [Act.put, sA, sB, sC]
            change wpAnyH _ _ _ _ _ _ #[tt,tt,tt,tt,tt,tt,tt,tt,tt,tt,tt,tt,tt,tt,tt,tt,ff,ff,ff] _ _
            refine wpAnyH_take (i := 16) (v := ?vR5x17) (by (try simp only [gA, gB, gC]); rfl) (by kernel_rfl) (by kernel_rfl) (by kernel_rfl) (by exact fun _ _ _ h => h) (Or.inl ⟨by first | kernel_rfl | rfl, ?hyR5x17⟩) (by exact hS) ?rsR5x17
            case hyR5x17 => (intro uz hSw; (try dsimp only at hSw); go_simp; try with_reducible rfl)
            try simp only [Act.put, sA, sB, sC]
            change wpAnyH _ _ _ _ _ _ #[tt,tt,tt,tt,tt,tt,tt,tt,tt,tt,tt,tt,tt,tt,tt,tt,tt,ff,ff] _ _
            refine wpAnyH_take (i := 17) (v := ?vR5x18) (by (try simp only [gA, gB, gC]); rfl) (by kernel_rfl) (by kernel_rfl) (by kernel_rfl) (by exact fun _ _ _ h => h) (Or.inl ⟨by first | kernel_rfl | rfl, ?hyR5x18⟩) (by exact hS) ?rsR5x18
            case hyR5x18 => (intro uz hSw; (try dsimp only at hSw); go_simp; try with_reducible rfl)
            try simp only [Act.put, sA, sB, sC]
            change wpAnyH _ _ _ _ _ _ #[tt,tt,tt,tt,tt,tt,tt,tt,tt,tt,tt,tt,tt,tt,tt,tt,tt,tt,ff] _ _
            refine wpAnyH_take (i := 18) (v := ?vR5x19) (by (try simp only [gA, gB, gC]); rfl) (by kernel_rfl) (by kernel_rfl) (by kernel_rfl) (by exact fun _ _ _ h => h) (Or.inl ⟨by first | kernel_rfl | rfl, ?hyR5x19⟩) (by exact hS) ?rsR5x19
            case hyR5x19 => (intro uz hSw; (try dsimp only at hSw); go_simp; try with_reducible rfl)
            try simp only [Act.put, sA, sB, sC]
            change wpAnyH _ _ _ _ _ _ #[tt,tt,tt,tt,tt,tt,tt,tt,tt,tt,tt,tt,tt,tt,tt,tt,tt,tt,tt] _ _
            refine wpAnyH_done (by kernel_rfl) ?_ _
            go_wp2_with fail
            exact ⟨⟨i + 1, by go_num, by have := HLT.out; omega, HQ5.out.trans hS⟩, by have := HLT.out; simp [intOf]; omega⟩
          · have her2 : (er == 0) = false := beq_eq_false_iff_ne.2 her
            refine wp_region_held_drew (S := fun u => Q v15 u) (by kernel_rfl) (by exact (Q.refl v15).drew) (fun hHeld => ?_)
            have hS : Q v15 v15.drew := hHeld
            clear hHeld
            have hq : Q v15 v15.drew := (Q.refl _).drew
            clear hq
            generalize v15.drew = yR6x0 at *
            change wpAnyH _ _ _ _ _ _ #[ff,ff,ff,ff,ff,ff,ff,ff,ff,ff,ff,ff,ff,ff,ff,ff,ff,ff,ff] _ _
            refine wpAnyH_take (i := 0) (v := ?vR6x1) (by (try simp only [gA, gB, gC]); rfl) (by kernel_rfl) (by kernel_rfl) (by kernel_rfl) (by exact fun _ _ _ h => h) (Or.inl ⟨by first | kernel_rfl | rfl, ?hyR6x1⟩) (by exact hS) ?rsR6x1
            case hyR6x1 => (intro uz hSw; (try dsimp only at hSw); go_simp; try with_reducible rfl)
            try simp only [Act.put, sA, sB, sC]
            change wpAnyH _ _ _ _ _ _ #[tt,ff,ff,ff,ff,ff,ff,ff,ff,ff,ff,ff,ff,ff,ff,ff,ff,ff,ff] _ _
            refine wpAnyH_take (i := 1) (v := ?vR6x2) (by (try simp only [gA, gB, gC]); rfl) (by kernel_rfl) (by kernel_rfl) (by kernel_rfl) (by exact fun _ _ _ h => h) (Or.inl ⟨by first | kernel_rfl | rfl, ?hyR6x2⟩) (by exact hS) ?rsR6x2
            case hyR6x2 => (intro uz hSw; (try dsimp only at hSw); go_simp; try with_reducible rfl)
            try simp only [Act.put, sA, sB, sC]
            change wpAnyH _ _ _ _ _ _ #[tt,tt,ff,ff,ff,ff,ff,ff,ff,ff,ff,ff,ff,ff,ff,ff,ff,ff,ff] _ _
            refine wpAnyH_take (i := 2) (v := ?vR6x3) (by (try simp only [gA, gB, gC]); rfl) (by kernel_rfl) (by kernel_rfl) (by kernel_rfl) (by exact fun _ _ _ h => h) (Or.inl ⟨by first | kernel_rfl | rfl, ?hyR6x3⟩) (by exact hS) ?rsR6x3
            case hyR6x3 => (intro uz hSw; (try dsimp only at hSw); go_simp; try with_reducible rfl)
            try simp only [Act.put, sA, sB, sC]
            change wpAnyH _ _ _ _ _ _ #[tt,tt,tt,ff,ff,ff,ff,ff,ff,ff,ff,ff,ff,ff,ff,ff,ff,ff,ff] _ _
            refine wpAnyH_take (i := 3) (v := undef) (by (try simp only [gA, gB, gC]); rfl) (by kernel_rfl) (by kernel_rfl) (by kernel_rfl) (by exact fun _ _ _ h => h) (Or.inr ⟨by first | kernel_rfl | rfl, rfl⟩) (by exact hS) ?_
            try simp only [Act.put, sA, sB, sC]
            change wpAnyH _ _ _ _ _ _ #[tt,tt,tt,tt,ff,ff,ff,ff,ff,ff,ff,ff,ff,ff,ff,ff,ff,ff,ff] _ _
            refine wpAnyH_take (i := 4) (v := undef) (by (try simp only [gA, gB, gC]); rfl) (by kernel_rfl) (by kernel_rfl) (by kernel_rfl) (by exact fun _ _ _ h => h) (Or.inr ⟨by first | kernel_rfl | rfl, rfl⟩) (by exact hS) ?_
            try simp only [Act.put, sA, sB, sC]
            change wpAnyH _ _ _ _ _ _ #[tt,tt,tt,tt,tt,ff,ff,ff,ff,ff,ff,ff,ff,ff,ff,ff,ff,ff,ff] _ _
            refine wpAnyH_ready (rs := [5]) (by kernel_rfl) (by simp) ?_
            refine (AllReadyH.cons (by (try simp only [gA, gB, gC]); rfl) (fun K hK => ?_) AllReadyH.nil)
            go_simp
            refine hK.out _ _ (by exact hS) (fun hHeld => ?_)
            clear hK K hHeld
            try simp only [Act.put, sA, sB, sC]
            change wpAnyH _ _ _ _ _ _ #[tt,tt,tt,tt,tt,tt,ff,ff,ff,ff,ff,ff,ff,ff,ff,ff,ff,ff,ff] _ _
            refine wpAnyH_take (i := 6) (v := undef) (by (try simp only [gA, gB, gC]); rfl) (by kernel_rfl) (by kernel_rfl) (by kernel_rfl) (by exact fun _ _ _ h => h) (Or.inr ⟨by first | kernel_rfl | rfl, rfl⟩) (by exact hS) ?_
            try simp only [Act.put, sA, sB, sC]
            change wpAnyH _ _ _ _ _ _ #[tt,tt,tt,tt,tt,tt,tt,ff,ff,ff,ff,ff,ff,ff,ff,ff,ff,ff,ff] _ _
            refine wpAnyH_take (i := 7) (v := undef) (by (try simp only [gA, gB, gC]); rfl) (by kernel_rfl) (by kernel_rfl) (by kernel_rfl) (by exact fun _ _ _ h => h) (Or.inr ⟨by first | kernel_rfl | rfl, rfl⟩) (by exact hS) ?_
            try simp only [Act.put, sA, sB, sC]
            change wpAnyH _ _ _ _ _ _ #[tt,tt,tt,tt,tt,tt,tt,tt,ff,ff,ff,ff,ff,ff,ff,ff,ff,ff,ff] _ _
            refine wpAnyH_take (i := 8) (v := undef) (by (try simp only [gA, gB, gC]); rfl) (by kernel_rfl) (by kernel_rfl) (by kernel_rfl) (by exact fun _ _ _ h => h) (Or.inr ⟨by first | kernel_rfl | rfl, rfl⟩) (by exact hS) ?_
            try simp only [Act.put, sA, sB, sC]
            change wpAnyH _ _ _ _ _ _ #[tt,tt,tt,tt,tt,tt,tt,tt,tt,ff,ff,ff,ff,ff,ff,ff,ff,ff,ff] _ _
            refine wpAnyH_take (i := 9) (v := undef) (by (try simp only [gA, gB, gC]); rfl) (by kernel_rfl) (by kernel_rfl) (by kernel_rfl) (by exact fun _ _ _ h => h) (Or.inr ⟨by first | kernel_rfl | rfl, rfl⟩) (by exact hS) ?_
            try simp only [Act.put, sA, sB, sC]
            change wpAnyH _ _ _ _ _ _ #[tt,tt,tt,tt,tt,tt,tt,tt,tt,tt,ff,ff,ff,ff,ff,ff,ff,ff,ff] _ _
            refine wpAnyH_take (i := 10) (v := undef) (by (try simp only [gA, gB, gC]); rfl) (by kernel_rfl) (by kernel_rfl) (by kernel_rfl) (by exact fun _ _ _ h => h) (Or.inr ⟨by first | kernel_rfl | rfl, rfl⟩) (by exact hS) ?_
            try simp only [Act.put, sA, sB, sC]
            change wpAnyH _ _ _ _ _ _ #[tt,tt,tt,tt,tt,tt,tt,tt,tt,tt,tt,ff,ff,ff,ff,ff,ff,ff,ff] _ _
            refine wpAnyH_take (i := 11) (v := undef) (by (try simp only [gA, gB, gC]); rfl) (by kernel_rfl) (by kernel_rfl) (by kernel_rfl) (by exact fun _ _ _ h => h) (Or.inr ⟨by first | kernel_rfl | rfl, rfl⟩) (by exact hS) ?_
            try simp only [Act.put, sA, sB, sC]
            change wpAnyH _ _ _ _ _ _ #[tt,tt,tt,tt,tt,tt,tt,tt,tt,tt,tt,tt,ff,ff,ff,ff,ff,ff,ff] _ _
            refine wpAnyH_take (i := 12) (v := undef) (by (try simp only [gA, gB, gC]); rfl) (by kernel_rfl) (by kernel_rfl) (by kernel_rfl) (by exact fun _ _ _ h => h) (Or.inr ⟨by first | kernel_rfl | rfl, rfl⟩) (by exact hS) ?_
            try simp only [Act.put, sA, sB, sC]
            change wpAnyH _ _ _ _ _ _ #[tt,tt,tt,tt,tt,tt,tt,tt,tt,tt,tt,tt,tt,ff,ff,ff,ff,ff,ff] _ _
            refine wpAnyH_take (i := 14) (v := undef) (by (try simp only [gA, gB, gC]); rfl) (by kernel_rfl) (by kernel_rfl) (by kernel_rfl) (by exact fun _ _ _ h => h) (Or.inr ⟨by first | kernel_rfl | rfl, rfl⟩) (by exact hS) ?_
            try simp only [Act.put, sA, sB, sC]
            change wpAnyH _ _ _ _ _ _ #[tt,tt,tt,tt,tt,tt,tt,tt,tt,tt,tt,tt,tt,ff,tt,ff,ff,ff,ff] _ _
            refine wpAnyH_ready (rs := [13]) (by kernel_rfl) (by simp) ?_
            refine (AllReadyH.cons (by (try simp only [gA, gB, gC]); rfl) (fun K hK => ?_) AllReadyH.nil)
            go_simp
            refine hK.out _ _ (by exact hS) (fun hHeld => ?_)
            clear hK K hHeld
            try simp only [Act.put, sA, sB, sC]
            change wpAnyH _ _ _ _ _ _ #[tt,tt,tt,tt,tt,tt,tt,tt,tt,tt,tt,tt,tt,tt,tt,ff,ff,ff,ff] _ _
            refine wpAnyH_ready (rs := [15]) (by kernel_rfl) (by simp) ?_
            refine (AllReadyH.cons (by (try simp only [gA, gB, gC]); rfl) (fun K hK => ?_) AllReadyH.nil)
            go_simp
            refine hK.out _ _ (by exact hS) (fun hHeld => ?_)
            clear hK K hHeld
            try simp only [Act.put, sA, sB, sC]
            change wpAnyH _ _ _ _ _ _ #[tt,tt,tt,tt,tt,tt,tt,tt,tt,tt,tt,tt,tt,tt,tt,tt,ff,ff,ff] _ _
            refine wpAnyH_take (i := 16) (v := undef) (by (try simp only [gA, gB, gC]); rfl) (by kernel_rfl) (by kernel_rfl) (by kernel_rfl) (by exact fun _ _ _ h => h) (Or.inr ⟨by first | kernel_rfl | rfl, rfl⟩) (by exact hS) ?_
            try simp only [Act.put, sA, sB, sC]
            change wpAnyH _ _ _ _ _ _ #[tt,tt,tt,tt,tt,tt,tt,tt,tt,tt,tt,tt,tt,tt,tt,tt,tt,ff,ff] _ _
            refine wpAnyH_take (i := 17) (v := undef) (by (try simp only [gA, gB, gC]); rfl) (by kernel_rfl) (by kernel_rfl) (by kernel_rfl) (by exact fun _ _ _ h => h) (Or.inr ⟨by first | kernel_rfl | rfl, rfl⟩) (by exact hS) ?_
            try simp only [Act.put, sA, sB, sC]
            change wpAnyH _ _ _ _ _ _ #[tt,tt,tt,tt,tt,tt,tt,tt,tt,tt,tt,tt,tt,tt,tt,tt,tt,tt,ff] _ _
            refine wpAnyH_take (i := 18) (v := ?vR6x19) (by (try simp only [gA, gB, gC]); rfl) (by kernel_rfl) (by kernel_rfl) (by kernel_rfl) (by exact fun _ _ _ h => h) (Or.inl ⟨by first | kernel_rfl | rfl, ?hyR6x19⟩) (by exact hS) ?rsR6x19
            case hyR6x19 => (intro uz hSw; (try dsimp only at hSw); go_simp; try with_reducible rfl)
            try simp only [Act.put, sA, sB, sC]
            change wpAnyH _ _ _ _ _ _ #[tt,tt,tt,tt,tt,tt,tt,tt,tt,tt,tt,tt,tt,tt,tt,tt,tt,tt,tt] _ _
            refine wpAnyH_done (by kernel_rfl) ?_ _
            go_wp2_with fail
            exact ⟨⟨i + 1, by go_num, by have := HLT.out; omega, HQ5.out.trans hS⟩, by have := HLT.out; simp [intOf]; omega⟩
    · obtain rfl : i = 2 := by omega
      go_wp2_with fail
      refine (HLI.out _).mono ?_
      rintro e v20 ⟨rfl, hq⟩
      go_wp2_with fail
      go_ret
      exact ⟨rfl, HQ.out.trans hq⟩

set_option maxRecDepth 100000 in
theorem lifted (os : Os) (started : os.Started) (H : Type) (enc : TypeId × Value → H) :
    ReturnsInHanded {} Try.checked os 3 .any (Rows.configValuesSpec.pre6 enc Try.prog Try.f3 Rows.configValuesRow.domain false) (Rows.configValuesSpec.post enc Try.prog Try.f3 false true false false) := by
  refine returnsInHanded_of_change (C := Try.checked) own started (by kernel_rfl) Try.func3
    (ChangeSpec.witness6 (enc := enc) (C := Try.checked) false ⟨#[], #[.agg #[.bool false, .slice none 0 0, .int .i64 0, .bool false, .slice none 0 0, .int .i64 0, .slice none 0 0, .bool false, .int .i64 0, .int .i64 0, .int .i64 0, .int .i64 0, .int .i64 0, .int .i64 0, .int .i64 0], .agg #[.bool false, .slice none 0 0, .int .i64 0]], []⟩ 8 (by kernel_rfl) (by kernel_rfl) (by kernel_rfl) (by kernel_rfl)) ?_
  intro W base args ds gs before hval0 hW hcnd _
  have hval : ∀ (j : Nat) t v, Try.f3.params[j]? = some t → args[j]? = some v → Value.okWide Try.prog W .any base t v := hval0
  have hW' := hW
  obtain ⟨p, q, hA0, hV, rfl, hfz, hnd⟩ := hW
  have hA : DataW.TrodAll enc Try.prog W 0 (fun _ => true) true Try.f3.params.toList args.toList ds p := hA0
  rw [Try.params3] at hA hval
  obtain ⟨v0, vs0, d0, ds0, p0, q0, hargs, rfl, rfl, h0, r0⟩ := trodAll_cons hA
  obtain ⟨v1, vs1, d1, ds1, p1, q1, rfl, rfl, rfl, h1, r1⟩ := trodAll_cons r0
  obtain ⟨rfl, rfl, rfl⟩ := trodAll_nil r1
  obtain rfl : args = #[v0, v1] := by cases args; simp_all
  obtain ⟨rfl, rfl⟩ := trodVars_none hV
  have k0 := h0
  have lt0 : ∀ x ∈ p0, x.block < W.heap.size := by obtain ⟨m, hm⟩ := k0; exact DataW.trod_lt m _ _ _ hm
  obtain ⟨cs0, rfl, hc0, hf0⟩ := FrH.open_any Try.underlying28 (k := 15) (by kernel_rfl) (hval 0 28 v0 rfl rfl) h0
  obtain ⟨f0_0, f0_1, f0_2, f0_3, f0_4, f0_5, f0_6, f0_7, f0_8, f0_9, f0_10, f0_11, f0_12, f0_13, f0_14, rfl⟩ := FrH.arr15 hc0
  have hn0_1 := FrH.nest Try.underlying28 hf0 0 rfl 0 3 rfl (T := 24) rfl (by kernel_rfl) (l := [f0_0, f0_1, f0_2]) rfl
  have hn0_2 := FrH.nest Try.underlying24 hn0_1 0 rfl 0 1 rfl (T := 4) rfl (by kernel_rfl) (l := [f0_0]) rfl
  have hn0_3 := FrH.nest Try.underlying24 hn0_1 1 rfl 1 1 rfl (T := 22) rfl (by kernel_rfl) (l := [f0_1]) rfl
  have hn0_4 := FrH.nest Try.underlying24 hn0_1 2 rfl 2 1 rfl (T := 3) rfl (by kernel_rfl) (l := [f0_2]) rfl
  have hn0_5 := FrH.nest Try.underlying28 hf0 1 rfl 3 3 rfl (T := 24) rfl (by kernel_rfl) (l := [f0_3, f0_4, f0_5]) rfl
  have hn0_6 := FrH.nest Try.underlying24 hn0_5 0 rfl 0 1 rfl (T := 4) rfl (by kernel_rfl) (l := [f0_3]) rfl
  have hn0_7 := FrH.nest Try.underlying24 hn0_5 1 rfl 1 1 rfl (T := 22) rfl (by kernel_rfl) (l := [f0_4]) rfl
  have hn0_8 := FrH.nest Try.underlying24 hn0_5 2 rfl 2 1 rfl (T := 3) rfl (by kernel_rfl) (l := [f0_5]) rfl
  have hn0_9 := FrH.nest Try.underlying28 hf0 2 rfl 6 1 rfl (T := 22) rfl (by kernel_rfl) (l := [f0_6]) rfl
  have hn0_10 := FrH.nest Try.underlying28 hf0 3 rfl 7 1 rfl (T := 4) rfl (by kernel_rfl) (l := [f0_7]) rfl
  have hn0_11 := FrH.nest Try.underlying28 hf0 4 rfl 8 7 rfl (T := 26) rfl (by kernel_rfl) (l := [f0_8, f0_9, f0_10, f0_11, f0_12, f0_13, f0_14]) rfl
  have hn0_12 := FrH.nest Try.underlying26 hn0_11 0 rfl 0 1 rfl (T := 3) rfl (by kernel_rfl) (l := [f0_8]) rfl
  have hn0_13 := FrH.nest Try.underlying26 hn0_11 1 rfl 1 1 rfl (T := 3) rfl (by kernel_rfl) (l := [f0_9]) rfl
  have hn0_14 := FrH.nest Try.underlying26 hn0_11 2 rfl 2 1 rfl (T := 3) rfl (by kernel_rfl) (l := [f0_10]) rfl
  have hn0_15 := FrH.nest Try.underlying26 hn0_11 3 rfl 3 1 rfl (T := 3) rfl (by kernel_rfl) (l := [f0_11]) rfl
  have hn0_16 := FrH.nest Try.underlying26 hn0_11 4 rfl 4 1 rfl (T := 3) rfl (by kernel_rfl) (l := [f0_12]) rfl
  have hn0_17 := FrH.nest Try.underlying26 hn0_11 5 rfl 5 1 rfl (T := 3) rfl (by kernel_rfl) (l := [f0_13]) rfl
  have hn0_18 := FrH.nest Try.underlying26 hn0_11 6 rfl 6 1 rfl (T := 3) rfl (by kernel_rfl) (l := [f0_14]) rfl
  obtain ⟨g0_0, rfl⟩ := FrH.bool_of Try.underlying4 hn0_2
  obtain ⟨xs0_1, w0_1, b0_1⟩ := FrH.lst_of Try.underlying22 Try.underlying3 (by kernel_rfl) hn0_3
  obtain ⟨s0_2, rfl, ws0_2⟩ := FrH.int_of Try.underlying3 hn0_4
  obtain ⟨g0_3, rfl⟩ := FrH.bool_of Try.underlying4 hn0_6
  obtain ⟨xs0_4, w0_4, b0_4⟩ := FrH.lst_of Try.underlying22 Try.underlying3 (by kernel_rfl) hn0_7
  obtain ⟨s0_5, rfl, ws0_5⟩ := FrH.int_of Try.underlying3 hn0_8
  obtain ⟨xs0_6, w0_6, b0_6⟩ := FrH.lst_of Try.underlying22 Try.underlying3 (by kernel_rfl) hn0_9
  obtain ⟨g0_7, rfl⟩ := FrH.bool_of Try.underlying4 hn0_10
  obtain ⟨s0_8, rfl, ws0_8⟩ := FrH.int_of Try.underlying3 hn0_12
  obtain ⟨s0_9, rfl, ws0_9⟩ := FrH.int_of Try.underlying3 hn0_13
  obtain ⟨s0_10, rfl, ws0_10⟩ := FrH.int_of Try.underlying3 hn0_14
  obtain ⟨s0_11, rfl, ws0_11⟩ := FrH.int_of Try.underlying3 hn0_15
  obtain ⟨s0_12, rfl, ws0_12⟩ := FrH.int_of Try.underlying3 hn0_16
  obtain ⟨s0_13, rfl, ws0_13⟩ := FrH.int_of Try.underlying3 hn0_17
  obtain ⟨s0_14, rfl, ws0_14⟩ := FrH.int_of Try.underlying3 hn0_18
  have k1 := h1
  have lt1 : ∀ x ∈ p1, x.block < W.heap.size := by obtain ⟨m, hm⟩ := k1; exact DataW.trod_lt m _ _ _ hm
  obtain ⟨c10, c11, c12, y10, y11, y12, m1, rfl, _, _, hy10, hy11, hy12⟩ := Joins.open_agg3 Try.underlying24 (by kernel_rfl) (by kernel_rfl) (hval 1 24 v1 rfl rfl) h1
  obtain ⟨g1, rfl⟩ : ∃ b, c10 = .bool b := by
    obtain ⟨b, h, _⟩ := DataW.trod_bool Try.underlying4 hy10
    exact ⟨b, by simpa using h⟩
  obtain ⟨s1, rfl, ws1⟩ : ∃ n, c12 = .int .i64 n ∧ (Lit.int .i64 n).wf = true := by
    obtain ⟨n, h, _, hw⟩ := DataW.trod_int Try.underlying3 hy12
    exact ⟨n, by simpa using h, hw⟩
  obtain ⟨a1, len1, cap1, z1, rfl, w1⟩ : ∃ a len cap zs, c11 = .slice a len cap ∧ IsRow .i64 W a len cap zs := by
    rcases open_ints Try.underlying22 Try.underlying3 (by kernel_rfl) hy11 with ⟨hcs, _⟩ | ⟨x, l, c, zs, hcs, _, hl, hm, hz, _, hcell, hwz⟩
    · exact ⟨none, 0, 0, [], by simpa using hcs, .inl ⟨rfl, rfl, rfl, rfl⟩⟩
    · exact ⟨some x, l, c, zs, by simpa using hcs, .inr ⟨_, rfl, hl, hm, by simpa using hz, hcell, hwz⟩⟩
  obtain ⟨xs1, l1, _, b1⟩ := w1.lst
  clear hA0 hval0
  refine (walk W g0_0 f0_1 xs0_1 w0_1 b0_1 s0_2 ws0_2 g0_3 f0_4 xs0_4 w0_4 b0_4 s0_5 ws0_5 f0_6 xs0_6 w0_6 b0_6 g0_7 s0_8 ws0_8 s0_9 ws0_9 s0_10 ws0_10 s0_11 ws0_11 s0_12 ws0_12 s0_13 ws0_13 s0_14 ws0_14 g1 (.slice a1 len1 cap1) xs1 l1 b1 s1 (bounds_i64 ws1)).mono fun e W' ⟨he, bel⟩ => ?_
  subst he
  exact ⟨_, rfl, _, _, _, [], _, [], hW', trodAll_mk1 (shut_bool Try.underlying4 _), (trodAll_cons_mk (Below.trod laidOut (by kernel_rfl) (of_decide_eq_true (by kernel_rfl)) k0 bel lt0) (trodAll_cons_mk (Below.trod laidOut (by kernel_rfl) (of_decide_eq_true (by kernel_rfl)) k1 bel lt1) trodAll_mk0)), rfl, bel.below.frame _, fun h => by cases h⟩

/-- The statement. -/
theorem proved : Rows.ConfigValuesSaid :=
  OpenClaim.holds_of_wide 3 Try.f3 rfl rfl rfl rfl rfl rfl rfl ⟨rfl, rfl, rfl, rfl, rfl⟩ rfl rfl rfl rfl rfl (by kernel_rfl) Try.func3 (by kernel_rfl)
    (of_decide_eq_true (by kernel_rfl)) (by unfold Func.isWrapper; first | (rw [if_pos (by decide +kernel)]; kernel_rfl) | (rw [if_neg (by decide +kernel)]; exact ⟨rfl, rfl⟩))
    (fun os started H enc _ => lifted os started H enc)
#print axioms proved
end Go.Proofs.Yteljedefbomlgaa.configValues
