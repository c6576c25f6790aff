/- ConfigSigned: of whatever configuration (made one that may be) there may be a sign just if the least number is below 0, and then, and just then, the least number's value has one; no conditions. -/
import Derived.Test.YteljedefbomlgaaRows
import Derived.WalkKit
import Derived.ProofKit
import Derived.OpenShut
import Derived.ShutString
import Derived.ChangeOld
import Derived.Below
import Derived.Lib.SmallJoins
import Derived.Test.YteljedefbomlgaaR00
import Derived.Test.YteljedefbomlgaaR02
import Derived.Test.YteljedefbomlgaaR03
import Derived.Test.YteljedefbomlgaaR01
import Derived.Test.YteljedefbomlgaaR08
import Derived.Test.YteljedefbomlgaaR10
import Derived.Test.YteljedefbomlgaaR12
import Derived.Test.YteljedefbomlgaaR06
import Derived.Test.YteljedefbomlgaaR13
import Derived.Test.YteljedefbomlgaaR23
import Derived.Test.YteljedefbomlgaaR30
import Derived.Test.YteljedefbomlgaaR26
import Derived.Test.YteljedefbomlgaaR27
import Derived.Test.YteljedefbomlgaaR37
import Derived.Test.YteljedefbomlgaaR38
import Derived.Test.YteljedefbomlgaaR39
import Derived.Test.YteljedefbomlgaaR40
import Derived.Test.YteljedefbomlgaaR42
import Derived.Test.YteljedefbomlgaaR49
import Derived.Test.YteljedefbomlgaaR41
import Derived.Test.YteljedefbomlgaaR43
import Derived.Test.YteljedefbomlgaaR50
import Derived.Test.YteljedefbomlgaaR46
import Derived.Test.YteljedefbomlgaaR51
import Derived.Test.YteljedefbomlgaaR32
import Derived.Test.YteljedefbomlgaaR44
set_option linter.unusedVariables false
set_option linter.unusedSimpArgs false
namespace Go.Proofs.Yteljedefbomlgaa.configSigned
open Go.ChangeShapes Go.WideShapes Go.ChangeAt Go.RowKit
open Go.ChangeMaps (open_string shut_string)

theorem own : ownKnob Try.prog.godebug = none := by kernel_rfl
theorem laidOut : laidOutB Try.prog = true := by kernel_rfl


set_option maxHeartbeats 8000000 in
set_option maxRecDepth 100000 in
theorem walk (w : World) (g0_0 : Bool) (f0_1 : Value) (xs0_1 : List Int) (w0_1 : Lst w f0_1 xs0_1) (b0_1 : ∀ n ∈ xs0_1, -9223372036854775808 ≤ n ∧ n ≤ 9223372036854775807) (s0_2 : Int) (ws0_2 : -9223372036854775808 ≤ s0_2 ∧ s0_2 ≤ 9223372036854775807) (g0_3 : Bool) (f0_4 : Value) (xs0_4 : List Int) (w0_4 : Lst w f0_4 xs0_4) (b0_4 : ∀ n ∈ xs0_4, -9223372036854775808 ≤ n ∧ n ≤ 9223372036854775807) (s0_5 : Int) (ws0_5 : -9223372036854775808 ≤ s0_5 ∧ s0_5 ≤ 9223372036854775807) (f0_6 : Value) (xs0_6 : List Int) (w0_6 : Lst w f0_6 xs0_6) (b0_6 : ∀ n ∈ xs0_6, -9223372036854775808 ≤ n ∧ n ≤ 9223372036854775807) (g0_7 : Bool) (s0_8 : Int) (ws0_8 : -9223372036854775808 ≤ s0_8 ∧ s0_8 ≤ 9223372036854775807) (s0_9 : Int) (ws0_9 : -9223372036854775808 ≤ s0_9 ∧ s0_9 ≤ 9223372036854775807) (s0_10 : Int) (ws0_10 : -9223372036854775808 ≤ s0_10 ∧ s0_10 ≤ 9223372036854775807) (s0_11 : Int) (ws0_11 : -9223372036854775808 ≤ s0_11 ∧ s0_11 ≤ 9223372036854775807) (s0_12 : Int) (ws0_12 : -9223372036854775808 ≤ s0_12 ∧ s0_12 ≤ 9223372036854775807) (s0_13 : Int) (ws0_13 : -9223372036854775808 ≤ s0_13 ∧ s0_13 ≤ 9223372036854775807) (s0_14 : Int) (ws0_14 : -9223372036854775808 ≤ s0_14 ∧ s0_14 ≤ 9223372036854775807) :
    Calls Try.prog 7 #[.agg #[.bool g0_0, f0_1, .int .i64 s0_2, .bool g0_3, f0_4, .int .i64 s0_5, f0_6, .bool g0_7, .int .i64 s0_8, .int .i64 s0_9, .int .i64 s0_10, .int .i64 s0_11, .int .i64 s0_12, .int .i64 s0_13, .int .i64 s0_14]] w fun e w' => e = .returned (.bool true) ∧ Q w w' := by
  obtain ⟨ga, gb, A, B, d, n0, n1, n2, n3, n4, n5, n6, hgk, hgd⟩ := Kl.start g0_0 g0_3 g0_7 f0_1 f0_4 f0_6 s0_2 s0_5 xs0_1 xs0_4 xs0_6 s0_8 s0_9 s0_10 s0_11 s0_12 s0_13 s0_14 w w0_1 w0_4 w0_6 b0_1 b0_4 b0_6 ws0_2 ws0_5 ws0_8 ws0_9 ws0_10 ws0_11 ws0_12 ws0_13 ws0_14
  obtain ⟨al, cl, rfl⟩ := w0_1.shape
  obtain ⟨ah, ch, rfl⟩ := w0_4.shape
  obtain ⟨az, cz, rfl⟩ := w0_6.shape
  obtain ⟨ll, hll⟩ : ∃ x, x = xs0_1.length := ⟨_, rfl⟩
  obtain ⟨lh, hlh⟩ : ∃ x, x = xs0_4.length := ⟨_, rfl⟩
  obtain ⟨lz, hlz⟩ : ∃ x, x = xs0_6.length := ⟨_, rfl⟩
  rw [← hll, ← hlh, ← hlz] at hgd ⊢
  clear w0_1 w0_4 w0_6 b0_1 b0_4 b0_6 ws0_2 ws0_5 ws0_8 ws0_9 ws0_10 ws0_11 ws0_12 ws0_13 ws0_14 hll hlh hlz
  have HGD := Lib.hid hgd
  have HRU := Lib.hid (fun u (q : Q w u) => Kr.rules_any g0_0 g0_3 g0_7 al ah az ll cl lh ch lz cz s0_2 s0_5 s0_8 s0_9 s0_10 s0_11 s0_12 s0_13 s0_14 u hgk (fun u' q' => hgd u' (q.trans q')))
  have HNW := Lib.hid (fun u => Kp.new_good hgk u)
  have HOF := Lib.hid (fun u => Kl.of_q (Dm.prt ga A n2) (Dm.prt gb B n2) (Dm.prt false [d] n2) n0 n1 n2 n3 n4 n5 n6 u)
  have HLI := Lib.hid Kl.lives_any
  have gle := hgk.le
  have gcl := hgk.cle
  have q1 := Km.dLo_s ga A n2
  have q2 := Km.dLo_s gb B n2
  have q3 := Km.dLo_s false [d] n2
  have p1 := Km.dLo_len ga A n2 hgk.a
  have p2 := Km.dLo_len gb B n2 hgk.b
  have p3 := Km.dLo_len false [d] n2 hgk.okd
  have tr1 := Km.dLo_tr ga A n2
  have tr2 := Km.dLo_tr gb B n2
  have z1 := Km.dLo_abs ga A n2 (n0 + n2) hgk.a hgk.al
  have z2 := Km.dLo_abs gb B n2 (n0 + n2) hgk.b hgk.bl
  have ng := Km.neg_cmp ga (Dm.num A) n2
  have ng2 : decide (Dm.cmpD (Km.dLo ga A n2).g (Km.dLo ga A n2).m (Km.dLo ga A n2).s false 0 0 < 0) = (Km.dLo ga A n2).g := ng
  have ma := hgk.al
  have mb := hgk.bl
  have m0 := hgk.m0
  have m1 := hgk.m1
  have m2 := hgk.m2
  have m5 := hgk.m5
  simp only [List.length_cons, List.length_nil] at p3
  clear hgd hgk ng
  generalize Km.dLo ga A n2 = lo at *
  generalize Km.dLo gb B n2 = hi at *
  generalize Km.dLo false [d] n2 = st at *
  generalize Dm.prt ga A n2 = t0 at *
  generalize Dm.prt gb B n2 = t1 at *
  generalize Dm.prt false [d] n2 = t2 at *
  have p1' : (Dm.dg lo.m).length ≤ 13 := by omega
  have p2' : (Dm.dg hi.m).length ≤ 13 := by omega
  have p3' : (Dm.dg st.m).length ≤ 13 := by omega
  have lb : n2 ≤ 5 := by omega
  clear p1 p2 p3 ma mb m1 m2
  have HVA := Lib.hid (fun u a1 a2 a3 a c1 c2 c3 c h1 h2 hv => Kl.p_val lo hi st lo.g lo.g a1 a2 a3 a (Dm.dg lo.m).length (Dm.dg hi.m).length (Dm.dg st.m).length c1 c2 c3 c (Dm.dg lo.m).length lo.s n2 n5 n0 n1 n3 n4 n6 (Dm.dg lo.m) u h1 h2 hv (by omega) (by omega) (by omega) (Dm.okD_dg _) (by omega) (by omega) (by omega) (by omega) (by omega) gcl lo (by rw [Dm.num_dg]; exact (Km.val_lo lo hi n2 n5 q1 q2 gle tr1).symm) _ rfl)
  have HCM := Lib.hid (fun u a c (h : Lst u (.slice a (Dm.dg lo.m).length c) (Dm.dg lo.m)) => by
    have k := Er.compare_any lo.g false (.slice a (Dm.dg lo.m).length c) (.slice none 0 0) lo.s 0 (Dm.dg lo.m) [] u h (Lst.nil u none 0 (by unfold maxLen; omega) (fun _ => rfl)) (by omega) (by simp) (Dm.okD_dg _) (by intro x hx; cases hx) (by omega) (by omega)
    rw [Dm.num_dg] at k
    exact k)
  obtain ⟨K, hK⟩ : ∃ K, K = Dm.cmpD lo.g lo.m lo.s false (Dm.num []) (0 : Nat) := ⟨_, rfl⟩
  have hK2 : K = Dm.cmpD lo.g lo.m lo.s false 0 0 := hK
  rw [← hK2] at ng2
  rw [← hK] at HCM
  unfold Er.dv at HCM
  clear hK hK2 gle gcl q1 q2 q3 tr1 tr2 z1 z2 p1' p2' p3' lb m0 m5
  obtain ⟨sg, hsg⟩ : ∃ x, x = lo.g := ⟨_, rfl⟩
  have HSG := Lib.hid hsg
  have hx1 : ∀ u, Calls Try.prog 8 #[.agg #[.string t0, .string t1, .string t2, .int .i64 n0, .int .i64 n1, .int .i64 n2, .int .i64 n3, .int .i64 n4, .int .i64 n5, .int .i64 n6]] u fun e w' => ∃ R, e = .returned (.tuple #[R, .nilIface]) ∧ Kr.RuV 0 w' R lo hi st sg n0 n1 n2 n3 n4 n5 n6 ∧ Q u w' := by rw [hsg]; exact HNW.out
  have hx2 : ∀ u, Q w u → Calls Try.prog 11 #[.agg #[.bool g0_0, .slice al ll cl, .int .i64 s0_2, .bool g0_3, .slice ah lh ch, .int .i64 s0_5, .slice az lz cz, .bool g0_7, .int .i64 s0_8, .int .i64 s0_9, .int .i64 s0_10, .int .i64 s0_11, .int .i64 s0_12, .int .i64 s0_13, .int .i64 s0_14]] u fun e w' => ∃ R, e = .returned R ∧ Kr.RuV u.heap.size w' R lo hi st sg n0 n1 n2 n3 n4 n5 n6 ∧ Q u w' := by rw [hsg]; exact HRU.out
  replace HNW := Lib.hid hx1
  replace HRU := Lib.hid hx2
  clear hx1 hx2 hsg
  have hsg := HSG.out
  rw [← hsg] at ng2 HVA HCM
  clear hsg
  obtain ⟨k1, hk1⟩ : ∃ x, x = (Dm.dg lo.m).length := ⟨_, rfl⟩
  obtain ⟨k2, hk2⟩ : ∃ x, x = (Dm.dg hi.m).length := ⟨_, rfl⟩
  obtain ⟨k3, hk3⟩ : ∃ x, x = (Dm.dg st.m).length := ⟨_, rfl⟩
  have HK := Lib.hid (⟨hk1.symm, hk2.symm, hk3.symm⟩ : _ ∧ _ ∧ _)
  clear hk1 hk2 hk3
  rw [HK.out.1, HK.out.2.1, HK.out.2.2] at HVA
  rw [HK.out.1] at HCM
  have hlg : lo.g = sg := HSG.out.symm
  obtain ⟨y0, hy0⟩ : ∃ y, y = w.alloc (.cells #[.bool g0_0, .slice al ll cl, .int .i64 s0_2, .bool g0_3, .slice ah lh ch, .int .i64 s0_5, .slice az lz cz, .bool g0_7, .int .i64 s0_8, .int .i64 s0_9, .int .i64 s0_10, .int .i64 s0_11, .int .i64 s0_12, .int .i64 s0_13, .int .i64 s0_14] 28) := ⟨_, rfl⟩
  have hq0 : Q w y0 := by rw [hy0]; exact (Q.refl w).alloc _
  have hbg : Bk y0 w.heap.size 28 [.bool g0_0, .slice al ll cl, .int .i64 s0_2, .bool g0_3, .slice ah lh ch, .int .i64 s0_5, .slice az lz cz, .bool g0_7, .int .i64 s0_8, .int .i64 s0_9, .int .i64 s0_10, .int .i64 s0_11, .int .i64 s0_12, .int .i64 s0_13, .int .i64 s0_14] := by rw [hy0]; exact Bk.new _ _ _
  have hs0 : y0.heap.size = w.heap.size + 1 := by rw [hy0]; simp
  have HQ := Lib.hid hq0
  have HG := Lib.hid hbg
  clear hq0 hbg
  go_enter Try.func7, Try.ntmps7
  go_upto_region 1 with fail
  first | rw [← hy0] | (rw [← hy0])
  clear hy0 hs0
  go_wp2_with (refine wpList_load_row (by rfl) 28 _ (by rfl) (w.heap.size) (by rfl) 28 #[.bool g0_0, .slice al ll cl, .int .i64 s0_2, .bool g0_3, .slice ah lh ch, .int .i64 s0_5, .slice az lz cz, .bool g0_7, .int .i64 s0_8, .int .i64 s0_9, .int .i64 s0_10, .int .i64 s0_11, .int .i64 s0_12, .int .i64 s0_13, .int .i64 s0_14] (0, 0) _ HG.out Try.underlying28 rfl (by exact Kr.infoG) ?_)
  refine (HGD.out _ HQ.out).mono ?_
  rintro e v1 ⟨rfl, hq⟩
  replace HQ := Lib.hid (Q.trans HQ.out hq)
  replace HG := Lib.hid (Bk.q HG.out hq)
  clear hq
  go_wp2_with fail
  refine (HOF.out _).mono ?_
  rintro e v2 ⟨rfl, hq⟩
  replace HQ := Lib.hid (Q.trans HQ.out hq)
  replace HG := Lib.hid (Bk.q HG.out hq)
  clear hq
  go_wp2_with fail
  refine (HNW.out _).mono ?_
  rintro e v3 ⟨Rv, rfl, ⟨a1, c1, a2, c2, a3, c3, rfl, l1, l2, l3⟩, hq⟩
  rw [hlg]
  rw [HK.out.1] at l1 ⊢
  rw [HK.out.2.1] at l2 ⊢
  rw [HK.out.2.2] at l3 ⊢
  replace HQ := Lib.hid (Q.trans HQ.out hq)
  replace HG := Lib.hid (Bk.q HG.out hq)
  obtain ⟨v4, hv4⟩ : ∃ y, y = v3.alloc (.cells #[.bool sg, .slice a1 k1 c1, .int .i64 (lo.s : Nat), .bool hi.g, .slice a2 k2 c2, .int .i64 (hi.s : Nat), .bool st.g, .slice a3 k3 c3, .int .i64 (st.s : Nat), .bool sg, .int .i64 n0, .int .i64 n1, .int .i64 n2, .int .i64 n3, .int .i64 n4, .int .i64 n5, .int .i64 n6] 32) := ⟨_, rfl⟩
  have hqb : Q v3 v4 := by rw [hv4]; exact (Q.refl _).alloc _
  have hbx : Bk v4 v3.heap.size 32 [.bool sg, .slice a1 k1 c1, .int .i64 (lo.s : Nat), .bool hi.g, .slice a2 k2 c2, .int .i64 (hi.s : Nat), .bool st.g, .slice a3 k3 c3, .int .i64 (st.s : Nat), .bool sg, .int .i64 n0, .int .i64 n1, .int .i64 n2, .int .i64 n3, .int .i64 n4, .int .i64 n5, .int .i64 n6] := by rw [hv4]; exact Bk.new _ _ _
  obtain ⟨bR, hbR⟩ : ∃ b, b = v3.heap.size := ⟨_, rfl⟩
  rw [← hbR] at hbx
  replace HQ := Lib.hid (Q.trans HQ.out hqb)
  replace HG := Lib.hid (Bk.q HG.out hqb)
  have HR := Lib.hid hbx
  have HL1 := Lib.hid (l1.lst.q hqb)
  have HL2 := Lib.hid (l2.lst.q hqb)
  have HL3 := Lib.hid (l3.lst.q hqb)
  clear hq hqb hbx l1 l2 l3
  go_upto_region 2 with fail
  rw [← hv4, ← hbR]
  clear hv4 hbR
  have n0r := HR.out.cell 0 rfl
  have n1r := HR.out.cell 1 rfl
  have n2r := HR.out.cell 2 rfl
  go_wp2_with (refine wpList_load_row (by rfl) 32 _ (by rfl) (bR) (by rfl) 32 #[.bool sg, .slice a1 k1 c1, .int .i64 (lo.s : Nat), .bool hi.g, .slice a2 k2 c2, .int .i64 (hi.s : Nat), .bool st.g, .slice a3 k3 c3, .int .i64 (st.s : Nat), .bool sg, .int .i64 n0, .int .i64 n1, .int .i64 n2, .int .i64 n3, .int .i64 n4, .int .i64 n5, .int .i64 n6] (0, 0) _ HR.out Try.underlying32 rfl (by exact Kp.infoRp) ?_)
  refine (HVA.out _ _ _ _ _ _ _ _ _ HL1.out HL2.out HL1.out).mono ?_
  rintro e v5 ⟨ua, uc, rfl, hlf, hq⟩
  clear n0r n1r n2r
  replace HQ := Lib.hid (Q.trans HQ.out hq)
  replace HG := Lib.hid (Bk.q HG.out hq)
  replace HR := Lib.hid (Bk.q HR.out hq)
  replace HL1 := Lib.hid (Lst.q HL1.out hq)
  replace HL2 := Lib.hid (Lst.q HL2.out hq)
  replace HL3 := Lib.hid (Lst.q HL3.out hq)
  obtain ⟨v6, hv6⟩ : ∃ y, y = v5.alloc (.cells #[.bool sg, .slice ua k1 uc, .int .i64 (lo.s : Nat)] 29) := ⟨_, rfl⟩
  have hqb : Q v5 v6 := by rw [hv6]; exact (Q.refl _).alloc _
  have hbx : Bk v6 v5.heap.size 29 [.bool sg, .slice ua k1 uc, .int .i64 (lo.s : Nat)] := by rw [hv6]; exact Bk.new _ _ _
  obtain ⟨bV, hbV⟩ : ∃ b, b = v5.heap.size := ⟨_, rfl⟩
  rw [← hbV] at hbx
  replace HQ := Lib.hid (Q.trans HQ.out hqb)
  replace HG := Lib.hid (Bk.q HG.out hqb)
  replace HR := Lib.hid (Bk.q HR.out hqb)
  replace HL1 := Lib.hid (Lst.q HL1.out hqb)
  replace HL2 := Lib.hid (Lst.q HL2.out hqb)
  replace HL3 := Lib.hid (Lst.q HL3.out hqb)
  have HV := Lib.hid hbx
  clear hq hqb hbx hlf
  go_upto_region 5 with fail
  rw [← hv6, ← hbV]
  clear hv6 hbV
  refine wp_region_held_drew (S := fun u => Q v6 u) (by kernel_rfl) (by exact (Q.refl v6).drew) (fun hHeld => ?_)
  have hS : Q v6 v6.drew := hHeld
  clear hHeld
  have hq : Q v6 v6.drew := (Q.refl _).drew
  clear hq
  generalize v6.drew = yR1x0 at *
  change wpAnyH _ _ _ _ _ _ #[ff,ff,ff,ff,ff,ff,ff,ff,ff,ff,ff,ff,ff,ff,ff,ff,ff,ff,ff,ff,ff,ff,ff,ff] _ _
  refine wpAnyH_take (i := 0) (v := ?vR1x1) (by (try simp only [gA, gB, gC]); rfl) (by kernel_rfl) (by kernel_rfl) (by kernel_rfl) (by exact fun _ _ _ h => h) (Or.inl ⟨by first | kernel_rfl | rfl, ?hyR1x1⟩) (by exact hS) ?rsR1x1
  case hyR1x1 => (intro uz hSw; (try dsimp only at hSw); go_simp; try with_reducible rfl)
  try simp only [Act.put, sA, sB, sC]
  change wpAnyH _ _ _ _ _ _ #[tt,ff,ff,ff,ff,ff,ff,ff,ff,ff,ff,ff,ff,ff,ff,ff,ff,ff,ff,ff,ff,ff,ff,ff] _ _
  refine wpAnyH_take (i := 1) (v := ?vR1x2) (by (try simp only [gA, gB, gC]); rfl) (by kernel_rfl) (by kernel_rfl) (by kernel_rfl) (by exact fun _ _ _ h => h) (Or.inl ⟨by first | kernel_rfl | rfl, ?hyR1x2⟩) (by exact hS) ?rsR1x2
  case hyR1x2 => (intro uz hSw; (try dsimp only at hSw); have hxx := HR.out.q hSw; have d0 := hxx.cell 0 rfl; have d1 := hxx.cell 1 rfl; have d2 := hxx.cell 2 rfl; have d9 := hxx.cell 9 rfl; clear hxx; go_simp; try with_reducible rfl)
  try simp only [Act.put, sA, sB, sC]
  change wpAnyH _ _ _ _ _ _ #[tt,tt,ff,ff,ff,ff,ff,ff,ff,ff,ff,ff,ff,ff,ff,ff,ff,ff,ff,ff,ff,ff,ff,ff] _ _
  refine wpAnyH_take (i := 2) (v := ?vR1x3) (by (try simp only [gA, gB, gC]); rfl) (by kernel_rfl) (by kernel_rfl) (by kernel_rfl) (by exact fun _ _ _ h => h) (Or.inl ⟨by first | kernel_rfl | rfl, ?hyR1x3⟩) (by exact hS) ?rsR1x3
  case hyR1x3 => (intro uz hSw; (try dsimp only at hSw); go_simp; try with_reducible rfl)
  try simp only [Act.put, sA, sB, sC]
  change wpAnyH _ _ _ _ _ _ #[tt,tt,tt,ff,ff,ff,ff,ff,ff,ff,ff,ff,ff,ff,ff,ff,ff,ff,ff,ff,ff,ff,ff,ff] _ _
  refine wpAnyH_take (i := 3) (v := ?vR1x4) (by (try simp only [gA, gB, gC]); rfl) (by kernel_rfl) (by kernel_rfl) (by kernel_rfl) (by exact fun _ _ _ h => h) (Or.inl ⟨by first | kernel_rfl | rfl, ?hyR1x4⟩) (by exact hS) ?rsR1x4
  case hyR1x4 => (intro uz hSw; (try dsimp only at hSw); have hxx := HR.out.q hSw; have d0 := hxx.cell 0 rfl; have d1 := hxx.cell 1 rfl; have d2 := hxx.cell 2 rfl; have d9 := hxx.cell 9 rfl; clear hxx; go_simp; try with_reducible rfl)
  try simp only [Act.put, sA, sB, sC]
  change wpAnyH _ _ _ _ _ _ #[tt,tt,tt,tt,ff,ff,ff,ff,ff,ff,ff,ff,ff,ff,ff,ff,ff,ff,ff,ff,ff,ff,ff,ff] _ _
  refine wpAnyH_take (i := 5) (v := ?vR1x5) (by (try simp only [gA, gB, gC]); rfl) (by kernel_rfl) (by kernel_rfl) (by kernel_rfl) (by exact fun _ _ _ h => h) (Or.inl ⟨by first | kernel_rfl | rfl, ?hyR1x5⟩) (by exact hS) ?rsR1x5
  case hyR1x5 => (intro uz hSw; (try dsimp only at hSw); go_simp; try with_reducible rfl)
  try simp only [Act.put, sA, sB, sC]
  change wpAnyH _ _ _ _ _ _ #[tt,tt,tt,tt,ff,tt,ff,ff,ff,ff,ff,ff,ff,ff,ff,ff,ff,ff,ff,ff,ff,ff,ff,ff] _ _
  refine wpAnyH_ready (rs := [4]) (by kernel_rfl) (by simp) ?_
  refine (AllReadyH.cons (by (try simp only [gA, gB, gC]); rfl) (fun K hK => ?_) AllReadyH.nil)
  go_simp
  refine (Kl.as_q _ _ _ _ _ _).mono ?_
  rintro e yR1x6 ⟨rfl, hq⟩
  try (go_wp2_with fail)
  have hS2 := Q.trans hS hq
  refine hK.out _ _ (by exact hS2) (fun hHeld => ?_)
  clear hK K hHeld hS hq
  have hS := hS2
  clear hS2
  try simp only [Act.put, sA, sB, sC]
  change wpAnyH _ _ _ _ _ _ #[tt,tt,tt,tt,tt,tt,ff,ff,ff,ff,ff,ff,ff,ff,ff,ff,ff,ff,ff,ff,ff,ff,ff,ff] _ _
  refine wpAnyH_ready (rs := [6]) (by kernel_rfl) (by simp) ?_
  refine (AllReadyH.cons (by (try simp only [gA, gB, gC]); rfl) (fun K hK => ?_) AllReadyH.nil)
  go_simp
  refine (HCM.out _ _ _ (HL1.out.q hS)).mono ?_
  rintro e yR1x7 ⟨rfl, hq⟩
  try (go_wp2_with fail)
  have hS2 := Q.trans hS hq
  refine hK.out _ _ (by exact hS2) (fun hHeld => ?_)
  clear hK K hHeld hS hq
  have hS := hS2
  clear hS2
  try simp only [Act.put, sA, sB, sC]
  change wpAnyH _ _ _ _ _ _ #[tt,tt,tt,tt,tt,tt,tt,ff,ff,ff,ff,ff,ff,ff,ff,ff,ff,ff,ff,ff,ff,ff,ff,ff] _ _
  refine wpAnyH_take (i := 7) (v := ?vR1x8) (by (try simp only [gA, gB, gC]); rfl) (by kernel_rfl) (by kernel_rfl) (by kernel_rfl) (by exact fun _ _ _ h => h) (Or.inl ⟨by first | kernel_rfl | rfl, ?hyR1x8⟩) (by exact hS) ?rsR1x8
  case hyR1x8 => (intro uz hSw; (try dsimp only at hSw); go_simp; try with_reducible rfl)
  try simp only [Act.put, sA, sB, sC]
  change wpAnyH _ _ _ _ _ _ #[tt,tt,tt,tt,tt,tt,tt,tt,ff,ff,ff,ff,ff,ff,ff,ff,ff,ff,ff,ff,ff,ff,ff,ff] _ _
  refine wpAnyH_take (i := 8) (v := ?vR1x9) (by (try simp only [gA, gB, gC]); rfl) (by kernel_rfl) (by kernel_rfl) (by kernel_rfl) (by exact fun _ _ _ h => h) (Or.inl ⟨by first | kernel_rfl | rfl, ?hyR1x9⟩) (by exact hS) ?rsR1x9
  case hyR1x9 => (intro uz hSw; (try dsimp only at hSw); go_simp; try with_reducible rfl)
  try simp only [Act.put, sA, sB, sC]
  change wpAnyH _ _ _ _ _ _ #[tt,tt,tt,tt,tt,tt,tt,tt,tt,ff,ff,ff,ff,ff,ff,ff,ff,ff,ff,ff,ff,ff,ff,ff] _ _
  refine wpAnyH_take (i := 9) (v := ?vR1x10) (by (try simp only [gA, gB, gC]); rfl) (by kernel_rfl) (by kernel_rfl) (by kernel_rfl) (by exact fun _ _ _ h => h) (Or.inl ⟨by first | kernel_rfl | rfl, ?hyR1x10⟩) (by exact hS) ?rsR1x10
  case hyR1x10 => (intro uz hSw; (try dsimp only at hSw); go_simp; try with_reducible rfl)
  try simp only [Act.put, sA, sB, sC]
  change wpAnyH _ _ _ _ _ _ #[tt,tt,tt,tt,tt,tt,tt,tt,tt,tt,ff,ff,ff,ff,ff,ff,ff,ff,ff,ff,ff,ff,ff,ff] _ _
  refine wpAnyH_take (i := 10) (v := ?vR1x11) (by (try simp only [gA, gB, gC]); rfl) (by kernel_rfl) (by kernel_rfl) (by kernel_rfl) (by exact fun _ _ _ h => h) (Or.inl ⟨by first | kernel_rfl | rfl, ?hyR1x11⟩) (by exact hS) ?rsR1x11
  case hyR1x11 => (intro uz hSw; (try dsimp only at hSw); go_simp; try with_reducible rfl)
  try simp only [Act.put, sA, sB, sC]
  change wpAnyH _ _ _ _ _ _ #[tt,tt,tt,tt,tt,tt,tt,tt,tt,tt,tt,ff,ff,ff,ff,ff,ff,ff,ff,ff,ff,ff,ff,ff] _ _
  refine wpAnyH_take (i := 11) (v := ?vR1x12) (by (try simp only [gA, gB, gC]); rfl) (by kernel_rfl) (by kernel_rfl) (by kernel_rfl) (by exact fun _ _ _ h => h) (Or.inl ⟨by first | kernel_rfl | rfl, ?hyR1x12⟩) (by exact hS) ?rsR1x12
  case hyR1x12 => (intro uz hSw; (try dsimp only at hSw); go_simp; try with_reducible rfl)
  try simp only [Act.put, sA, sB, sC]
  change wpAnyH _ _ _ _ _ _ #[tt,tt,tt,tt,tt,tt,tt,tt,tt,tt,tt,tt,ff,ff,ff,ff,ff,ff,ff,ff,ff,ff,ff,ff] _ _
  refine wpAnyH_take (i := 12) (v := ?vR1x13) (by (try simp only [gA, gB, gC]); rfl) (by kernel_rfl) (by kernel_rfl) (by kernel_rfl) (by exact fun _ _ _ h => h) (Or.inl ⟨by first | kernel_rfl | rfl, ?hyR1x13⟩) (by exact hS) ?rsR1x13
  case hyR1x13 => (intro uz hSw; (try dsimp only at hSw); go_simp; try with_reducible rfl)
  try simp only [Act.put, sA, sB, sC]
  change wpAnyH _ _ _ _ _ _ #[tt,tt,tt,tt,tt,tt,tt,tt,tt,tt,tt,tt,tt,ff,ff,ff,ff,ff,ff,ff,ff,ff,ff,ff] _ _
  refine wpAnyH_take (i := 13) (v := ?vR1x14) (by (try simp only [gA, gB, gC]); rfl) (by kernel_rfl) (by kernel_rfl) (by kernel_rfl) (by exact fun _ _ _ h => h) (Or.inl ⟨by first | kernel_rfl | rfl, ?hyR1x14⟩) (by exact hS) ?rsR1x14
  case hyR1x14 => (intro uz hSw; (try dsimp only at hSw); go_simp; try with_reducible rfl)
  try simp only [Act.put, sA, sB, sC]
  change wpAnyH _ _ _ _ _ _ #[tt,tt,tt,tt,tt,tt,tt,tt,tt,tt,tt,tt,tt,tt,ff,ff,ff,ff,ff,ff,ff,ff,ff,ff] _ _
  refine wpAnyH_take (i := 14) (v := ?vR1x15) (by (try simp only [gA, gB, gC]); rfl) (by kernel_rfl) (by kernel_rfl) (by kernel_rfl) (by exact fun _ _ _ h => h) (Or.inl ⟨by first | kernel_rfl | rfl, ?hyR1x15⟩) (by exact hS) ?rsR1x15
  case hyR1x15 => (intro uz hSw; (try dsimp only at hSw); go_simp; try with_reducible rfl)
  try simp only [Act.put, sA, sB, sC]
  change wpAnyH _ _ _ _ _ _ #[tt,tt,tt,tt,tt,tt,tt,tt,tt,tt,tt,tt,tt,tt,tt,ff,ff,ff,ff,ff,ff,ff,ff,ff] _ _
  refine wpAnyH_take (i := 15) (v := ?vR1x16) (by (try simp only [gA, gB, gC]); rfl) (by kernel_rfl) (by kernel_rfl) (by kernel_rfl) (by exact fun _ _ _ h => h) (Or.inl ⟨by first | kernel_rfl | rfl, ?hyR1x16⟩) (by exact hS) ?rsR1x16
  case hyR1x16 => (intro uz hSw; (try dsimp only at hSw); have hxx := HV.out.q hSw; have d0 := hxx.cell 0 rfl; have d1 := hxx.cell 1 rfl; have d2 := hxx.cell 2 rfl; clear hxx; go_simp; try with_reducible rfl)
  try simp only [Act.put, sA, sB, sC]
  change wpAnyH _ _ _ _ _ _ #[tt,tt,tt,tt,tt,tt,tt,tt,tt,tt,tt,tt,tt,tt,tt,tt,ff,ff,ff,ff,ff,ff,ff,ff] _ _
  refine wpAnyH_take (i := 16) (v := ?vR1x17) (by (try simp only [gA, gB, gC]); rfl) (by kernel_rfl) (by kernel_rfl) (by kernel_rfl) (by exact fun _ _ _ h => h) (Or.inl ⟨by first | kernel_rfl | rfl, ?hyR1x17⟩) (by exact hS) ?rsR1x17
  case hyR1x17 => (intro uz hSw; (try dsimp only at hSw); go_simp; try with_reducible rfl)
  try simp only [Act.put, sA, sB, sC]
  change wpAnyH _ _ _ _ _ _ #[tt,tt,tt,tt,tt,tt,tt,tt,tt,tt,tt,tt,tt,tt,tt,tt,tt,ff,ff,ff,ff,ff,ff,ff] _ _
  refine wpAnyH_take (i := 17) (v := ?vR1x18) (by (try simp only [gA, gB, gC]); rfl) (by kernel_rfl) (by kernel_rfl) (by kernel_rfl) (by exact fun _ _ _ h => h) (Or.inl ⟨by first | kernel_rfl | rfl, ?hyR1x18⟩) (by exact hS) ?rsR1x18
  case hyR1x18 => (intro uz hSw; (try dsimp only at hSw); have hxx := HR.out.q hSw; have d0 := hxx.cell 0 rfl; have d1 := hxx.cell 1 rfl; have d2 := hxx.cell 2 rfl; have d9 := hxx.cell 9 rfl; clear hxx; go_simp; try with_reducible rfl)
  try simp only [Act.put, sA, sB, sC]
  change wpAnyH _ _ _ _ _ _ #[tt,tt,tt,tt,tt,tt,tt,tt,tt,tt,tt,tt,tt,tt,tt,tt,tt,tt,ff,ff,ff,ff,ff,ff] _ _
  refine wpAnyH_take (i := 18) (v := ?vR1x19) (by (try simp only [gA, gB, gC]); rfl) (by kernel_rfl) (by kernel_rfl) (by kernel_rfl) (by exact fun _ _ _ h => h) (Or.inl ⟨by first | kernel_rfl | rfl, ?hyR1x19⟩) (by exact hS) ?rsR1x19
  case hyR1x19 => (intro uz hSw; (try dsimp only at hSw); go_simp; try with_reducible rfl)
  try simp only [Act.put, sA, sB, sC]
  change wpAnyH _ _ _ _ _ _ #[tt,tt,tt,tt,tt,tt,tt,tt,tt,tt,tt,tt,tt,tt,tt,tt,tt,tt,tt,ff,ff,ff,ff,ff] _ _
  refine wpAnyH_take (i := 19) (v := ?vR1x20) (by (try simp only [gA, gB, gC]); rfl) (by kernel_rfl) (by kernel_rfl) (by kernel_rfl) (by exact fun _ _ _ h => h) (Or.inl ⟨by first | kernel_rfl | rfl, ?hyR1x20⟩) (by exact hS) ?rsR1x20
  case hyR1x20 => (intro uz hSw; (try dsimp only at hSw); go_simp; try with_reducible rfl)
  try simp only [Act.put, sA, sB, sC]
  change wpAnyH _ _ _ _ _ _ #[tt,tt,tt,tt,tt,tt,tt,tt,tt,tt,tt,tt,tt,tt,tt,tt,tt,tt,tt,tt,ff,ff,ff,ff] _ _
  refine wpAnyH_take (i := 20) (v := ?vR1x21) (by (try simp only [gA, gB, gC]); rfl) (by kernel_rfl) (by kernel_rfl) (by kernel_rfl) (by exact fun _ _ _ h => h) (Or.inl ⟨by first | kernel_rfl | rfl, ?hyR1x21⟩) (by exact hS) ?rsR1x21
  case hyR1x21 => (intro uz hSw; (try dsimp only at hSw); go_simp; try with_reducible rfl)
  try simp only [Act.put, sA, sB, sC]
  change wpAnyH _ _ _ _ _ _ #[tt,tt,tt,tt,tt,tt,tt,tt,tt,tt,tt,tt,tt,tt,tt,tt,tt,tt,tt,tt,tt,ff,ff,ff] _ _
  refine wpAnyH_ready (rs := [21]) (by kernel_rfl) (by simp) ?_
  refine (AllReadyH.cons (by (try simp only [gA, gB, gC]); rfl) (fun K hK => ?_) AllReadyH.nil)
  go_simp
  refine (HLI.out _).mono ?_
  rintro e yR1x22 ⟨rfl, hq⟩
  try (go_wp2_with fail)
  have hS2 := Q.trans hS hq
  refine hK.out _ _ (by exact hS2) (fun hHeld => ?_)
  clear hK K hHeld hS hq
  have hS := hS2
  clear hS2
  try simp only [Act.put, sA, sB, sC]
  change wpAnyH _ _ _ _ _ _ #[tt,tt,tt,tt,tt,tt,tt,tt,tt,tt,tt,tt,tt,tt,tt,tt,tt,tt,tt,tt,tt,tt,ff,ff] _ _
  refine wpAnyH_take (i := 22) (v := ?vR1x23) (by (try simp only [gA, gB, gC]); rfl) (by kernel_rfl) (by kernel_rfl) (by kernel_rfl) (by exact fun _ _ _ h => h) (Or.inl ⟨by first | kernel_rfl | rfl, ?hyR1x23⟩) (by exact hS) ?rsR1x23
  case hyR1x23 => (intro uz hSw; (try dsimp only at hSw); go_simp; try with_reducible rfl)
  try simp only [Act.put, sA, sB, sC]
  change wpAnyH _ _ _ _ _ _ #[tt,tt,tt,tt,tt,tt,tt,tt,tt,tt,tt,tt,tt,tt,tt,tt,tt,tt,tt,tt,tt,tt,tt,ff] _ _
  refine wpAnyH_take (i := 23) (v := ?vR1x24) (by (try simp only [gA, gB, gC]); rfl) (by kernel_rfl) (by kernel_rfl) (by kernel_rfl) (by exact fun _ _ _ h => h) (Or.inl ⟨by first | kernel_rfl | rfl, ?hyR1x24⟩) (by exact hS) ?rsR1x24
  case hyR1x24 => (intro uz hSw; (try dsimp only at hSw); go_simp; try with_reducible rfl)
  try simp only [Act.put, sA, sB, sC]
  change wpAnyH _ _ _ _ _ _ #[tt,tt,tt,tt,tt,tt,tt,tt,tt,tt,tt,tt,tt,tt,tt,tt,tt,tt,tt,tt,tt,tt,tt,tt] _ _
  refine wpAnyH_done (by kernel_rfl) ?_ _
  go_wp2_with fail
  go_ret
  exact ⟨rfl, HQ.out.trans hS⟩

set_option maxRecDepth 100000 in
theorem lifted (os : Os) (started : os.Started) (H : Type) (enc : TypeId × Value → H) :
    ReturnsInHanded {} Try.checked os 7 .any (Rows.configSignedSpec.pre6 enc Try.prog Try.f7 Rows.configSignedRow.domain false) (Rows.configSignedSpec.post enc Try.prog Try.f7 false true false false) := by
  refine returnsInHanded_of_change (C := Try.checked) own started (by kernel_rfl) Try.func7
    (ChangeSpec.witness6 (enc := enc) (C := Try.checked) false ⟨#[], #[.agg #[.bool false, .slice none 0 0, .int .i64 0, .bool false, .slice none 0 0, .int .i64 0, .slice none 0 0, .bool false, .int .i64 0, .int .i64 0, .int .i64 0, .int .i64 0, .int .i64 0, .int .i64 0, .int .i64 0]], []⟩ 8 (by kernel_rfl) (by kernel_rfl) (by kernel_rfl) (by kernel_rfl)) ?_
  intro W base args ds gs before hval0 hW hcnd _
  have hval : ∀ (j : Nat) t v, Try.f7.params[j]? = some t → args[j]? = some v → Value.okWide Try.prog W .any base t v := hval0
  have hW' := hW
  obtain ⟨p, q, hA0, hV, rfl, hfz, hnd⟩ := hW
  have hA : DataW.TrodAll enc Try.prog W 0 (fun _ => true) true Try.f7.params.toList args.toList ds p := hA0
  rw [Try.params7] at hA hval
  obtain ⟨v0, vs0, d0, ds0, p0, q0, hargs, rfl, rfl, h0, r0⟩ := trodAll_cons hA
  obtain ⟨rfl, rfl, rfl⟩ := trodAll_nil r0
  obtain rfl : args = #[v0] := by cases args; simp_all
  obtain ⟨rfl, rfl⟩ := trodVars_none hV
  have k0 := h0
  have lt0 : ∀ x ∈ p0, x.block < W.heap.size := by obtain ⟨m, hm⟩ := k0; exact DataW.trod_lt m _ _ _ hm
  obtain ⟨cs0, rfl, hc0, hf0⟩ := FrH.open_any Try.underlying28 (k := 15) (by kernel_rfl) (hval 0 28 v0 rfl rfl) h0
  obtain ⟨f0_0, f0_1, f0_2, f0_3, f0_4, f0_5, f0_6, f0_7, f0_8, f0_9, f0_10, f0_11, f0_12, f0_13, f0_14, rfl⟩ := FrH.arr15 hc0
  have hn0_1 := FrH.nest Try.underlying28 hf0 0 rfl 0 3 rfl (T := 24) rfl (by kernel_rfl) (l := [f0_0, f0_1, f0_2]) rfl
  have hn0_2 := FrH.nest Try.underlying24 hn0_1 0 rfl 0 1 rfl (T := 4) rfl (by kernel_rfl) (l := [f0_0]) rfl
  have hn0_3 := FrH.nest Try.underlying24 hn0_1 1 rfl 1 1 rfl (T := 22) rfl (by kernel_rfl) (l := [f0_1]) rfl
  have hn0_4 := FrH.nest Try.underlying24 hn0_1 2 rfl 2 1 rfl (T := 3) rfl (by kernel_rfl) (l := [f0_2]) rfl
  have hn0_5 := FrH.nest Try.underlying28 hf0 1 rfl 3 3 rfl (T := 24) rfl (by kernel_rfl) (l := [f0_3, f0_4, f0_5]) rfl
  have hn0_6 := FrH.nest Try.underlying24 hn0_5 0 rfl 0 1 rfl (T := 4) rfl (by kernel_rfl) (l := [f0_3]) rfl
  have hn0_7 := FrH.nest Try.underlying24 hn0_5 1 rfl 1 1 rfl (T := 22) rfl (by kernel_rfl) (l := [f0_4]) rfl
  have hn0_8 := FrH.nest Try.underlying24 hn0_5 2 rfl 2 1 rfl (T := 3) rfl (by kernel_rfl) (l := [f0_5]) rfl
  have hn0_9 := FrH.nest Try.underlying28 hf0 2 rfl 6 1 rfl (T := 22) rfl (by kernel_rfl) (l := [f0_6]) rfl
  have hn0_10 := FrH.nest Try.underlying28 hf0 3 rfl 7 1 rfl (T := 4) rfl (by kernel_rfl) (l := [f0_7]) rfl
  have hn0_11 := FrH.nest Try.underlying28 hf0 4 rfl 8 7 rfl (T := 26) rfl (by kernel_rfl) (l := [f0_8, f0_9, f0_10, f0_11, f0_12, f0_13, f0_14]) rfl
  have hn0_12 := FrH.nest Try.underlying26 hn0_11 0 rfl 0 1 rfl (T := 3) rfl (by kernel_rfl) (l := [f0_8]) rfl
  have hn0_13 := FrH.nest Try.underlying26 hn0_11 1 rfl 1 1 rfl (T := 3) rfl (by kernel_rfl) (l := [f0_9]) rfl
  have hn0_14 := FrH.nest Try.underlying26 hn0_11 2 rfl 2 1 rfl (T := 3) rfl (by kernel_rfl) (l := [f0_10]) rfl
  have hn0_15 := FrH.nest Try.underlying26 hn0_11 3 rfl 3 1 rfl (T := 3) rfl (by kernel_rfl) (l := [f0_11]) rfl
  have hn0_16 := FrH.nest Try.underlying26 hn0_11 4 rfl 4 1 rfl (T := 3) rfl (by kernel_rfl) (l := [f0_12]) rfl
  have hn0_17 := FrH.nest Try.underlying26 hn0_11 5 rfl 5 1 rfl (T := 3) rfl (by kernel_rfl) (l := [f0_13]) rfl
  have hn0_18 := FrH.nest Try.underlying26 hn0_11 6 rfl 6 1 rfl (T := 3) rfl (by kernel_rfl) (l := [f0_14]) rfl
  obtain ⟨g0_0, rfl⟩ := FrH.bool_of Try.underlying4 hn0_2
  obtain ⟨xs0_1, w0_1, b0_1⟩ := FrH.lst_of Try.underlying22 Try.underlying3 (by kernel_rfl) hn0_3
  obtain ⟨s0_2, rfl, ws0_2⟩ := FrH.int_of Try.underlying3 hn0_4
  obtain ⟨g0_3, rfl⟩ := FrH.bool_of Try.underlying4 hn0_6
  obtain ⟨xs0_4, w0_4, b0_4⟩ := FrH.lst_of Try.underlying22 Try.underlying3 (by kernel_rfl) hn0_7
  obtain ⟨s0_5, rfl, ws0_5⟩ := FrH.int_of Try.underlying3 hn0_8
  obtain ⟨xs0_6, w0_6, b0_6⟩ := FrH.lst_of Try.underlying22 Try.underlying3 (by kernel_rfl) hn0_9
  obtain ⟨g0_7, rfl⟩ := FrH.bool_of Try.underlying4 hn0_10
  obtain ⟨s0_8, rfl, ws0_8⟩ := FrH.int_of Try.underlying3 hn0_12
  obtain ⟨s0_9, rfl, ws0_9⟩ := FrH.int_of Try.underlying3 hn0_13
  obtain ⟨s0_10, rfl, ws0_10⟩ := FrH.int_of Try.underlying3 hn0_14
  obtain ⟨s0_11, rfl, ws0_11⟩ := FrH.int_of Try.underlying3 hn0_15
  obtain ⟨s0_12, rfl, ws0_12⟩ := FrH.int_of Try.underlying3 hn0_16
  obtain ⟨s0_13, rfl, ws0_13⟩ := FrH.int_of Try.underlying3 hn0_17
  obtain ⟨s0_14, rfl, ws0_14⟩ := FrH.int_of Try.underlying3 hn0_18
  clear hA0 hval0
  refine (walk W g0_0 f0_1 xs0_1 w0_1 b0_1 s0_2 ws0_2 g0_3 f0_4 xs0_4 w0_4 b0_4 s0_5 ws0_5 f0_6 xs0_6 w0_6 b0_6 g0_7 s0_8 ws0_8 s0_9 ws0_9 s0_10 ws0_10 s0_11 ws0_11 s0_12 ws0_12 s0_13 ws0_13 s0_14 ws0_14).mono fun e W' ⟨he, bel⟩ => ?_
  subst he
  exact ⟨_, rfl, _, _, _, [], _, [], hW', trodAll_mk1 (shut_bool Try.underlying4 _), (trodAll_cons_mk (Below.trod laidOut (by kernel_rfl) (of_decide_eq_true (by kernel_rfl)) k0 bel lt0) trodAll_mk0), rfl, bel.below.frame _, fun h => by cases h⟩

/-- The statement. -/
theorem proved : Rows.ConfigSignedSaid :=
  OpenClaim.holds_of_wide 7 Try.f7 rfl rfl rfl rfl rfl rfl rfl ⟨rfl, rfl, rfl, rfl, rfl⟩ rfl rfl rfl rfl rfl (by kernel_rfl) Try.func7 (by kernel_rfl)
    (of_decide_eq_true (by kernel_rfl)) (by unfold Func.isWrapper; first | (rw [if_pos (by decide +kernel)]; kernel_rfl) | (rw [if_neg (by decide +kernel)]; exact ⟨rfl, rfl⟩))
    (fun os started H enc _ => lifted os started H enc)
#print axioms proved
end Go.Proofs.Yteljedefbomlgaa.configSigned
