/- The clusters of a draft's text are those of its items. (and more) -/
import Derived.Test.YtnlfeamhedihpaaGreatDoorR00
import Derived.Test.YtnlfeamhedihpaaGreatDoorR02
import Derived.Test.YtnlfeamhedihpaaGreatDoorR04
import Derived.Test.YtnlfeamhedihpaaGreatDoorR05
import Derived.Test.YtnlfeamhedihpaaGreatDoorR26
import Derived.Test.YtnlfeamhedihpaaGreatDoorR01
import Derived.Test.YtnlfeamhedihpaaGreatDoorR41
import Derived.Test.YtnlfeamhedihpaaGreatDoorR43
import Derived.Test.YtnlfeamhedihpaaGreatDoorR07
import Derived.Test.YtnlfeamhedihpaaGreatDoorR10
import Derived.Test.YtnlfeamhedihpaaGreatDoorR40
import Derived.Test.YtnlfeamhedihpaaGreatDoorR45
import Derived.Test.YtnlfeamhedihpaaGreatDoorR42
import Derived.Test.YtnlfeamhedihpaaGreatDoorR15
import Derived.Test.YtnlfeamhedihpaaGreatDoorR03
import Derived.Test.YtnlfeamhedihpaaGreatDoorR09
import Derived.Test.YtnlfeamhedihpaaGreatDoorR30
import Derived.Test.YtnlfeamhedihpaaGreatDoorRows
import Derived.Laws.Rows
import Derived.Laws.Tables
import Derived.Deep.RegionHeld
import Derived.Deep.Cut
import Derived.Deep.QuietTactic
import Derived.BigQuiet
set_option linter.unusedVariables false
set_option linter.unusedSimpArgs false
namespace Go.Proofs.YtnlfeamhedihpaaGreatDoor
open Go.RowKit
namespace It
open Um Cm Gm Im Lo Ro
set_option maxRecDepth 100000 in
set_option maxHeartbeats 8000000 in
theorem law_clusters (g0 g1 g2 g3 g4 g5 n : Int) (dg ds : Bool) (e1 e2 : Option Addr) (m1 m2 f1 f2 : Nat) (DI DF : List Int) (w : World) (h0 : -9223372036854775808 ≤ g0 ∧ g0 ≤ 9223372036854775807) (h1 : -9223372036854775808 ≤ g1 ∧ g1 ≤ 9223372036854775807) (h2 : -9223372036854775808 ≤ g2 ∧ g2 ≤ 9223372036854775807) (h3 : -9223372036854775808 ≤ g3 ∧ g3 ≤ 9223372036854775807) (h4 : -9223372036854775808 ≤ g4 ∧ g4 ≤ 9223372036854775807) (h5 : -9223372036854775808 ≤ g5 ∧ g5 ≤ 9223372036854775807) (hn : -9223372036854775808 ≤ n ∧ n ≤ 9223372036854775807) (hi : Lst w (.slice e1 m1 f1) DI) (hf : Lst w (.slice e2 m2 f2) DF) (q1 : DI.length = m1) (q2 : DF.length = m2) (bi : ∀ n ∈ DI, -9223372036854775808 ≤ n ∧ n ≤ 9223372036854775807) (bf : ∀ n ∈ DF, -9223372036854775808 ≤ n ∧ n ≤ 9223372036854775807) :
    Calls Tryz.prog 7 #[.agg #[.int .i64 g0, .int .i64 g1, .int .i64 g2, .int .i64 g3, .int .i64 g4, .int .i64 g5], .int .i64 n, .agg #[.bool dg, .slice e1 m1 f1, .bool ds, .slice e2 m2 f2]] w fun e w' => e = .returned (.bool true) ∧ Q w w' := by
  have HBE := Lib.hid (fun u => begin_any g0 g1 g2 g3 g4 g5 n u h0 h1 h2 h3 h4 h5 hn)
  have hic := hi.form0 q1
  obtain ⟨_, _, hv, hnc, hcm⟩ := hic
  cases hv
  have hfc := hf.form0 q2
  obtain ⟨_, _, hv, hnf, hfm⟩ := hfc
  cases hv
  unfold maxLen at hcm hfm
  have HGD := Lib.hid (fun u (q : Q w u) => Tr.good_any dg ds e1 e2 m1 m2 f1 f2 DI DF u (hi.q q) (hf.q q) q1 q2 (by omega) (by omega) bi bf 10 5 (by omega) (by omega))
  have hgm := Tm.gdT_may dg ds DI DF 10 5
  have hgl := Tm.gdT_len dg ds DI DF 10 5
  generalize Tm.gdT dg ds DI DF 10 5 = D at *
  obtain ⟨tg, TI, ts, TF⟩ := D
  dsimp only at hgl
  obtain ⟨okI, okF, _⟩ := Tm.may_dig hgm
  dsimp only at okI okF
  have HGM := Lib.hid hgm
  have HOI := Lib.hid okI
  have HOF := Lib.hid okF
  obtain ⟨k1, hk1⟩ : ∃ k, k = TI.length := ⟨_, rfl⟩
  obtain ⟨k2, hk2⟩ : ∃ k, k = TF.length := ⟨_, rfl⟩
  rw [← hk1, ← hk2] at hgl
  have HK1 := Lib.hid hk1.symm
  have HK2 := Lib.hid hk2.symm
  obtain ⟨hkb1, hkb2⟩ := hgl
  clear hi hf q1 q2 bi bf hgm okI okF hk1 hk2 h0 h1 h2 h3 h4 h5 hn
  obtain ⟨y, hy⟩ : ∃ z, z = w.alloc (.cells #[.int .i64 g0, .int .i64 g1, .int .i64 g2, .int .i64 g3, .int .i64 g4, .int .i64 g5] 23) := ⟨_, rfl⟩
  have hqy : Q w y := by rw [hy]; exact (Q.refl w).alloc _
  have hgy : Bk y w.heap.size 23 [.int .i64 g0, .int .i64 g1, .int .i64 g2, .int .i64 g3, .int .i64 g4, .int .i64 g5] := by rw [hy]; exact Bk.new _ _ _
  obtain ⟨z, hz⟩ : ∃ z, z = y.alloc (.cells #[.bool dg, .slice e1 m1 f1, .bool ds, .slice e2 m2 f2] 26) := ⟨_, rfl⟩
  have hqz : Q y z := by rw [hz]; exact (Q.refl y).alloc _
  have HQZ := Lib.hid (hqy.trans hqz)
  have HGZ := Lib.hid (hgy.q hqz)
  have hsy : y.heap.size = w.heap.size + 1 := by rw [hy]; simp
  have hdz : Bk z y.heap.size 26 [.bool dg, .slice e1 m1 f1, .bool ds, .slice e2 m2 f2] := by rw [hz]; exact Bk.new _ _ _
  rw [hsy] at hdz
  have HDZ := Lib.hid hdz
  have hz2 : z = (w.alloc (.cells #[.int .i64 g0, .int .i64 g1, .int .i64 g2, .int .i64 g3, .int .i64 g4, .int .i64 g5] 23)).alloc (.cells #[.bool dg, .slice e1 m1 f1, .bool ds, .slice e2 m2 f2] 26) := by rw [hz, hy]
  obtain ⟨bG, hbG⟩ : ∃ b, b = w.heap.size := ⟨_, rfl⟩
  obtain ⟨bD, hbD⟩ : ∃ b, b = w.heap.size + 1 := ⟨_, rfl⟩
  clear hqy hgy hqz hsy hdz hz hy
  go_enter Tryz.func7, Tryz.ntmps7
  go_upto_region 1 with fail
  rw [← hz2, ← hbD, ← hbG]
  rw [← hbG] at HGZ
  rw [← hbD] at HDZ
  clear hz2 hbG hbD
  have cg0 := HGZ.out.cell 0 rfl
  have cg1 := HGZ.out.cell 1 rfl
  have cg2 := HGZ.out.cell 2 rfl
  have cg3 := HGZ.out.cell 3 rfl
  have cg4 := HGZ.out.cell 4 rfl
  have cg5 := HGZ.out.cell 5 rfl
  go_wp2_with fail
  clear cg0 cg1 cg2 cg3 cg4 cg5 HGZ
  refine (HBE.out _).mono ?_
  rintro e w1 ⟨r, X, pv, vv, hok, rfl, ⟨g, pa, pb, pc, pd, pcl, rfl, hpl⟩, ⟨la, lb, lc, ld, rfl, hrl⟩, hq1⟩
  have HOK := Lib.hid hok
  have HPL := Lib.hid hpl
  have HRL := Lib.hid hrl
  have HQ1 := Lib.hid (HQZ.out.trans hq1)
  have HD1 := Lib.hid (HDZ.out.q hq1)
  obtain ⟨a1, a2, rfl⟩ := hrl.1.shape
  obtain ⟨b1, b2, rfl⟩ := hrl.2.1.shape
  obtain ⟨c1, c2, rfl⟩ := hrl.2.2.1.shape
  obtain ⟨d1, d2, rfl⟩ := hrl.2.2.2.shape
  have HIP := Lib.hid (fun u (q : Q w1 u) i1 k1' j1 i2 k2' j2 (hi : Lst u (.slice i1 k1' j1) TI) (hf : Lst u (.slice i2 k2' j2) TF) (h1 : TI.length = k1') (h2 : TF.length = k2') (b1 : k1' ≤ 1000) (b2 : k2' ≤ 1000) => items_any g r X pa pb pc pd pcl tg ts i1 i2 k1' k2' j1 j2 TI TF u hok.ok (hpl.q q) hi hf h1 h2 b1 b2 HOI.out HOF.out)
  clear hpl hrl hok hq1 HBE HQZ HDZ
  have HLV : Hid (lV r X (.slice a1 X.pre.length a2) (.slice b1 X.suf.length b2) (.slice c1 X.npre.length c2) (.slice d1 X.nsuf.length d2) = .agg #[.string (Lm.bs r.nam), .string (Lm.bs r.pat), .string (Lm.bs r.sys), .string (Lm.bs r.dec), .string (Lm.bs r.grp), .string (Lm.bs r.min), .string (Lm.bs r.per), .string (Lm.bs r.cur), .slice a1 X.pre.length a2, .slice b1 X.suf.length b2, .slice c1 X.npre.length c2, .slice d1 X.nsuf.length d2, .int .i64 X.pr, .int .i64 X.se, .int .i64 X.mi, .int .i64 X.mf, .int .i64 X.xf]) := Lib.hid rfl
  obtain ⟨w2, hw2⟩ : ∃ z, z = w1.alloc (.cells #[.string (Lm.bs r.nam), .string (Lm.bs r.pat), .string (Lm.bs r.sys), .string (Lm.bs r.dec), .string (Lm.bs r.grp), .string (Lm.bs r.min), .string (Lm.bs r.per), .string (Lm.bs r.cur), .slice a1 X.pre.length a2, .slice b1 X.suf.length b2, .slice c1 X.npre.length c2, .slice d1 X.nsuf.length d2, .int .i64 X.pr, .int .i64 X.se, .int .i64 X.mi, .int .i64 X.mf, .int .i64 X.xf] 34) := ⟨_, rfl⟩
  have hq2 : Q w1 w2 := by rw [hw2]; exact (Q.refl _).alloc _
  have HLX := Lib.hid (show Bk w2 w1.heap.size 34 [.string (Lm.bs r.nam), .string (Lm.bs r.pat), .string (Lm.bs r.sys), .string (Lm.bs r.dec), .string (Lm.bs r.grp), .string (Lm.bs r.min), .string (Lm.bs r.per), .string (Lm.bs r.cur), .slice a1 X.pre.length a2, .slice b1 X.suf.length b2, .slice c1 X.npre.length c2, .slice d1 X.nsuf.length d2, .int .i64 X.pr, .int .i64 X.se, .int .i64 X.mi, .int .i64 X.mf, .int .i64 X.xf] by rw [hw2]; exact Bk.new _ _ _)
  have HQ2 := Lib.hid (HQ1.out.trans hq2)
  have HD2 := Lib.hid (HD1.out.q hq2)
  have HQ12 := Lib.hid hq2
  obtain ⟨bL, hbL⟩ : ∃ b, b = w1.heap.size := ⟨_, rfl⟩
  rw [← hbL] at HLX
  clear hq2
  go_upto_region 2 with fail
  unfold lV
  rw [← hw2, ← hbL]
  clear hw2 hbL
  have x0 := HD2.out.cell 0 rfl
  have x1 := HD2.out.cell 1 rfl
  have x2 := HD2.out.cell 2 rfl
  have x3 := HD2.out.cell 3 rfl
  go_wp2_with fail
  clear x0 x1 x2 x3
  refine (HGD.out _ HQ2.out).mono ?_
  rintro e w3 ⟨x, rfl, hx3, hq3⟩
  obtain ⟨i1, j1, i2, j2, rfl, hli, hlf⟩ := hx3
  dsimp only at hli hlf
  rw [HK1.out] at hli
  rw [HK2.out] at hlf
  have hic3 := hli.lst.form0 HK1.out
  obtain ⟨_, _, hv, hnc3, hcm3⟩ := hic3
  cases hv
  have hfc3 := hlf.lst.form0 HK2.out
  obtain ⟨_, _, hv, hnf3, hfm3⟩ := hfc3
  cases hv
  unfold maxLen at hcm3 hfm3
  have HLI := Lib.hid hli.lst
  have HLF := Lib.hid hlf.lst
  have HQ3 := Lib.hid (HQ2.out.trans hq3)
  have HQ13 := Lib.hid (HQ12.out.trans hq3)
  have HLX3 := Lib.hid (HLX.out.q hq3)
  clear hli hlf hq3
  obtain ⟨w4, hw4⟩ : ∃ z, z = w3.alloc (.cells #[.bool tg, .slice i1 k1 j1, .bool ts, .slice i2 k2 j2] 26) := ⟨_, rfl⟩
  have hq4 : Q w3 w4 := by rw [hw4]; exact (Q.refl _).alloc _
  have HOX := Lib.hid (show Bk w4 w3.heap.size 26 [.bool tg, .slice i1 k1 j1, .bool ts, .slice i2 k2 j2] by rw [hw4]; exact Bk.new _ _ _)
  have HQ4 := Lib.hid (HQ3.out.trans hq4)
  have HQ14 := Lib.hid (HQ13.out.trans hq4)
  have HLX4 := Lib.hid (HLX3.out.q hq4)
  have HLI4 := Lib.hid (HLI.out.q hq4)
  have HLF4 := Lib.hid (HLF.out.q hq4)
  obtain ⟨bO, hbO⟩ : ∃ b, b = w3.heap.size := ⟨_, rfl⟩
  rw [← hbO] at HOX
  clear hq4 HLX HLX3 HLI HLF HQ13 HQ12 HQ3 HQ2 HD2 HD1
  go_upto_region 5 with fail
  try rw [HK1.out, HK2.out]
  rw [← hw4, ← hbO]
  clear hw4 hbO
  have x0 := HOX.out.cell 0 rfl
  have x1 := HOX.out.cell 1 rfl
  have x2 := HOX.out.cell 2 rfl
  have x3 := HOX.out.cell 3 rfl
  go_wp2_with fail
  clear x0 x1 x2 x3
  refine (HIP.out _ HQ14.out _ _ _ _ _ _ HLI4.out HLF4.out HK1.out HK2.out (by omega) (by omega)).mono ?_
  rintro e w5 ⟨va, rfl, ha5, hq5⟩
  have HA5 := Lib.hid ha5.lst
  have HQ5 := Lib.hid (HQ4.out.trans hq5)
  have HQ15 := Lib.hid (HQ14.out.trans hq5)
  have HLX5 := Lib.hid (HLX4.out.q hq5)
  have HLI5 := Lib.hid (HLI4.out.q hq5)
  have HLF5 := Lib.hid (HLF4.out.q hq5)
  have HOX5 := Lib.hid (HOX.out.q hq5)
  clear ha5 hq5 HLX4 HLI4 HLF4 HOX HQ14 HQ4 HIP HGD
  have hpf := Ro.around_fact HOK.out.ok tg
  have hil := itm_len r X.pr X.se ⟨tg, TI, ts, TF⟩ (parP r (Ro.ahd tg X)) (parP r (Ro.bhd tg X))
  dsimp only at hil
  rw [HK1.out, HK2.out] at hil
  have hok := itm_okT HOK.out (d := ⟨tg, TI, ts, TF⟩) HOI.out HOF.out tg
  have htl := tx_len _ hok
  obtain ⟨L, hL⟩ : ∃ y, y = itm r X.pr X.se ⟨tg, TI, ts, TF⟩ (parP r (Ro.ahd tg X)) (parP r (Ro.bhd tg X)) := ⟨_, rfl⟩
  rw [← hL] at hil hok htl HA5
  obtain ⟨nL, hnL⟩ : ∃ n, n = L.length := ⟨_, rfl⟩
  have HNL := Lib.hid hnL.symm
  have h3a := hpf.2.2.1
  have h3b := hpf.2.2.2
  have hnb : nL ≤ 41 := by omega
  have htb : (txI L).length ≤ 1000000 := by rw [← hnL] at htl; omega
  have HTB := Lib.hid htb
  have HOT := Lib.hid hok
  obtain ⟨vA, vC, rfl, _, _⟩ := HA5.out.form0 HNL.out
  clear hil htl hok hpf h3a h3b htb hnL hL
  have hpl := fun e (he : e ∈ L) => (HOT.out e he).1
  have HPC := Lib.hid (show pcs ⟨(txI L).toArray⟩ = L.flatMap (fun e => pcs e.2.1) from (pcs_tx L hpl).1)
  obtain ⟨P, hP⟩ : ∃ P : Nat → List ByteArray, P = fun k => (L.take k).flatMap (fun e => pcs e.2.1) := ⟨_, rfl⟩
  have HPE := Lib.hid (show pcs ⟨(txI L).toArray⟩ = P nL by rw [HPC.out, hP, ← HNL.out]; simp)
  have HP0 := Lib.hid (show P 0 = [] by rw [hP]; rfl)
  have HPS := Lib.hid (show ∀ k, k < nL → P (k + 1) = P k ++ pcs (L.getD k e0).2.1 from fun k hk => by
    rw [hP]
    dsimp only
    rw [List.take_add_one, List.getElem?_eq_getElem (by rw [HNL.out]; exact hk), List.flatMap_append, List.getD_eq_getElem?_getD, List.getElem?_eq_getElem (by rw [HNL.out]; exact hk)]
    simp)
  have HSZ := Lib.hid (fun k (hk : k < nL) => (HOT.out _ (mem_at L k (by rw [HNL.out]; exact hk))).2)
  have HPL := Lib.hid (show ∀ k, k ≤ nL → (P k).length ≤ 64 * k from fun k => by
    induction k with
    | zero => intro _; rw [HP0.out]; exact Nat.le_refl _
    | succ k ih =>
      intro hk
      rw [HPS.out k (by omega), List.length_append, pcs_length]
      have h1 := begL_length (L.getD k e0).2.1.data.toList
      have h2 := HSZ.out k (by omega)
      rw [size_list] at h1
      have h3 := ih (by omega)
      omega)
  have HV := Lib.hid (fun u (q : Q w5 u) k (h : k < nL) => (HA5.out.q q).cellOf HNL.out h)
  have HTX := Lib.hid (fun u (q : Q w5 u) => text_any _ L u (HA5.out.q q) (by rw [HNL.out]; omega) HTB.out)
  have hts : (⟨(txI L).toArray⟩ : ByteArray).size ≤ 1073741824 := by have := HTB.out; show (txI L).toArray.size ≤ _; simp; omega
  clear hpl hP HPC
  go_wp2_with fail
  go_loopw [11, 12] (fun x i wr => ∃ k : Nat, i = .int .i64 k ∧ k ≤ nL ∧ SOwn wr w5.heap.size x (P k) ∧ Q w5 wr) (fun _ i _ => nL - (intOf i).toNat)
  case atStart => exact ⟨0, rfl, by omega, by rw [HP0.out]; exact GOwn.nil _ _ _ _, Q.refl _⟩
  case round =>
    obtain ⟨k, rfl, hk, ho, hq⟩ := hrel
    by_cases hlt : k < nL
    · obtain ⟨gg, off, cap, hvv, hg, _, hcap, c1', c2', c3'⟩ := HV.out wr hq k hlt
      cases hvv
      unfold maxLen at hcap
      have hps := HPS.out k hlt
      have hsz := HSZ.out k hlt
      have hpl := HPL.out k hk
      generalize L.getD k e0 = x at *
      obtain ⟨xa, xt, xb⟩ := x
      dsimp only at c1' c2' c3' hps hsz
      obtain ⟨oa, oc, hov⟩ := ho.shape
      obtain ⟨pn, hpn⟩ : ∃ n, n = (P k).length := ⟨_, rfl⟩
      rw [← hpn] at hov hpl
      subst hov
      have HPN := Lib.hid hpn
      have HO := Lib.hid ho
      have HQ := Lib.hid hq
      have HPK := Lib.hid hps
      have hpc : (pcs xt).length ≤ 64 := by
        rw [pcs_length]
        have h1 := begL_length xt.data.toList
        rw [size_list] at h1
        omega
      clear ho hq hps hpn c1' c3'
      go_wp2_with fail
      refine (Gr.split_any xt _ (by omega)).mono ?_
      rintro e w7 ⟨pv, rfl, hp7, hq7⟩
      have HP7 := Lib.hid hp7.lst
      have HO7 := Lib.hid (HO.out.q hq7)
      have HQ7 := Lib.hid (HQ.out.trans hq7)
      have hle := HQ7.out.le
      obtain ⟨pa, pc, rfl⟩ := hp7.shape
      clear hp7 hq7 c2'
      go_wp2_with (at_builtin; refine gpushl elemS oneS HO7.out HP7.out rfl _ _ rfl (by rfl) (by rfl) (by rw [← HPN.out]; omega) hle ?_)
      intro v8 w8 ho8 hg8 hat8
      have HO8 := Lib.hid (show SOwn w8 w5.heap.size v8 (P (k + 1)) by rw [HPK.out]; exact ho8)
      have HQ8 := Lib.hid (HQ7.out.grown hg8 (fun j h => (HO7.out.lt j h).1))
      clear ho8 hg8 hat8
      go_wp2_with fail
      exact ⟨⟨k + 1, by go_num, by omega, HO8.out, HQ8.out⟩, by simp [intOf]; omega⟩
    · obtain rfl : k = nL := by omega
      have hpl := HPL.out k hk
      have HO := Lib.hid ho
      have HQ := Lib.hid hq
      have HTR := Lib.hid (HTX.out wr hq)
      rw [← HPE.out] at ho
      have HOE := Lib.hid ho.lst
      obtain ⟨oa, oc, rfl⟩ := ho.shape
      have HSP := Lib.hid (fun u => Gr.split_any ⟨(txI L).toArray⟩ u hts)
      have hpcl : (pcs ⟨(txI L).toArray⟩).length ≤ 100000 := by rw [HPE.out]; omega
      clear ho hq HTX HPE HO
      generalize (⟨(txI L).toArray⟩ : ByteArray) = S at *
      go_wp2_with fail
      refine HTR.out.mono ?_
      rintro e w7 ⟨rfl, hq7⟩
      have HQ7 := Lib.hid (HQ.out.trans hq7)
      have HOE7 := Lib.hid (HOE.out.q hq7)
      clear hq7 HOE HQ HTR
      go_wp2_with fail
      refine (HSP.out _).mono ?_
      rintro e w8 ⟨pv, rfl, hp8, hq8⟩
      have HP8 := Lib.hid hp8.lst
      have HQ8 := Lib.hid (HQ7.out.trans hq8)
      have HOE8 := Lib.hid (HOE7.out.q hq8)
      obtain ⟨pa, pc, rfl⟩ := hp8.shape
      clear hp8 hq8 HOE7 HQ7
      go_wp2_with fail
      refine (Gr.sames_any _ _ (pcs S) (pcs S) _ HP8.out HOE8.out (by omega) (by omega)).mono ?_
      rintro e w9 ⟨rfl, hq9⟩
      have HQ9 := Lib.hid (HQ5.out.trans (HQ8.out.trans hq9))
      rw [show decide (pcs S = pcs S) = true from by simp]
      clear hq9
      go_wp2_with fail
      refine (It.lives_any _).mono ?_
      rintro e wb ⟨rfl, rfl⟩
      go_wp2_with fail
      go_ret
      exact ⟨rfl, HQ9.out⟩
end It
end Go.Proofs.YtnlfeamhedihpaaGreatDoor
