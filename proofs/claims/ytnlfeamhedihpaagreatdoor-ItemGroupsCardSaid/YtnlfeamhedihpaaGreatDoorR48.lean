/- Groups stand between digits, as many as are told of the digits ahead of the separator. (and more) -/
import Derived.Test.YtnlfeamhedihpaaGreatDoorR00
import Derived.Test.YtnlfeamhedihpaaGreatDoorR02
import Derived.Test.YtnlfeamhedihpaaGreatDoorR04
import Derived.Test.YtnlfeamhedihpaaGreatDoorR05
import Derived.Test.YtnlfeamhedihpaaGreatDoorR01
import Derived.Test.YtnlfeamhedihpaaGreatDoorR41
import Derived.Test.YtnlfeamhedihpaaGreatDoorR43
import Derived.Test.YtnlfeamhedihpaaGreatDoorR07
import Derived.Test.YtnlfeamhedihpaaGreatDoorR10
import Derived.Test.YtnlfeamhedihpaaGreatDoorR40
import Derived.Test.YtnlfeamhedihpaaGreatDoorR45
import Derived.Test.YtnlfeamhedihpaaGreatDoorR42
import Derived.Test.YtnlfeamhedihpaaGreatDoorR15
import Derived.Test.YtnlfeamhedihpaaGreatDoorR03
import Derived.Test.YtnlfeamhedihpaaGreatDoorR26
import Derived.Test.YtnlfeamhedihpaaGreatDoorR09
import Derived.Test.YtnlfeamhedihpaaGreatDoorR30
import Derived.Test.YtnlfeamhedihpaaGreatDoorRows
import Derived.Laws.Rows
import Derived.Laws.Tables
import Derived.Deep.RegionHeld
import Derived.Deep.Cut
import Derived.Deep.QuietTactic
import Derived.BigQuiet
set_option linter.unusedVariables false
set_option linter.unusedSimpArgs false
namespace Go.Proofs.YtnlfeamhedihpaaGreatDoor
open Go.RowKit
namespace It
open Um Im Lo Ro
set_option maxRecDepth 100000 in
set_option maxHeartbeats 8000000 in
theorem law_groups (g0 g1 g2 g3 g4 g5 n : Int) (dg ds : Bool) (e1 e2 : Option Addr) (m1 m2 f1 f2 : Nat) (DI DF : List Int) (w : World) (h0 : -9223372036854775808 ≤ g0 ∧ g0 ≤ 9223372036854775807) (h1 : -9223372036854775808 ≤ g1 ∧ g1 ≤ 9223372036854775807) (h2 : -9223372036854775808 ≤ g2 ∧ g2 ≤ 9223372036854775807) (h3 : -9223372036854775808 ≤ g3 ∧ g3 ≤ 9223372036854775807) (h4 : -9223372036854775808 ≤ g4 ∧ g4 ≤ 9223372036854775807) (h5 : -9223372036854775808 ≤ g5 ∧ g5 ≤ 9223372036854775807) (hn : -9223372036854775808 ≤ n ∧ n ≤ 9223372036854775807) (hi : Lst w (.slice e1 m1 f1) DI) (hf : Lst w (.slice e2 m2 f2) DF) (q1 : DI.length = m1) (q2 : DF.length = m2) (bi : ∀ n ∈ DI, -9223372036854775808 ≤ n ∧ n ≤ 9223372036854775807) (bf : ∀ n ∈ DF, -9223372036854775808 ≤ n ∧ n ≤ 9223372036854775807) :
    Calls Tryz.prog 5 #[.agg #[.int .i64 g0, .int .i64 g1, .int .i64 g2, .int .i64 g3, .int .i64 g4, .int .i64 g5], .int .i64 n, .agg #[.bool dg, .slice e1 m1 f1, .bool ds, .slice e2 m2 f2]] w fun e w' => e = .returned (.bool true) ∧ Q w w' := by
  have HBE := Lib.hid (fun u => begin_any g0 g1 g2 g3 g4 g5 n u h0 h1 h2 h3 h4 h5 hn)
  have hic := hi.form0 q1
  obtain ⟨_, _, hv, hnc, hcm⟩ := hic
  cases hv
  have hfc := hf.form0 q2
  obtain ⟨_, _, hv, hnf, hfm⟩ := hfc
  cases hv
  unfold maxLen at hcm hfm
  have HGD := Lib.hid (fun u (q : Q w u) => Tr.good_any dg ds e1 e2 m1 m2 f1 f2 DI DF u (hi.q q) (hf.q q) q1 q2 (by omega) (by omega) bi bf 14 6 (by omega) (by omega))
  have hgm := Tm.gdT_may dg ds DI DF 14 6
  have hgl := Tm.gdT_len dg ds DI DF 14 6
  generalize Tm.gdT dg ds DI DF 14 6 = D at *
  obtain ⟨tg, TI, ts, TF⟩ := D
  dsimp only at hgl
  obtain ⟨okI, okF, _⟩ := Tm.may_dig hgm
  dsimp only at okI okF
  have HGM := Lib.hid hgm
  have HOI := Lib.hid okI
  have HOF := Lib.hid okF
  obtain ⟨k1, hk1⟩ : ∃ k, k = TI.length := ⟨_, rfl⟩
  obtain ⟨k2, hk2⟩ : ∃ k, k = TF.length := ⟨_, rfl⟩
  rw [← hk1, ← hk2] at hgl
  have HK1 := Lib.hid hk1.symm
  have HK2 := Lib.hid hk2.symm
  obtain ⟨hkb1, hkb2⟩ := hgl
  clear hi hf q1 q2 bi bf hgm okI okF hk1 hk2 h0 h1 h2 h3 h4 h5 hn
  obtain ⟨y, hy⟩ : ∃ z, z = w.alloc (.cells #[.int .i64 g0, .int .i64 g1, .int .i64 g2, .int .i64 g3, .int .i64 g4, .int .i64 g5] 23) := ⟨_, rfl⟩
  have hqy : Q w y := by rw [hy]; exact (Q.refl w).alloc _
  have hgy : Bk y w.heap.size 23 [.int .i64 g0, .int .i64 g1, .int .i64 g2, .int .i64 g3, .int .i64 g4, .int .i64 g5] := by rw [hy]; exact Bk.new _ _ _
  obtain ⟨z, hz⟩ : ∃ z, z = y.alloc (.cells #[.bool dg, .slice e1 m1 f1, .bool ds, .slice e2 m2 f2] 26) := ⟨_, rfl⟩
  have hqz : Q y z := by rw [hz]; exact (Q.refl y).alloc _
  have HQZ := Lib.hid (hqy.trans hqz)
  have HGZ := Lib.hid (hgy.q hqz)
  have hsy : y.heap.size = w.heap.size + 1 := by rw [hy]; simp
  have hdz : Bk z y.heap.size 26 [.bool dg, .slice e1 m1 f1, .bool ds, .slice e2 m2 f2] := by rw [hz]; exact Bk.new _ _ _
  rw [hsy] at hdz
  have HDZ := Lib.hid hdz
  have hz2 : z = (w.alloc (.cells #[.int .i64 g0, .int .i64 g1, .int .i64 g2, .int .i64 g3, .int .i64 g4, .int .i64 g5] 23)).alloc (.cells #[.bool dg, .slice e1 m1 f1, .bool ds, .slice e2 m2 f2] 26) := by rw [hz, hy]
  obtain ⟨bG, hbG⟩ : ∃ b, b = w.heap.size := ⟨_, rfl⟩
  obtain ⟨bD, hbD⟩ : ∃ b, b = w.heap.size + 1 := ⟨_, rfl⟩
  clear hqy hgy hqz hsy hdz hz hy
  go_enter Tryz.func5, Tryz.ntmps5
  go_upto_region 1 with fail
  rw [← hz2, ← hbD, ← hbG]
  rw [← hbG] at HGZ
  rw [← hbD] at HDZ
  clear hz2 hbG hbD
  have cg0 := HGZ.out.cell 0 rfl
  have cg1 := HGZ.out.cell 1 rfl
  have cg2 := HGZ.out.cell 2 rfl
  have cg3 := HGZ.out.cell 3 rfl
  have cg4 := HGZ.out.cell 4 rfl
  have cg5 := HGZ.out.cell 5 rfl
  go_wp2_with fail
  clear cg0 cg1 cg2 cg3 cg4 cg5 HGZ
  refine (HBE.out _).mono ?_
  rintro e w1 ⟨r, X, pv, vv, hok, rfl, ⟨g, pa, pb, pc, pd, pcl, rfl, hpl⟩, ⟨la, lb, lc, ld, rfl, hrl⟩, hq1⟩
  have HOK := Lib.hid hok
  have HPL := Lib.hid hpl
  have HRL := Lib.hid hrl
  have HQ1 := Lib.hid (HQZ.out.trans hq1)
  have HD1 := Lib.hid (HDZ.out.q hq1)
  obtain ⟨a1, a2, rfl⟩ := hrl.1.shape
  obtain ⟨b1, b2, rfl⟩ := hrl.2.1.shape
  obtain ⟨c1, c2, rfl⟩ := hrl.2.2.1.shape
  obtain ⟨d1, d2, rfl⟩ := hrl.2.2.2.shape
  have HIP := Lib.hid (fun u (q : Q w1 u) i1 k1' j1 i2 k2' j2 (hi : Lst u (.slice i1 k1' j1) TI) (hf : Lst u (.slice i2 k2' j2) TF) (h1 : TI.length = k1') (h2 : TF.length = k2') (b1 : k1' ≤ 1000) (b2 : k2' ≤ 1000) => items_any g r X pa pb pc pd pcl tg ts i1 i2 k1' k2' j1 j2 TI TF u hok.ok (hpl.q q) hi hf h1 h2 b1 b2 HOI.out HOF.out)
  clear hpl hrl hok hq1 HBE HQZ HDZ
  have HLV : Hid (lV r X (.slice a1 X.pre.length a2) (.slice b1 X.suf.length b2) (.slice c1 X.npre.length c2) (.slice d1 X.nsuf.length d2) = .agg #[.string (Lm.bs r.nam), .string (Lm.bs r.pat), .string (Lm.bs r.sys), .string (Lm.bs r.dec), .string (Lm.bs r.grp), .string (Lm.bs r.min), .string (Lm.bs r.per), .string (Lm.bs r.cur), .slice a1 X.pre.length a2, .slice b1 X.suf.length b2, .slice c1 X.npre.length c2, .slice d1 X.nsuf.length d2, .int .i64 X.pr, .int .i64 X.se, .int .i64 X.mi, .int .i64 X.mf, .int .i64 X.xf]) := Lib.hid rfl
  obtain ⟨w2, hw2⟩ : ∃ z, z = w1.alloc (.cells #[.string (Lm.bs r.nam), .string (Lm.bs r.pat), .string (Lm.bs r.sys), .string (Lm.bs r.dec), .string (Lm.bs r.grp), .string (Lm.bs r.min), .string (Lm.bs r.per), .string (Lm.bs r.cur), .slice a1 X.pre.length a2, .slice b1 X.suf.length b2, .slice c1 X.npre.length c2, .slice d1 X.nsuf.length d2, .int .i64 X.pr, .int .i64 X.se, .int .i64 X.mi, .int .i64 X.mf, .int .i64 X.xf] 34) := ⟨_, rfl⟩
  have hq2 : Q w1 w2 := by rw [hw2]; exact (Q.refl _).alloc _
  have HLX := Lib.hid (show Bk w2 w1.heap.size 34 [.string (Lm.bs r.nam), .string (Lm.bs r.pat), .string (Lm.bs r.sys), .string (Lm.bs r.dec), .string (Lm.bs r.grp), .string (Lm.bs r.min), .string (Lm.bs r.per), .string (Lm.bs r.cur), .slice a1 X.pre.length a2, .slice b1 X.suf.length b2, .slice c1 X.npre.length c2, .slice d1 X.nsuf.length d2, .int .i64 X.pr, .int .i64 X.se, .int .i64 X.mi, .int .i64 X.mf, .int .i64 X.xf] by rw [hw2]; exact Bk.new _ _ _)
  have HQ2 := Lib.hid (HQ1.out.trans hq2)
  have HD2 := Lib.hid (HD1.out.q hq2)
  have HQ12 := Lib.hid hq2
  obtain ⟨bL, hbL⟩ : ∃ b, b = w1.heap.size := ⟨_, rfl⟩
  rw [← hbL] at HLX
  clear hq2
  go_upto_region 2 with fail
  unfold lV
  rw [← hw2, ← hbL]
  clear hw2 hbL
  have x0 := HD2.out.cell 0 rfl
  have x1 := HD2.out.cell 1 rfl
  have x2 := HD2.out.cell 2 rfl
  have x3 := HD2.out.cell 3 rfl
  go_wp2_with fail
  clear x0 x1 x2 x3
  refine (HGD.out _ HQ2.out).mono ?_
  rintro e w3 ⟨x, rfl, hx3, hq3⟩
  obtain ⟨i1, j1, i2, j2, rfl, hli, hlf⟩ := hx3
  dsimp only at hli hlf
  rw [HK1.out] at hli
  rw [HK2.out] at hlf
  have hic3 := hli.lst.form0 HK1.out
  obtain ⟨_, _, hv, hnc3, hcm3⟩ := hic3
  cases hv
  have hfc3 := hlf.lst.form0 HK2.out
  obtain ⟨_, _, hv, hnf3, hfm3⟩ := hfc3
  cases hv
  unfold maxLen at hcm3 hfm3
  have HLI := Lib.hid hli.lst
  have HLF := Lib.hid hlf.lst
  have HQ3 := Lib.hid (HQ2.out.trans hq3)
  have HQ13 := Lib.hid (HQ12.out.trans hq3)
  have HLX3 := Lib.hid (HLX.out.q hq3)
  clear hli hlf hq3
  obtain ⟨w4, hw4⟩ : ∃ z, z = w3.alloc (.cells #[.bool tg, .slice i1 k1 j1, .bool ts, .slice i2 k2 j2] 26) := ⟨_, rfl⟩
  have hq4 : Q w3 w4 := by rw [hw4]; exact (Q.refl _).alloc _
  have HOX := Lib.hid (show Bk w4 w3.heap.size 26 [.bool tg, .slice i1 k1 j1, .bool ts, .slice i2 k2 j2] by rw [hw4]; exact Bk.new _ _ _)
  have HQ4 := Lib.hid (HQ3.out.trans hq4)
  have HQ14 := Lib.hid (HQ13.out.trans hq4)
  have HLX4 := Lib.hid (HLX3.out.q hq4)
  have HLI4 := Lib.hid (HLI.out.q hq4)
  have HLF4 := Lib.hid (HLF.out.q hq4)
  obtain ⟨bO, hbO⟩ : ∃ b, b = w3.heap.size := ⟨_, rfl⟩
  rw [← hbO] at HOX
  clear hq4 HLX HLX3 HLI HLF HQ13 HQ12 HQ3 HQ2 HD2 HD1
  go_upto_region 5 with fail
  try rw [HK1.out, HK2.out]
  rw [← hw4, ← hbO]
  clear hw4 hbO
  have x0 := HOX.out.cell 0 rfl
  have x1 := HOX.out.cell 1 rfl
  have x2 := HOX.out.cell 2 rfl
  have x3 := HOX.out.cell 3 rfl
  go_wp2_with fail
  clear x0 x1 x2 x3
  refine (HIP.out _ HQ14.out _ _ _ _ _ _ HLI4.out HLF4.out HK1.out HK2.out (by omega) (by omega)).mono ?_
  rintro e w5 ⟨va, rfl, ha5, hq5⟩
  have HA5 := Lib.hid ha5.lst
  have HQ5 := Lib.hid (HQ4.out.trans hq5)
  have HQ15 := Lib.hid (HQ14.out.trans hq5)
  have HLX5 := Lib.hid (HLX4.out.q hq5)
  have HLI5 := Lib.hid (HLI4.out.q hq5)
  have HLF5 := Lib.hid (HLF4.out.q hq5)
  have HOX5 := Lib.hid (HOX.out.q hq5)
  clear ha5 hq5 HLX4 HLI4 HLF4 HOX HQ14 HQ4 HIP HGD
  have hpf := Ro.around_fact HOK.out.ok tg
  have hil := itm_len r X.pr X.se ⟨tg, TI, ts, TF⟩ (parP r (Ro.ahd tg X)) (parP r (Ro.bhd tg X))
  dsimp only at hil
  rw [HK1.out, HK2.out] at hil
  have hok := itm_okT HOK.out (d := ⟨tg, TI, ts, TF⟩) HOI.out HOF.out tg
  have htl := tx_len _ hok
  have hgc := grp_count r X.pr X.se HOK.out.ok.pr ⟨tg, TI, ts, TF⟩ (parP r (Ro.ahd tg X)) (parP r (Ro.bhd tg X))
  have hgn := grp_nb r X.pr X.se ⟨tg, TI, ts, TF⟩ (parP r (Ro.ahd tg X)) (parP r (Ro.bhd tg X))
  dsimp only at hgc
  rw [HK1.out] at hgc
  obtain ⟨L, hL⟩ : ∃ y, y = itm r X.pr X.se ⟨tg, TI, ts, TF⟩ (parP r (Ro.ahd tg X)) (parP r (Ro.bhd tg X)) := ⟨_, rfl⟩
  rw [← hL] at hil hok htl HA5 hgc hgn
  obtain ⟨nL, hnL⟩ : ∃ n, n = L.length := ⟨_, rfl⟩
  have HNL := Lib.hid hnL.symm
  have h3a := hpf.2.2.1
  have h3b := hpf.2.2.2
  have hnb : nL ≤ 41 := by omega
  have htb : (txI L).length ≤ 1000000 := by rw [← hnL] at htl; omega
  have HTB := Lib.hid htb
  have HOT := Lib.hid hok
  obtain ⟨vA, vC, rfl, _, _⟩ := HA5.out.form0 HNL.out
  clear hil htl hok hpf h3a h3b htb hnL hL
  have HGN := Lib.hid (fun i (h : i < nL) (h3 : Im.tg L i = 3) => hgn i (by rw [HNL.out]; exact h) h3)
  have HCS := Lib.hid (fun k (h : k < nL) => cnt_take gpB L k (by rw [HNL.out]; exact h))
  have HCL := Lib.hid (cnt_le gpB L)
  have HCE := Lib.hid (show (((L.take nL).countP gpB : Nat) : Int) = grp k1 X.pr X.se by rw [← HNL.out, List.take_length]; exact hgc)
  have HC0 := Lib.hid (show (L.take 0).countP gpB = 0 from rfl)
  have HGR := Lib.hid (fun u => It.groups_any (k1 : Int) X.pr X.se u (by omega) (by omega) (by have := HOK.out.se.2; omega))
  have HV := Lib.hid (fun u (q : Q w5 u) k (h : k < nL) => (HA5.out.q q).cellOf HNL.out h)
  have HTE := Lib.hid (show ∀ k, k < nL → (L.map (·.1)).getD k 0 = (L.getD k e0).1 from fun k h => by
    rw [List.getD_eq_getElem?_getD, List.getD_eq_getElem?_getD, List.getElem?_map, List.getElem?_eq_getElem (by rw [HNL.out]; exact h)]
    rfl)
  have HTL := Lib.hid (show (L.map (·.1)).length = nL by rw [List.length_map, HNL.out])
  clear hgc hgn
  go_wp2_with fail
  refine (tags_any _ L _ HA5.out (by rw [HNL.out]; omega)).mono ?_
  rintro e w6 ⟨tv, rfl, ht6, hq6⟩
  have HT6 := Lib.hid ht6.lst
  have HQ6 := Lib.hid (HQ5.out.trans hq6)
  have HQ56 := Lib.hid hq6
  obtain ⟨tA, tC, rfl, htc1, htc2⟩ := ht6.lst.form0 HTL.out
  clear ht6 hq6
  have HTV := Lib.hid (fun u (q : Q w6 u) k (h : k < nL) => (HT6.out.q q).cellOf HTL.out h)
  unfold maxLen at htc2
  go_wp2_with fail
  go_loopw [12, 13] (fun m i wr => ∃ k : Nat, m = .int .i64 ((L.take k).countP gpB : Nat) ∧ i = .int .i64 k ∧ k ≤ nL ∧ Q w6 wr) (fun _ i _ => nL - (intOf i).toNat)
  case atStart => exact ⟨0, by rw [HC0.out]; rfl, rfl, by omega, Q.refl _⟩
  case round =>
    obtain ⟨k, rfl, rfl, hk, hq⟩ := hrel
    have hcl := HCL.out k
    by_cases hlt : k < nL
    · obtain ⟨gg, off, cap, hvv, hg, _, hcap, c1', c2', c3'⟩ := HV.out wr (HQ56.out.trans hq) k hlt
      cases hvv
      unfold maxLen at hcap
      obtain ⟨hh, hoff, hcap2, hvv, hhg, _, hhc, t1'⟩ := HTV.out wr hq k hlt
      cases hvv
      rw [HTE.out k hlt] at t1'
      have hgn := HGN.out k hlt
      have hcs := HCS.out k hlt
      have HTN := Lib.hid (fun u (q : Q w6 u) j (h : j < nL) => show u.cell? ⟨hh, hoff + j, none⟩ = some (.int .i64 (Im.tg L j)) by
        obtain ⟨_, _, _, h1, _, _, _, h2⟩ := HTV.out u q j h
        cases h1
        rw [HTE.out j h] at h2
        exact h2)
      have HTG := Lib.hid (show Im.tg L k = (L.getD k e0).1 from rfl)
      rw [HTG.out] at hgn
      generalize L.getD k e0 = x at *
      obtain ⟨xa, xt, xb⟩ := x
      dsimp only at c1' c2' c3' t1' hcs hgn
      obtain ⟨c, hc⟩ : ∃ c, c = (L.take k).countP gpB := ⟨_, rfl⟩
      rw [← hc] at hcs hcl ⊢
      clear hc c2' c3' HTG
      have HQ := Lib.hid hq
      have hxx : (xa == xa) = true := by simp
      clear hq
      by_cases h3 : xa = 3
      · subst h3
        obtain ⟨hp0, hp1, hp2, hp3⟩ := hgn rfl
        have hp1 : k + 1 < nL := by rw [HNL.out] at hp1; exact hp1
        obtain ⟨j, rfl⟩ : ∃ j, k = j + 1 := ⟨k - 1, by omega⟩
        rw [show j + 1 - 1 = j from by omega] at hp2
        have HK2 := Lib.hid (show (L.take (j + 1 + 1)).countP gpB = c + 1 by rw [hcs]; rfl)
        obtain ⟨q0, hq0⟩ : ∃ q, q = j + 1 - 1 := ⟨_, rfl⟩
        have hn1 : (j + 1 : Int) ≠ 0 := by omega
        have t0' := HTN.out _ HQ.out j (by omega)
        have t2' := HTN.out _ HQ.out (j + 1 + 1) hp1
        rw [hp2] at t0'
        rw [hp3] at t2'
        have hm1 : ¬ ((j : Int) < 0) := by omega
        have hm2 : (0 : Int) ≤ (j : Int) := by omega
        have hm3 : ((j : Int) + 1 + 1) ≤ (nL : Int) - 1 := by omega
        have hmn : min ((j : Int) + 1 + 1) ((nL : Int) - 1) = (j : Int) + 1 + 1 := by omega
        have hm6 : ((j : Int) + 1 + 1).toNat = j + 1 + 1 := by omega
        have hm4 : ((j : Int) + 1 == 0) = false := by rw [beq_eq_false_iff_ne]; omega
        have hm5 : ((j : Int) + 1 == (nL : Int) - 1) = false := by rw [beq_eq_false_iff_ne]; omega
        clear hcs hgn hp2 hp3 hq0 hn1
        go_wp2_with fail
        go_quiet (fail)
        go_wp2_with fail
        exact ⟨⟨j + 1 + 1, by rw [HK2.out]; go_num, by go_num, by omega, HQ.out.drewN _⟩, by simp [intOf]; omega⟩
      · have h3b : (xa == 3) = false := by rw [beq_eq_false_iff_ne]; exact h3
        have HK2 := Lib.hid (show (L.take (k + 1)).countP gpB = c by rw [hcs]; unfold gpB; dsimp only; rw [h3b]; simp)
        clear hcs hgn
        go_wp2_with fail
        go_quiet (fail)
        go_wp2_with fail
        exact ⟨⟨k + 1, by rw [HK2.out]; try rfl, by go_num, by omega, HQ.out.drewN _⟩, by simp [intOf]; omega⟩
    · obtain rfl : k = nL := by omega
      have HQF := Lib.hid (HQ6.out.trans hq)
      have x1 := (HOX5.out.q (HQ56.out.trans hq)).cell 1 rfl
      have y12 := (HLX5.out.q (HQ56.out.trans hq)).cell 12 rfl
      have y13 := (HLX5.out.q (HQ56.out.trans hq)).cell 13 rfl
      have HCE2 := HCE
      obtain ⟨c, hc⟩ : ∃ c, c = (L.take k).countP gpB := ⟨_, rfl⟩
      rw [← hc] at HCE2 hcl ⊢
      rw [← HCE2.out] at HGR
      clear hq hc
      go_wp2_with fail
      refine (HGR.out _).mono ?_
      rintro e wa ⟨rfl, rfl⟩
      clear x1 y12 y13
      go_wp2_with fail
      refine (It.lives_any _).mono ?_
      rintro e wb ⟨rfl, rfl⟩
      go_wp2_with fail
      go_ret
      exact ⟨rfl, HQF.out⟩
end It
end Go.Proofs.YtnlfeamhedihpaaGreatDoor
