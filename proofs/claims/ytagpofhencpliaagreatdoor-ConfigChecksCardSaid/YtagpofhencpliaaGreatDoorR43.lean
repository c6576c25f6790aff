/- The program's config: what a number's value is. (and more) -/
import Derived.Test.YtagpofhencpliaaGreatDoorR00
import Derived.Test.YtagpofhencpliaaGreatDoorR04
import Derived.Test.YtagpofhencpliaaGreatDoorR22
import Derived.Test.YtagpofhencpliaaGreatDoorR21
import Derived.Test.YtagpofhencpliaaGreatDoorR28
import Derived.Test.YtagpofhencpliaaGreatDoorR19
import Derived.Test.YtagpofhencpliaaGreatDoorR14
import Derived.Test.YtagpofhencpliaaGreatDoorR02
import Derived.Test.YtagpofhencpliaaGreatDoorR15
import Derived.Test.YtagpofhencpliaaGreatDoorR10
import Derived.Test.YtagpofhencpliaaGreatDoorR13
import Derived.Test.YtagpofhencpliaaGreatDoorR09
import Derived.Test.YtagpofhencpliaaGreatDoorR05
import Derived.Test.YtagpofhencpliaaGreatDoorR08
import Derived.Test.YtagpofhencpliaaGreatDoorR34
import Derived.Test.YtagpofhencpliaaGreatDoorR39
import Derived.Test.YtagpofhencpliaaGreatDoorR42
import Derived.Test.YtagpofhencpliaaGreatDoorR03
import Derived.Test.YtagpofhencpliaaGreatDoorRows
import Derived.Deep.Cut
import Derived.Deep.QuietTactic
import Derived.Deep.RegionWith
import Derived.Deep.RegionHeld3
import Derived.BigQuiet
import Derived.Laws.ResultCell
import Derived.Deep.CutRange
import Derived.Deep.CutBlock
import Derived.Deep.DeepCutAuto
set_option linter.unusedVariables false
set_option linter.unusedSimpArgs false
namespace Go.Proofs.YtagpofhencpliaaGreatDoor
open Go.RowKit
namespace Kp
open Er (dv LF LF.of LF.nil LF.mono LF.q LF.put LF.shape LF.lst)
theorem clamp_any (g0 g1 g2 : Bool) (v0 v1 v2 : Value) (s0 s1 s2 : Nat) (L0 L1 L2 : List Int) (w : World) (h0 : Lst w v0 L0) (h1 : Lst w v1 L1) (h2 : Lst w v2 L2) (hl0 : L0.length < 10000) (hl1 : L1.length < 10000) (hl2 : L2.length < 10000) (hd0 : Dm.okD L0) (hd1 : Dm.okD L1) (hd2 : Dm.okD L2) (hs0 : s0 ≤ 1000) (hs1 : s1 ≤ 1000) (hs2 : s2 ≤ 1000) (hk : ¬ 0 < Dm.cmpD g1 (Dm.num L1) s1 g2 (Dm.num L2) s2) (V : Km.De) (hV : V = Km.clp ⟨g0, Dm.num L0, s0⟩ ⟨g1, Dm.num L1, s1⟩ ⟨g2, Dm.num L2, s2⟩) :
    Calls Tryz.prog 60 #[dv g0 v0 s0, dv g1 v1 s1, dv g2 v2 s2] w fun e w' => ∃ u, e = .returned (.tuple #[dv V.g u (V.s : Nat), .int .i64 0]) ∧ LF w' w.heap.size u (Dm.dg V.m) ∧ Q w w' := by
  subst hV
  unfold Km.clp
  by_cases c1 : Km.cmp ⟨g0, Dm.num L0, s0⟩ ⟨g1, Dm.num L1, s1⟩ < 0
  · rw [if_pos c1]
    refine (Rq.clamp_low g0 g1 g2 v0 v1 v2 s0 s1 s2 L0 L1 L2 w h0 h1 h2 hl0 hl1 hl2 hd0 hd1 hd2 hs0 hs1 hs2 hk c1).mono ?_
    rintro e w' ⟨u, rfl, hu, hq⟩
    exact ⟨u, rfl, hu.mono (by omega), hq⟩
  · rw [if_neg c1]
    by_cases c2 : 0 < Km.cmp ⟨g0, Dm.num L0, s0⟩ ⟨g2, Dm.num L2, s2⟩
    · rw [if_pos c2]
      refine (Rq.clamp_high g0 g1 g2 v0 v1 v2 s0 s1 s2 L0 L1 L2 w h0 h1 h2 hl0 hl1 hl2 hd0 hd1 hd2 hs0 hs1 hs2 hk c1 c2).mono ?_
      rintro e w' ⟨u, rfl, hu, hq⟩
      exact ⟨u, rfl, hu.mono (by omega), hq⟩
    · rw [if_neg c2]
      refine (Rq.clamp_mid g0 g1 g2 v0 v1 v2 s0 s1 s2 L0 L1 L2 w h0 h1 h2 hl0 hl1 hl2 hd0 hd1 hd2 hs0 hs1 hs2 hk c1 c2).mono ?_
      rintro e w' ⟨u, rfl, hu, hq⟩
      exact ⟨u, rfl, hu.mono (by omega), hq⟩
set_option maxRecDepth 100000 in
set_option maxHeartbeats 4000000 in
theorem value_any (g1 g2 g3 sg g : Bool) (v1 v2 v3 v : Value) (s1 s2 s n : Nat) (s3 i0 i1 i3 i4 m i6 : Int) (L1 L2 L : List Int) (w : World) (h1 : Lst w v1 L1) (h2 : Lst w v2 L2) (hv : Lst w v L)
    (hl1 : L1.length < 10000) (hl2 : L2.length < 10000) (hl : L.length < 1900) (hd1 : Dm.okD L1) (hd2 : Dm.okD L2) (hd : Dm.okD L) (hs1 : s1 ≤ 1000) (hs2 : s2 ≤ 1000) (hs : s ≤ 1000) (hn : n ≤ 1000) (hm : 0 ≤ m ∧ m ≤ 6)
    (hk : ¬ 0 < Dm.cmpD g1 (Dm.num L1) s1 g2 (Dm.num L2) s2) (V : Km.De) (hV : V = Km.val ⟨g1, Dm.num L1, s1⟩ ⟨g2, Dm.num L2, s2⟩ n m ⟨g, Dm.num L, s⟩) :
    Calls Tryz.prog 35 #[Kr.rul g1 g2 g3 sg v1 v2 v3 s1 s2 s3 i0 i1 (n : Nat) i3 i4 m i6, dv g v s] w fun e w' => ∃ u, e = .returned (.tuple #[dv V.g u (V.s : Nat), .int .i64 0]) ∧ LF w' w.heap.size u (Dm.dg V.m) ∧ Q w w' := by
  have hrl := Kr.rk_len g s n m L hl hd hn
  have HT := Lib.hid (fun u (q : Q w u) => Rq.to_any g v s n m L u (hv.q q) (by omega) hd hs hn hm)
  have hV2 : V = Km.clp (Km.rnd ⟨g, Dm.num L, s⟩ n m) ⟨g1, Dm.num L1, s1⟩ ⟨g2, Dm.num L2, s2⟩ := hV
  have hrd : Km.rnd ⟨g, Dm.num L, s⟩ n m = ⟨Dm.cg g (Rm.rk g (Dm.st (Dm.num L) s).1 (Dm.st (Dm.num L) s).2 n m), Rm.rk g (Dm.st (Dm.num L) s).1 (Dm.st (Dm.num L) s).2 n m, n⟩ := rfl
  rw [hrd] at hV2
  clear hV hrd
  generalize Rm.rk g (Dm.st (Dm.num L) s).1 (Dm.st (Dm.num L) s).2 n m = rk at *
  generalize Dm.cg g rk = gx at *
  have hdx := Dm.okD_dg rk
  have hnx := Dm.num_dg rk
  rw [← hnx] at hV2
  have HC := Lib.hid (fun u xv (q : Q w u) (hx : Lst u xv (Dm.dg rk)) => clamp_any gx g1 g2 xv v1 v2 n s1 s2 (Dm.dg rk) L1 L2 u hx (h1.q q) (h2.q q) (by omega) hl1 hl2 hdx hd1 hd2 hn hs1 hs2 hk V hV2)
  obtain ⟨a, c, rfl⟩ := hv.shape
  obtain ⟨a1, c1, rfl⟩ := h1.shape
  obtain ⟨a2, c2, rfl⟩ := h2.shape
  obtain ⟨ln, hln⟩ : ∃ k, k = (Dm.dg rk).length := ⟨_, rfl⟩
  have HLN := Lib.hid hln.symm
  clear hln hrl hdx hnx hV2 hk hl1 hl2 hd1 hd2 hl hd
  generalize L.length = lL at *
  generalize L1.length = n1 at *
  generalize L2.length = n2 at *
  unfold dv at HT HC ⊢
  obtain ⟨y1, hy1⟩ : ∃ y, y = w.alloc (.cells #[.bool g1, .slice a1 n1 c1, .int .i64 s1, .bool g2, .slice a2 n2 c2, .int .i64 s2, .bool g3, v3, .int .i64 s3, .bool sg, .int .i64 i0, .int .i64 i1, .int .i64 n, .int .i64 i3, .int .i64 i4, .int .i64 m, .int .i64 i6] 39) := ⟨_, rfl⟩
  have hQ1 : Q w y1 := by rw [hy1]; exact (Q.refl w).alloc _
  have hb1 : Bk y1 w.heap.size 39 [.bool g1, .slice a1 n1 c1, .int .i64 s1, .bool g2, .slice a2 n2 c2, .int .i64 s2, .bool g3, v3, .int .i64 s3, .bool sg, .int .i64 i0, .int .i64 i1, .int .i64 n, .int .i64 i3, .int .i64 i4, .int .i64 m, .int .i64 i6] := by rw [hy1]; exact Bk.new _ _ _
  have hs1 : y1.heap.size = w.heap.size + 1 := by rw [hy1]; simp
  obtain ⟨y2, hy2⟩ : ∃ y, y = y1.alloc (.cells #[.bool g, .slice a lL c, .int .i64 s] 36) := ⟨_, rfl⟩
  have hq2 : Q y1 y2 := by rw [hy2]; exact (Q.refl y1).alloc _
  have hb2 : Bk y2 (w.heap.size + 1) 36 [.bool g, .slice a lL c, .int .i64 s] := by rw [hy2, ← hs1]; exact Bk.new _ _ _
  have hs2 : y2.heap.size = w.heap.size + 1 + 1 := by rw [hy2]; simp; omega
  obtain ⟨z, hz⟩ : ∃ y, y = y2.alloc (.cells #[.bool false, .slice none 0 0, .int .i64 0] 36) := ⟨_, rfl⟩
  have hq3 : Q y2 z := by rw [hz]; exact (Q.refl y2).alloc _
  have hb3 : Bk z (w.heap.size + 1 + 1) 36 [.bool false, .slice none 0 0, .int .i64 0] := by rw [hz, ← hs2]; exact Bk.new _ _ _
  have HQZ := Lib.hid (show Q w z from hQ1.trans (hq2.trans hq3))
  have HR := Lib.hid (hb1.q (hq2.trans hq3))
  have hd := hb2.q hq3
  have HO := Lib.hid hb3
  have d0 := hd.cell 0 rfl
  have d1 := hd.cell 1 rfl
  have d2 := hd.cell 2 rfl
  have r12 := HR.out.cell 12 rfl
  have r15 := HR.out.cell 15 rfl
  go_enter Tryz.func35, Tryz.ntmps35
  go_upto_region 1 with fail
  first | rw [← hy1, ← hy2, ← hz] | (rw [hy1] at hy2; rw [hy2] at hz; rw [← hz])
  clear hQ1 hb1 hy1 hs1 hq2 hb2 hs2 hy2 hz hq3 hb3 hd
  go_wp2_with fail
  refine (HT.out _ HQZ.out).mono ?_
  rintro e w1 ⟨x, rfl, hx, hq1⟩
  have HXL := Lib.hid hx.lst
  obtain ⟨xa, xc, rfl, _, _⟩ := hx.lst.form0 HLN.out
  obtain ⟨W1, hW1⟩ : ∃ y, y = w1.alloc (.cells #[.bool gx, .slice xa ln xc, .int .i64 n] 36) := ⟨_, rfl⟩
  have hqa : Q z W1 := by rw [hW1]; exact hq1.alloc _
  have HQ1 := Lib.hid (HQZ.out.trans hqa)
  have hbx : Bk W1 w1.heap.size 36 [.bool gx, .slice xa ln xc, .int .i64 n] := by rw [hW1]; exact Bk.new _ _ _
  have HX1 := Lib.hid (HXL.out.q (show Q w1 W1 by rw [hW1]; exact (Q.refl w1).alloc _))
  replace HR := Lib.hid (HR.out.q hqa)
  replace HO := Lib.hid (HO.out.q hqa)
  obtain ⟨bX, hbX⟩ : ∃ b, b = w1.heap.size := ⟨_, rfl⟩
  rw [← hbX] at hbx
  clear hx hq1 hqa d0 d1 d2 r12 r15
  go_upto_region 2 with fail
  rw [← hW1, ← hbX]
  clear hW1 hbX
  have x0 := hbx.cell 0 rfl
  have x1 := hbx.cell 1 rfl
  have x2 := hbx.cell 2 rfl
  have r0 := HR.out.cell 0 rfl
  have r1 := HR.out.cell 1 rfl
  have r2 := HR.out.cell 2 rfl
  have r3 := HR.out.cell 3 rfl
  have r4 := HR.out.cell 4 rfl
  have r5 := HR.out.cell 5 rfl
  clear hbx
  go_wp2_with fail
  refine (HC.out _ _ HQ1.out HX1.out).mono ?_
  rintro e w2 ⟨u, rfl, hu, hq2⟩
  have HQ2 := Lib.hid (HQ1.out.trans hq2)
  have ho := HO.out.q hq2
  obtain ⟨ua, uc, rfl⟩ := hu.shape
  have HU := Lib.hid hu
  have hW1 : w.heap.size + 1 + 1 < W1.heap.size := Bk.lt HO.out
  have p0 := ho.cell 0 rfl
  have p1 := ho.cell 1 rfl
  have p2 := ho.cell 2 rfl
  have f0 := ho.free 0
  have f1 := ho.free 1
  have f2 := ho.free 2
  have HO3 := Lib.hid (show Bk _ (w.heap.size + 1 + 1) 36 [.bool V.g, .slice ua (Dm.dg V.m).length uc, .int .i64 (V.s : Nat)] from ((ho.set 0 (.bool V.g)).set 1 (.slice ua (Dm.dg V.m).length uc)).set 2 (.int .i64 (V.s : Nat)))
  have HQ3 := Lib.hid (((HQ2.out.setCell (ad := ⟨w.heap.size + 1 + 1, 0, none⟩) (by show w.heap.size ≤ w.heap.size + 1 + 1; omega) (.bool V.g)).setCell (ad := ⟨w.heap.size + 1 + 1, 1, none⟩) (by show w.heap.size ≤ w.heap.size + 1 + 1; omega) (.slice ua (Dm.dg V.m).length uc)).setCell (ad := ⟨w.heap.size + 1 + 1, 2, none⟩) (by show w.heap.size ≤ w.heap.size + 1 + 1; omega) (.int .i64 (V.s : Nat)))
  clear ho hq2 hu
  go_wp2_with fail
  refine Ep.ret_dv2 (b := V.g) (v := .slice ua (Dm.dg V.m).length uc) (s := (V.s : Nat)) rfl rfl rfl HO3.out rfl ⟨_, rfl, ?_, HQ3.out⟩
  exact (HU.out.put hW1 _ _ _).mono (by omega)
end Kp
end Go.Proofs.YtagpofhencpliaaGreatDoor
