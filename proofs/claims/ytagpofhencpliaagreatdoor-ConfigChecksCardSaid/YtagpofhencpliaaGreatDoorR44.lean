/- The program's config: values refused, and numbers some steps farther. (and more) -/
import Derived.Test.YtagpofhencpliaaGreatDoorR00
import Derived.Test.YtagpofhencpliaaGreatDoorR04
import Derived.Test.YtagpofhencpliaaGreatDoorR22
import Derived.Test.YtagpofhencpliaaGreatDoorR21
import Derived.Test.YtagpofhencpliaaGreatDoorR28
import Derived.Test.YtagpofhencpliaaGreatDoorR29
import Derived.Test.YtagpofhencpliaaGreatDoorR19
import Derived.Test.YtagpofhencpliaaGreatDoorR14
import Derived.Test.YtagpofhencpliaaGreatDoorR24
import Derived.Test.YtagpofhencpliaaGreatDoorR31
import Derived.Test.YtagpofhencpliaaGreatDoorR02
import Derived.Test.YtagpofhencpliaaGreatDoorR15
import Derived.Test.YtagpofhencpliaaGreatDoorR10
import Derived.Test.YtagpofhencpliaaGreatDoorR13
import Derived.Test.YtagpofhencpliaaGreatDoorR09
import Derived.Test.YtagpofhencpliaaGreatDoorR05
import Derived.Test.YtagpofhencpliaaGreatDoorR08
import Derived.Test.YtagpofhencpliaaGreatDoorR34
import Derived.Test.YtagpofhencpliaaGreatDoorR43
import Derived.Test.YtagpofhencpliaaGreatDoorR39
import Derived.Test.YtagpofhencpliaaGreatDoorR42
import Derived.Test.YtagpofhencpliaaGreatDoorR03
import Derived.Test.YtagpofhencpliaaGreatDoorRows
import Derived.Deep.Cut
import Derived.Deep.QuietTactic
import Derived.Deep.RegionWith
import Derived.Deep.RegionHeld3
import Derived.BigQuiet
import Derived.Laws.ResultCell
import Derived.Deep.CutRange
import Derived.Deep.CutBlock
import Derived.Deep.DeepCutAuto
set_option linter.unusedVariables false
set_option linter.unusedSimpArgs false
namespace Go.Proofs.YtagpofhencpliaaGreatDoor
open Go.RowKit
namespace Kp
open Er (dv LF LF.of LF.nil LF.mono LF.q LF.put LF.shape LF.lst)
theorem times_all (g : Bool) (v : Value) (s : Nat) (k : Int) (L : List Int) (w : World) (hv : Lst w v L) (hl : L.length < 100000) (hd : Dm.okD L) (hs : s ≤ 1000) (hk : -1000 ≤ k ∧ k ≤ 1000) (X : Km.De) (hX : X = Km.tms ⟨g, Dm.num L, s⟩ k) :
    Calls Tryz.prog 61 #[dv g v s, .int .i64 k] w fun e w' => ∃ u, e = .returned (.tuple #[dv X.g u (X.s : Nat), .int .i64 0]) ∧ Lst w' u (Dm.dg X.m) ∧ Q w w' := by
  subst hX
  unfold Km.tms
  by_cases h0 : k < 0
  · simp only [if_pos h0]
    have h := Ep.times_neg g v s k.natAbs L w hv hl hd hs (by omega) (by omega)
    rw [show (-((k.natAbs : Nat) : Int)) = k by omega] at h
    refine h.mono ?_
    rintro e w' ⟨u, rfl, hu, hq⟩
    exact ⟨u, rfl, hu.lst, hq⟩
  · simp only [if_neg h0]
    have h := Ep.times_pos g v s k.natAbs L w hv hl hd hs (by omega)
    rw [show ((k.natAbs : Nat) : Int) = k by omega] at h
    refine h.mono ?_
    rintro e w' ⟨u, rfl, hu, hq⟩
    exact ⟨u, rfl, hu.lst, hq⟩
theorem add_all (g h : Bool) (va vb : Value) (s t : Nat) (xs ys : List Int) (w : World) (hv : Lst w va xs) (hu : Lst w vb ys) (hl : xs.length < 10000) (hl2 : ys.length < 10000) (hx : Dm.okD xs) (hy : Dm.okD ys) (hs : s ≤ 1000) (ht : t ≤ 1000) (X : Km.De) (hX : X = Km.add ⟨g, Dm.num xs, s⟩ ⟨h, Dm.num ys, t⟩) :
    Calls Tryz.prog 62 #[dv g va s, dv h vb t] w fun e w' => ∃ u, e = .returned (.tuple #[dv X.g u (X.s : Nat), .int .i64 0]) ∧ Lst w' u (Dm.dg X.m) ∧ Q w w' := by
  subst hX
  refine (Ep.add_any g h va vb s t xs ys w hv hu hl hl2 hx hy hs ht).mono ?_
  rintro e w' ⟨u, rfl, hu, hq⟩
  exact ⟨u, rfl, hu.lst, hq⟩
set_option maxRecDepth 100000 in
set_option maxHeartbeats 8000000 in
theorem move_any (g1 g2 g3 sg g : Bool) (v1 v2 v3 v : Value) (s1 s2 s3 s n : Nat) (i0 i1 i3 i4 m i6 k : Int) (L1 L2 L3 L : List Int) (w : World) (h1 : Lst w v1 L1) (h2 : Lst w v2 L2) (h3 : Lst w v3 L3) (hv : Lst w v L)
    (hl1 : L1.length < 10000) (hl2 : L2.length < 10000) (hl3 : L3.length < 400) (hl : L.length < 500) (hd1 : Dm.okD L1) (hd2 : Dm.okD L2) (hd3 : Dm.okD L3) (hd : Dm.okD L) (hs1 : s1 ≤ 1000) (hs2 : s2 ≤ 1000) (hs3 : s3 ≤ 1000) (hs : s ≤ 1000) (hn : n ≤ 1000) (hm : 0 ≤ m ∧ m ≤ 6) (hk : -1000 ≤ k ∧ k ≤ 1000)
    (hlt : ¬ 0 < Dm.cmpD g1 (Dm.num L1) s1 g2 (Dm.num L2) s2) (V : Km.De) (hV : V = Km.mov ⟨g1, Dm.num L1, s1⟩ ⟨g2, Dm.num L2, s2⟩ ⟨g3, Dm.num L3, s3⟩ n m ⟨g, Dm.num L, s⟩ k) :
    Calls Tryz.prog 36 #[Kr.rul g1 g2 g3 sg v1 v2 v3 s1 s2 s3 i0 i1 (n : Nat) i3 i4 m i6, dv g v s, .int .i64 k] w fun e w' => ∃ u, e = .returned (.tuple #[dv V.g u (V.s : Nat), .int .i64 0]) ∧ LF w' w.heap.size u (Dm.dg V.m) ∧ Q w w' := by
  have hM0 : (Dm.okB L && decide (0 ≤ (s : Int)) && decide ((s : Int) ≤ 1000)) = true := by
    rw [(Dm.okB_iff L).2 hd, decide_eq_true (show (0 : Int) ≤ (s : Int) by omega), decide_eq_true (show (s : Int) ≤ 1000 by omega)]; rfl
  have HM := Lib.hid (fun u (q : Q w u) => Ep.may_any g v s L u (hv.q q) (by omega) (by omega))
  rw [hM0] at HM
  obtain ⟨F, hF⟩ : ∃ F, F = Km.tms ⟨g3, Dm.num L3, s3⟩ k := ⟨_, rfl⟩
  have hFl : (Dm.dg F.m).length < 500 := by rw [hF]; have := Kr.tms_len s3 k L3 hd3 hk; show (Dm.dg (Dm.st (Dm.num L3 * k.natAbs) s3).1).length < 500; omega
  have hFs : F.s ≤ 1000 := by rw [hF]; have := Dm.st_le (Dm.num L3 * k.natAbs) s3; show (Dm.st (Dm.num L3 * k.natAbs) s3).2 ≤ 1000; omega
  have hFd := Dm.okD_dg F.m
  have hFn := Dm.num_dg F.m
  have HT := Lib.hid (fun u (q : Q w u) => times_all g3 v3 s3 k L3 u (h3.q q) (by omega) hd3 hs3 hk F hF)
  obtain ⟨X, hX⟩ : ∃ X, X = Km.add ⟨g, Dm.num L, s⟩ F := ⟨_, rfl⟩
  have hX2 : X = Km.add ⟨g, Dm.num L, s⟩ ⟨F.g, Dm.num (Dm.dg F.m), F.s⟩ := by rw [hFn]; exact hX
  have hXl : (Dm.dg X.m).length < 1900 := by rw [hX2]; exact Kr.ad_len2 g F.g s F.s (max s F.s) L (Dm.dg F.m) hd hFd hl hFl (by omega)
  have hXs : X.s ≤ 1000 := by rw [hX2]; have := Dm.st_le (Km.adN ⟨g, Dm.num L, s⟩ ⟨F.g, Dm.num (Dm.dg F.m), F.s⟩) (max s F.s); show (Dm.st (Km.adN ⟨g, Dm.num L, s⟩ ⟨F.g, Dm.num (Dm.dg F.m), F.s⟩) (max s F.s)).2 ≤ 1000; omega
  have HAD := Lib.hid (fun u fv (q : Q w u) (hf : Lst u fv (Dm.dg F.m)) => add_all g F.g v fv s F.s L (Dm.dg F.m) u (hv.q q) hf (by omega) (by omega) hd hFd hs hFs X hX2)
  have hXd := Dm.okD_dg X.m
  have hXn := Dm.num_dg X.m
  have hV2 : V = Km.val ⟨g1, Dm.num L1, s1⟩ ⟨g2, Dm.num L2, s2⟩ n m ⟨X.g, Dm.num (Dm.dg X.m), X.s⟩ := by rw [hXn, hX, hF]; exact hV.trans (by unfold Km.mov; rfl)
  have HVA := Lib.hid (fun u xv (q : Q w u) (hx : Lst u xv (Dm.dg X.m)) => value_any g1 g2 g3 sg X.g v1 v2 v3 xv s1 s2 X.s n s3 i0 i1 i3 i4 m i6 L1 L2 (Dm.dg X.m) u (h1.q q) (h2.q q) hx hl1 hl2 hXl hd1 hd2 hXd hs1 hs2 hXs hn hm hlt V hV2)
  obtain ⟨a, c, rfl⟩ := hv.shape
  obtain ⟨a1, c1, rfl⟩ := h1.shape
  obtain ⟨a2, c2, rfl⟩ := h2.shape
  obtain ⟨a3, c3, rfl⟩ := h3.shape
  clear hl hd hs hv hl1 hl2 hl3 hd1 hd2 hd3 hs1 hs2 hs3 h1 h2 h3 hk hlt hV hV2 hXn hXd hXs hXl hX2 hX hFn hFd hFs hFl hF hM0 hn hm
  generalize L.length = lL at *
  generalize L1.length = n1 at *
  generalize L2.length = n2 at *
  generalize L3.length = n3 at *
  unfold dv at HM HT HAD HVA ⊢
  obtain ⟨y1, hy1⟩ : ∃ y, y = w.alloc (.cells #[.bool g1, .slice a1 n1 c1, .int .i64 s1, .bool g2, .slice a2 n2 c2, .int .i64 s2, .bool g3, .slice a3 n3 c3, .int .i64 s3, .bool sg, .int .i64 i0, .int .i64 i1, .int .i64 n, .int .i64 i3, .int .i64 i4, .int .i64 m, .int .i64 i6] 39) := ⟨_, rfl⟩
  have hQ1 : Q w y1 := by rw [hy1]; exact (Q.refl w).alloc _
  have hb1 : Bk y1 w.heap.size 39 [.bool g1, .slice a1 n1 c1, .int .i64 s1, .bool g2, .slice a2 n2 c2, .int .i64 s2, .bool g3, .slice a3 n3 c3, .int .i64 s3, .bool sg, .int .i64 i0, .int .i64 i1, .int .i64 n, .int .i64 i3, .int .i64 i4, .int .i64 m, .int .i64 i6] := by rw [hy1]; exact Bk.new _ _ _
  have hs1 : y1.heap.size = w.heap.size + 1 := by rw [hy1]; simp
  obtain ⟨y2, hy2⟩ : ∃ y, y = y1.alloc (.cells #[.bool g, .slice a lL c, .int .i64 s] 36) := ⟨_, rfl⟩
  have hq2 : Q y1 y2 := by rw [hy2]; exact (Q.refl y1).alloc _
  have hb2 : Bk y2 (w.heap.size + 1) 36 [.bool g, .slice a lL c, .int .i64 s] := by rw [hy2, ← hs1]; exact Bk.new _ _ _
  have hs2 : y2.heap.size = w.heap.size + 1 + 1 := by rw [hy2]; simp; omega
  obtain ⟨z, hz⟩ : ∃ y, y = y2.alloc (.cells #[.bool false, .slice none 0 0, .int .i64 0] 36) := ⟨_, rfl⟩
  have hq3 : Q y2 z := by rw [hz]; exact (Q.refl y2).alloc _
  have hb3 : Bk z (w.heap.size + 1 + 1) 36 [.bool false, .slice none 0 0, .int .i64 0] := by rw [hz, ← hs2]; exact Bk.new _ _ _
  have HQZ := Lib.hid (show Q w z from hQ1.trans (hq2.trans hq3))
  have HR := Lib.hid (hb1.q (hq2.trans hq3))
  have hd := hb2.q hq3
  have HO := Lib.hid hb3
  have HDX := Lib.hid hd
  have d0 := hd.cell 0 rfl
  have d1 := hd.cell 1 rfl
  have d2 := hd.cell 2 rfl
  go_enter Tryz.func36, Tryz.ntmps36
  go_upto_region 1 with fail
  first | rw [← hy1, ← hy2, ← hz] | (rw [hy1] at hy2; rw [hy2] at hz; rw [← hz])
  clear hQ1 hb1 hy1 hs1 hq2 hb2 hs2 hy2 hz hq3 hb3 hd
  go_wp2_with fail
  refine (HM.out _ HQZ.out).mono ?_
  rintro e w1 ⟨rfl, hq1⟩
  have HQ1 := Lib.hid (HQZ.out.trans hq1)
  have hr := HR.out.q hq1
  have r6 := hr.cell 6 rfl
  have r7 := hr.cell 7 rfl
  have r8 := hr.cell 8 rfl
  replace HR := Lib.hid hr
  have HO1 := Lib.hid (HO.out.q hq1)
  have HDB := Lib.hid ((show Bk z (w.heap.size + 1) 36 [.bool g, .slice a lL c, .int .i64 s] from HDX.out).q hq1)
  clear hq1 hr d0 d1 d2
  go_wp2_with fail
  refine (HT.out _ HQ1.out).mono ?_
  rintro e w2 ⟨fv, rfl, hf, hq2⟩
  obtain ⟨fa, fc, rfl⟩ := hf.shape
  obtain ⟨W2, hW2⟩ : ∃ y, y = w2.alloc (.cells #[.bool F.g, .slice fa (Dm.dg F.m).length fc, .int .i64 (F.s : Nat)] 36) := ⟨_, rfl⟩
  have hqb : Q w2 W2 := by rw [hW2]; exact (Q.refl w2).alloc _
  have hqa : Q w1 W2 := hq2.trans hqb
  have HQ2 := Lib.hid (HQ1.out.trans hqa)
  have hbf : Bk W2 w2.heap.size 36 [.bool F.g, .slice fa (Dm.dg F.m).length fc, .int .i64 (F.s : Nat)] := by rw [hW2]; exact Bk.new _ _ _
  have HFL := Lib.hid (hf.q hqb)
  replace HR := Lib.hid (HR.out.q hqa)
  replace HO1 := Lib.hid (HO1.out.q hqa)
  have hdb := HDB.out.q hqa
  obtain ⟨bF, hbF⟩ : ∃ b, b = w2.heap.size := ⟨_, rfl⟩
  rw [← hbF] at hbf
  clear hq2 hqa hqb hf r6 r7 r8 HDB
  go_upto_region 4 with fail
  rw [← hW2, ← hbF]
  clear hW2 hbF
  have x0 := hbf.cell 0 rfl
  have x1 := hbf.cell 1 rfl
  have x2 := hbf.cell 2 rfl
  have d0 := hdb.cell 0 rfl
  have d1 := hdb.cell 1 rfl
  have d2 := hdb.cell 2 rfl
  clear hbf hdb
  go_wp2_with fail
  refine (HAD.out _ _ HQ2.out HFL.out).mono ?_
  rintro e w4 ⟨xv, rfl, hx, hq4⟩
  obtain ⟨xa, xc, rfl⟩ := hx.shape
  obtain ⟨W4, hW4⟩ : ∃ y, y = w4.alloc (.cells #[.bool X.g, .slice xa (Dm.dg X.m).length xc, .int .i64 (X.s : Nat)] 36) := ⟨_, rfl⟩
  have hqb : Q w4 W4 := by rw [hW4]; exact (Q.refl w4).alloc _
  have hqa : Q W2 W4 := hq4.trans hqb
  have HQ4 := Lib.hid (HQ2.out.trans hqa)
  have hbx : Bk W4 w4.heap.size 36 [.bool X.g, .slice xa (Dm.dg X.m).length xc, .int .i64 (X.s : Nat)] := by rw [hW4]; exact Bk.new _ _ _
  have HXL := Lib.hid (hx.q hqb)
  have hr := HR.out.q hqa
  replace HO1 := Lib.hid (HO1.out.q hqa)
  obtain ⟨bX, hbX⟩ : ∃ b, b = w4.heap.size := ⟨_, rfl⟩
  rw [← hbX] at hbx
  clear hq4 hqa hqb hx x0 x1 x2 d0 d1 d2
  go_upto_region 7 with fail
  rw [← hW4, ← hbX]
  clear hW4 hbX
  have x0 := hbx.cell 0 rfl
  have x1 := hbx.cell 1 rfl
  have x2 := hbx.cell 2 rfl
  have r0 := hr.cell 0 rfl
  have r1 := hr.cell 1 rfl
  have r2 := hr.cell 2 rfl
  have r3 := hr.cell 3 rfl
  have r4 := hr.cell 4 rfl
  have r5 := hr.cell 5 rfl
  have r6 := hr.cell 6 rfl
  have r7 := hr.cell 7 rfl
  have r8 := hr.cell 8 rfl
  have r9 := hr.cell 9 rfl
  have r10 := hr.cell 10 rfl
  have r11 := hr.cell 11 rfl
  have r12 := hr.cell 12 rfl
  have r13 := hr.cell 13 rfl
  have r14 := hr.cell 14 rfl
  have r15 := hr.cell 15 rfl
  have r16 := hr.cell 16 rfl
  clear hbx hr
  go_wp2_with fail
  refine (HVA.out _ _ HQ4.out HXL.out).mono ?_
  rintro e w5 ⟨u, rfl, hu, hq5⟩
  have HQ2 := Lib.hid (HQ4.out.trans hq5)
  have hW1 : w.heap.size + 1 + 1 < W4.heap.size := Bk.lt HO1.out
  have ho := HO1.out.q hq5
  obtain ⟨ua, uc, rfl⟩ := hu.shape
  have HU := Lib.hid hu
  have p0 := ho.cell 0 rfl
  have p1 := ho.cell 1 rfl
  have p2 := ho.cell 2 rfl
  have f0 := ho.free 0
  have f1 := ho.free 1
  have f2 := ho.free 2
  have HO3 := Lib.hid (show Bk _ (w.heap.size + 1 + 1) 36 [.bool V.g, .slice ua (Dm.dg V.m).length uc, .int .i64 ((V.s : Nat))] from ((ho.set 0 (.bool V.g)).set 1 (.slice ua (Dm.dg V.m).length uc)).set 2 (.int .i64 ((V.s : Nat))))
  have HQ3 := Lib.hid (((HQ2.out.setCell (ad := ⟨w.heap.size + 1 + 1, 0, none⟩) (by show w.heap.size ≤ w.heap.size + 1 + 1; omega) (.bool V.g)).setCell (ad := ⟨w.heap.size + 1 + 1, 1, none⟩) (by show w.heap.size ≤ w.heap.size + 1 + 1; omega) (.slice ua (Dm.dg V.m).length uc)).setCell (ad := ⟨w.heap.size + 1 + 1, 2, none⟩) (by show w.heap.size ≤ w.heap.size + 1 + 1; omega) (.int .i64 ((V.s : Nat))))
  clear ho
  clear hq5 hu
  go_wp2_with fail
  refine Ep.ret_dv2 (b := V.g) (v := .slice ua (Dm.dg V.m).length uc) (s := (V.s : Nat)) rfl rfl rfl HO3.out rfl ⟨_, rfl, ?_, HQ3.out⟩
  exact (HU.out.put hW1 _ _ _).mono (by omega)
end Kp
end Go.Proofs.YtagpofhencpliaaGreatDoor
