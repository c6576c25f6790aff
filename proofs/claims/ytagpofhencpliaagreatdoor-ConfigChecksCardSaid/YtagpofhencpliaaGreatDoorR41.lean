/- The program's New of whatever configuration. (and more) -/
import Derived.Test.YtagpofhencpliaaGreatDoorR00
import Derived.Test.YtagpofhencpliaaGreatDoorR04
import Derived.Test.YtagpofhencpliaaGreatDoorR22
import Derived.Test.YtagpofhencpliaaGreatDoorR21
import Derived.Test.YtagpofhencpliaaGreatDoorR28
import Derived.Test.YtagpofhencpliaaGreatDoorR14
import Derived.Test.YtagpofhencpliaaGreatDoorR08
import Derived.Test.YtagpofhencpliaaGreatDoorR02
import Derived.Test.YtagpofhencpliaaGreatDoorR10
import Derived.Test.YtagpofhencpliaaGreatDoorR13
import Derived.Test.YtagpofhencpliaaGreatDoorR40
import Derived.Test.YtagpofhencpliaaGreatDoorR35
import Derived.Test.YtagpofhencpliaaGreatDoorR34
import Derived.Test.YtagpofhencpliaaGreatDoorR39
import Derived.Test.YtagpofhencpliaaGreatDoorR03
import Derived.Test.YtagpofhencpliaaGreatDoorRows
import Derived.Deep.Cut
import Derived.Deep.RegionHeld
import Derived.Deep.QuietTactic
import Derived.BigQuiet
set_option linter.unusedVariables false
set_option linter.unusedSimpArgs false
namespace Go.Proofs.YtagpofhencpliaaGreatDoor
open Go.RowKit
namespace Kp
open Er (dv LF LF.of LF.nil LF.mono LF.q LF.put LF.shape LF.lst)
open Kr (SB SB.of SB.set SB.bk SB.cell Tri Tri.sb rul)
theorem infoRp : (Tryz.prog.info? 39).map (·.size) = some 17 := by kernel_rfl
theorem ret_rt {fn : Func} {p x : Tmp} {T : TypeId} (h : fn.results = #[.cell p T, .tmp x]) {R : Ending → World → Prop} {a : Act} {w : World} {g : Nat} {l : List Value} {u : Value} {fs : _}
    (hu : Tryz.prog.underlying T = some (.struct fs)) (hi : (Tryz.prog.info? T).map (·.size) = some l.length)
    (hp : a.tmps.getD p undef = .pointer (some ⟨g, 0, none⟩)) (hx : a.tmps.getD x undef = u) (hg : Bk w g T l) (hdf : a.defers = []) (hR : R (.returned (.tuple #[.agg l.toArray, u])) w) : bodyPost Tryz.prog fn R .ret a w := by
  refine bodyPost_ret (v := .tuple #[.agg l.toArray, u]) ?_ hdf hR
  have h1 := run_loadVar_row w g T T l.toArray (0, 0) _ hg hu rfl (by simpa using hi)
  have hp' : a.tmps[p]?.getD undef = .pointer (some ⟨g, 0, none⟩) := by simpa using hp
  have hx' : a.tmps[x]?.getD undef = u := by simpa using hx
  simp [results, h, hp', hx', asAddr, Sem.run_bind, Result.andThen, h1]
theorem of_q (c : Int) (u : World) (hc : c ≠ 0) : Calls Tryz.prog 26 #[.int .i64 c] u fun e w' => e = .returned (.iface 49 (.int .i64 c)) ∧ Q u w' := by
  refine (Fe.of_any c u hc).mono ?_
  rintro e w' ⟨⟨v, rfl, hv⟩, rfl⟩
  obtain rfl : v = _ := hv
  exact ⟨rfl, Q.refl _⟩
theorem wrap_q (t : ByteArray) (c : Int) (u : World) : Calls Tryz.prog 25 #[.string t, .iface 49 (.int .i64 c)] u fun e w' => ∃ g, e = .returned (.iface 83 (.pointer (some ⟨g, 0, none⟩))) ∧ Fe.EV w' c [t] (.iface 83 (.pointer (some ⟨g, 0, none⟩))) ∧ Q u w' := by
  refine (Fe.wrap_any t c [] _ u (show Fe.EV u c [] (.iface 49 (.int .i64 c)) from rfl)).mono ?_
  rintro e w' ⟨⟨x, rfl, hx⟩, hq⟩
  obtain ⟨g, rfl, _⟩ := EV_one hx
  exact ⟨g, rfl, hx, hq⟩
theorem out_q (n a b : Int) (u : World) : Calls Tryz.prog 20 #[.int .i64 n, .int .i64 a, .int .i64 b] u fun e w' => e = .returned (.bool (!(decide (a ≤ n) && decide (n ≤ b)))) ∧ Q u w' := by
  refine (out_any n a b u).mono ?_
  rintro e w' ⟨rfl, rfl⟩
  exact ⟨rfl, Q.refl _⟩
theorem nef : (39 : TypeId) ≠ 86 := by decide
set_option maxRecDepth 100000 in
set_option maxHeartbeats 8000000 in
theorem new_any (t0 t1 t2 : ByteArray) (i0 i1 i2 i3 i4 i5 i6 : Int) (w : World) (g : Nat → Bool) (L : Nat → List Int) (s : Nat → Nat) (r : Nat → Int) (ft : Nat → Bool) (sg : Bool) (c2 c01 : Int)
    (hmd : -9223372036854775808 ≤ i5 ∧ i5 ≤ 9223372036854775807) (hm : ∀ i, i < 3 → (Kr.tx t0 t1 t2 i).size ≤ 1000000) (hp : ∀ i, i < 3 → Dm.prs (Kr.tx t0 t1 t2 i).data.toList = (g i, L i, s i, r i)) (hl : ∀ i, i < 3 → (L i).length < 1900) (hd : ∀ i, i < 3 → Dm.okD (L i)) (hs : ∀ i, i < 3 → s i ≤ 1000)
    (hft : ∀ i, i < 3 → ft i = Km.fit i0 i2 (Dm.st (Dm.num (L i)) (s i)).1 (Dm.st (Dm.num (L i)) (s i)).2)
    (hc2 : c2 = Dm.cmpD (Dm.cg (g 2) (Dm.num (L 2))) (Dm.st (Dm.num (L 2)) (s 2)).1 (Dm.st (Dm.num (L 2)) (s 2)).2 false 0 0) (hc01 : c01 = Dm.cmpD (Dm.cg (g 0) (Dm.num (L 0))) (Dm.st (Dm.num (L 0)) (s 0)).1 (Dm.st (Dm.num (L 0)) (s 0)).2 (Dm.cg (g 1) (Dm.num (L 1))) (Dm.st (Dm.num (L 1)) (s 1)).1 (Dm.st (Dm.num (L 1)) (s 1)).2) (hsg : sg = decide (Dm.cmpD (Dm.cg (g 0) (Dm.num (L 0))) (Dm.st (Dm.num (L 0)) (s 0)).1 (Dm.st (Dm.num (L 0)) (s 0)).2 false 0 0 < 0)) :
    Calls Tryz.prog 8 #[.agg #[.string t0, .string t1, .string t2, .int .i64 i0, .int .i64 i1, .int .i64 i2, .int .i64 i3, .int .i64 i4, .int .i64 i5, .int .i64 i6]] w fun e w' => Outc (rws i0 i1 i2 i3 i4 i6 (Rm.nm i5).toList.isEmpty r ft c2 c01) w' e g L s sg i0 i1 i2 i3 i4 i5 i6 ∧ Q w w' := by
  obtain ⟨Rw, hRw⟩ : ∃ x, x = rws i0 i1 i2 i3 i4 i6 (Rm.nm i5).toList.isEmpty r ft c2 c01 := ⟨_, rfl⟩
  have HFL := Lib.hid (show flat Rw = [.string ⟨#[105, 110, 116, 99, 97, 112]⟩, .int .i64 3, .bool (ob i0 1 64), .string ⟨#[102, 114, 97, 99, 99, 97, 112]⟩, .int .i64 3, .bool (ob i1 0 64), .string ⟨#[115, 99, 97, 108, 101]⟩, .int .i64 3, .bool (ob i2 0 i1), .string ⟨#[109, 105, 110, 105, 110, 116]⟩, .int .i64 3, .bool (ob i3 0 i0), .string ⟨#[109, 105, 110, 102, 114, 97, 99]⟩, .int .i64 3, .bool (ob i4 0 i2), .string ⟨#[109, 111, 100, 101]⟩, .int .i64 7, .bool ((Rm.nm i5).toList.isEmpty), .string ⟨#[104, 105, 115, 116, 111, 114, 121]⟩, .int .i64 3, .bool (ob i6 1 1024), .string ⟨#[109, 105, 110]⟩, .int .i64 (r 0), .bool (r 0 != 0), .string ⟨#[109, 105, 110]⟩, .int .i64 4, .bool (!(ft 0)), .string ⟨#[109, 97, 120]⟩, .int .i64 (r 1), .bool (r 1 != 0), .string ⟨#[109, 97, 120]⟩, .int .i64 4, .bool (!(ft 1)), .string ⟨#[115, 116, 101, 112]⟩, .int .i64 (r 2), .bool (r 2 != 0), .string ⟨#[115, 116, 101, 112]⟩, .int .i64 4, .bool (!(ft 2)), .string ⟨#[115, 116, 101, 112]⟩, .int .i64 3, .bool (decide (c2 ≤ 0)), .string ⟨#[109, 97, 120]⟩, .int .i64 3, .bool (decide (0 < c01))] by rw [hRw]; rfl)
  have HRL := Lib.hid (show Rw.length = 15 by rw [hRw]; rfl)
  have HCN := Lib.hid (show ∀ i, i < 15 → (Rw.getD i lk0).2.2 = true → (Rw.getD i lk0).2.1 ≠ 0 by rw [hRw]; exact rws_code _ _ _ _ _ _ _ _ _ _ _)
  rw [← hRw]
  clear hRw
  have HN0 := Lib.hid (fun u => number_any t0 (g 0) (L 0) (s 0) (r 0) u (hm 0 (by omega)) (hp 0 (by omega)) (hl 0 (by omega)) (hd 0 (by omega)) (hs 0 (by omega)))
  have HN1 := Lib.hid (fun u => number_any t1 (g 1) (L 1) (s 1) (r 1) u (hm 1 (by omega)) (hp 1 (by omega)) (hl 1 (by omega)) (hd 1 (by omega)) (hs 1 (by omega)))
  have HN2 := Lib.hid (fun u => number_any t2 (g 2) (L 2) (s 2) (r 2) u (hm 2 (by omega)) (hp 2 (by omega)) (hl 2 (by omega)) (hd 2 (by omega)) (hs 2 (by omega)))
  have HO0 := Lib.hid (fun u => out_q i0 1 64 u)
  rw [show (!(decide (1 ≤ i0) && decide (i0 ≤ 64))) = ob i0 1 64 from rfl] at HO0
  have HO1 := Lib.hid (fun u => out_q i1 0 64 u)
  rw [show (!(decide (0 ≤ i1) && decide (i1 ≤ 64))) = ob i1 0 64 from rfl] at HO1
  have HO2 := Lib.hid (fun u => out_q i2 0 i1 u)
  rw [show (!(decide (0 ≤ i2) && decide (i2 ≤ i1))) = ob i2 0 i1 from rfl] at HO2
  have HO3 := Lib.hid (fun u => out_q i3 0 i0 u)
  rw [show (!(decide (0 ≤ i3) && decide (i3 ≤ i0))) = ob i3 0 i0 from rfl] at HO3
  have HO4 := Lib.hid (fun u => out_q i4 0 i2 u)
  rw [show (!(decide (0 ≤ i4) && decide (i4 ≤ i2))) = ob i4 0 i2 from rfl] at HO4
  have HO6 := Lib.hid (fun u => out_q i6 1 1024 u)
  rw [show (!(decide (1 ≤ i6) && decide (i6 ≤ 1024))) = ob i6 1 1024 from rfl] at HO6
  have HNM := Lib.hid (fun u => Rq.name_any i5 u hmd)
  have hD : ∀ j, j < 3 → (Dm.dg (Dm.st (Dm.num (L j)) (s j)).1).length < 1900 := fun j h => by
    have a := Dm.dg_len_le _ _ (Kr.st_fst_le (Dm.num (L j)) (s j))
    have b := Dm.dg_len (L j) (hd j h)
    have c := hl j h
    omega
  have hS1 : ∀ j, j < 3 → (Dm.st (Dm.num (L j)) (s j)).2 ≤ 1000 := fun j h => Nat.le_trans (Dm.st_le _ _) (hs j h)
  have HH0 := Lib.hid (fun u v (h : Lst u v (Dm.dg (Dm.st (Dm.num (L 0)) (s 0)).1)) => by
    have k := fits_any i0 i1 i2 i3 i4 i5 i6 (Dm.cg (g 0) (Dm.num (L 0))) v (Dm.st (Dm.num (L 0)) (s 0)).2 (Dm.dg (Dm.st (Dm.num (L 0)) (s 0)).1) u h (hD 0 (by omega)) (Dm.okD_dg _) (hS1 0 (by omega))
    rw [Dm.num_dg, ← hft 0 (by omega)] at k
    exact k)
  have HH1 := Lib.hid (fun u v (h : Lst u v (Dm.dg (Dm.st (Dm.num (L 1)) (s 1)).1)) => by
    have k := fits_any i0 i1 i2 i3 i4 i5 i6 (Dm.cg (g 1) (Dm.num (L 1))) v (Dm.st (Dm.num (L 1)) (s 1)).2 (Dm.dg (Dm.st (Dm.num (L 1)) (s 1)).1) u h (hD 1 (by omega)) (Dm.okD_dg _) (hS1 1 (by omega))
    rw [Dm.num_dg, ← hft 1 (by omega)] at k
    exact k)
  have HH2 := Lib.hid (fun u v (h : Lst u v (Dm.dg (Dm.st (Dm.num (L 2)) (s 2)).1)) => by
    have k := fits_any i0 i1 i2 i3 i4 i5 i6 (Dm.cg (g 2) (Dm.num (L 2))) v (Dm.st (Dm.num (L 2)) (s 2)).2 (Dm.dg (Dm.st (Dm.num (L 2)) (s 2)).1) u h (hD 2 (by omega)) (Dm.okD_dg _) (hS1 2 (by omega))
    rw [Dm.num_dg, ← hft 2 (by omega)] at k
    exact k)
  have HS2 := Lib.hid (fun u a n c (h : Lst u (.slice a n c) (Dm.dg (Dm.st (Dm.num (L 2)) (s 2)).1)) => sign_any (Dm.cg (g 2) (Dm.num (L 2))) a n c (Dm.st (Dm.num (L 2)) (s 2)).2 (Dm.dg (Dm.st (Dm.num (L 2)) (s 2)).1) u h (Nat.lt_trans (hD 2 (by omega)) (by omega)) (Dm.okD_dg _) (hS1 2 (by omega)) c2 (by rw [Dm.num_dg]; exact hc2))
  have HS0 := Lib.hid (fun u a n c (h : Lst u (.slice a n c) (Dm.dg (Dm.st (Dm.num (L 0)) (s 0)).1)) => sign_any (Dm.cg (g 0) (Dm.num (L 0))) a n c (Dm.st (Dm.num (L 0)) (s 0)).2 (Dm.dg (Dm.st (Dm.num (L 0)) (s 0)).1) u h (Nat.lt_trans (hD 0 (by omega)) (by omega)) (Dm.okD_dg _) (hS1 0 (by omega)) (Dm.cmpD (Dm.cg (g 0) (Dm.num (L 0))) (Dm.st (Dm.num (L 0)) (s 0)).1 (Dm.st (Dm.num (L 0)) (s 0)).2 false 0 0) (by rw [Dm.num_dg]))
  have HC01 := Lib.hid (fun u va vb (h0 : Lst u va (Dm.dg (Dm.st (Dm.num (L 0)) (s 0)).1)) (h1 : Lst u vb (Dm.dg (Dm.st (Dm.num (L 1)) (s 1)).1)) => by
    have k := Ep.compare_any (Dm.cg (g 0) (Dm.num (L 0))) (Dm.cg (g 1) (Dm.num (L 1))) va vb (Dm.st (Dm.num (L 0)) (s 0)).2 (Dm.st (Dm.num (L 1)) (s 1)).2 (Dm.dg (Dm.st (Dm.num (L 0)) (s 0)).1) (Dm.dg (Dm.st (Dm.num (L 1)) (s 1)).1) u h0 h1 (Nat.lt_trans (hD 0 (by omega)) (by omega)) (Nat.lt_trans (hD 1 (by omega)) (by omega)) (Dm.okD_dg _) (Dm.okD_dg _) (hS1 0 (by omega)) (hS1 1 (by omega))
    rw [Dm.num_dg, Dm.num_dg, ← hc01] at k
    exact k)
  have HSG := Lib.hid hsg
  obtain ⟨G0, hG0⟩ : ∃ x, x = (Dm.cg (g 0) (Dm.num (L 0))) := ⟨_, rfl⟩
  obtain ⟨q0, hq0⟩ : ∃ x, x = (Dm.st (Dm.num (L 0)) (s 0)).2 := ⟨_, rfl⟩
  obtain ⟨Z0, hZ0⟩ : ∃ x, x = Dm.dg (Dm.st (Dm.num (L 0)) (s 0)).1 := ⟨_, rfl⟩
  obtain ⟨n0, hn0⟩ : ∃ x, x = (Dm.dg (Dm.st (Dm.num (L 0)) (s 0)).1).length := ⟨_, rfl⟩
  obtain ⟨G1, hG1⟩ : ∃ x, x = (Dm.cg (g 1) (Dm.num (L 1))) := ⟨_, rfl⟩
  obtain ⟨q1, hq1⟩ : ∃ x, x = (Dm.st (Dm.num (L 1)) (s 1)).2 := ⟨_, rfl⟩
  obtain ⟨Z1, hZ1⟩ : ∃ x, x = Dm.dg (Dm.st (Dm.num (L 1)) (s 1)).1 := ⟨_, rfl⟩
  obtain ⟨n1, hn1⟩ : ∃ x, x = (Dm.dg (Dm.st (Dm.num (L 1)) (s 1)).1).length := ⟨_, rfl⟩
  obtain ⟨G2, hG2⟩ : ∃ x, x = (Dm.cg (g 2) (Dm.num (L 2))) := ⟨_, rfl⟩
  obtain ⟨q2, hq2⟩ : ∃ x, x = (Dm.st (Dm.num (L 2)) (s 2)).2 := ⟨_, rfl⟩
  obtain ⟨Z2, hZ2⟩ : ∃ x, x = Dm.dg (Dm.st (Dm.num (L 2)) (s 2)).1 := ⟨_, rfl⟩
  obtain ⟨n2, hn2⟩ : ∃ x, x = (Dm.dg (Dm.st (Dm.num (L 2)) (s 2)).1).length := ⟨_, rfl⟩
  obtain ⟨cs, hcs⟩ : ∃ x, x = Dm.cmpD (Dm.cg (g 0) (Dm.num (L 0))) (Dm.st (Dm.num (L 0)) (s 0)).1 (Dm.st (Dm.num (L 0)) (s 0)).2 false 0 0 := ⟨_, rfl⟩
  rw [← hcs] at HS0 HSG
  rw [← hn0, ← hZ0] at HN0
  rw [← hG0, ← hq0] at HN0 HH0 HC01 HS0
  rw [← hZ0] at HH0 HC01 HS0
  have HG0 := Lib.hid hG0
  have HK0 := Lib.hid hq0
  have HZ0 := Lib.hid hZ0
  clear hG0 hq0 hn0 hZ0
  rw [← hn1, ← hZ1] at HN1
  rw [← hG1, ← hq1] at HN1 HH1 HC01
  rw [← hZ1] at HH1 HC01
  have HG1 := Lib.hid hG1
  have HK1 := Lib.hid hq1
  have HZ1 := Lib.hid hZ1
  clear hG1 hq1 hn1 hZ1
  rw [← hn2, ← hZ2] at HN2
  rw [← hG2, ← hq2] at HN2 HH2 HS2
  rw [← hZ2] at HH2 HS2
  have HG2 := Lib.hid hG2
  have HK2 := Lib.hid hq2
  have HZ2 := Lib.hid hZ2
  clear hG2 hq2 hn2 hZ2
  clear hm hp hl hd hs hft hmd hc2 hc01 hsg hD hS1 hcs
  unfold dv at HH0 HH1 HH2 HC01
  obtain ⟨y1, hy1⟩ : ∃ y, y = w.alloc (.cells #[.string t0, .string t1, .string t2, .int .i64 i0, .int .i64 i1, .int .i64 i2, .int .i64 i3, .int .i64 i4, .int .i64 i5, .int .i64 i6] 45) := ⟨_, rfl⟩
  have hQ1 : Q w y1 := by rw [hy1]; exact (Q.refl w).alloc _
  have hb1 : Bk y1 w.heap.size 45 [.string t0, .string t1, .string t2, .int .i64 i0, .int .i64 i1, .int .i64 i2, .int .i64 i3, .int .i64 i4, .int .i64 i5, .int .i64 i6] := by rw [hy1]; exact Bk.new _ _ _
  have hs1 : y1.heap.size = w.heap.size + 1 := by rw [hy1]; simp
  obtain ⟨z, hz⟩ : ∃ y, y = y1.alloc (.cells #[.bool false, .slice none 0 0, .int .i64 0, .bool false, .slice none 0 0, .int .i64 0, .bool false, .slice none 0 0, .int .i64 0, .bool false, .int .i64 0, .int .i64 0, .int .i64 0, .int .i64 0, .int .i64 0, .int .i64 0, .int .i64 0] 39) := ⟨_, rfl⟩
  have hq2 : Q y1 z := by rw [hz]; exact (Q.refl y1).alloc _
  have hb2 : Bk z (w.heap.size + 1) 39 [.bool false, .slice none 0 0, .int .i64 0, .bool false, .slice none 0 0, .int .i64 0, .bool false, .slice none 0 0, .int .i64 0, .bool false, .int .i64 0, .int .i64 0, .int .i64 0, .int .i64 0, .int .i64 0, .int .i64 0, .int .i64 0] := by rw [hz, ← hs1]; exact Bk.new _ _ _
  have hc := hb1.q hq2
  have HQ := Lib.hid (show Q w z from hQ1.trans hq2)
  have HC := Lib.hid hc
  have HB := Lib.hid hb2
  have k0 := hc.cell 0 rfl
  go_enter Tryz.func8, Tryz.ntmps8
  go_upto_region 1 with fail
  first | rw [← hy1, ← hz] | (rw [hy1] at hz; rw [← hz])
  clear hQ1 hb1 hy1 hs1 hq2 hb2 hz hc
  go_wp2_with fail
  refine (HN0.out _).mono ?_
  rintro e w0 ⟨a0, cp0, rfl, hl, hq⟩
  obtain ⟨V0, hV0⟩ : ∃ y, y = w0.alloc (.cells #[.bool G0, .slice a0 n0 cp0, .int .i64 q0] 36) := ⟨_, rfl⟩
  have hqa : Q z V0 := by rw [hV0]; exact hq.alloc _
  have hqb : Q w0 V0 := by rw [hV0]; exact (Q.refl _).alloc _
  have hbx : Bk V0 w0.heap.size 36 [.bool G0, .slice a0 n0 cp0, .int .i64 q0] := by rw [hV0]; exact Bk.new _ _ _
  obtain ⟨b0, hb0⟩ : ∃ b, b = w0.heap.size := ⟨_, rfl⟩
  rw [← hb0] at hbx
  have HD0 := Lib.hid hbx
  have hzb : w.heap.size + 1 < z.heap.size := HB.out.lt
  have HL0 := Lib.hid (show Lst V0 (.slice a0 n0 cp0) Z0 from hl.lst.q hqb)
  have HF0 := Lib.hid (LF_bl hl hzb)
  have HE0 := Lib.hid (show b0 ≠ w.heap.size + 1 by have := hq.le; omega)
  replace HQ := Lib.hid (HQ.out.trans hqa)
  replace HC := Lib.hid (HC.out.q hqa)
  replace HB := Lib.hid (HB.out.q hqa)
  clear k0 hzb hl hq hqa hqb hbx
  have k0 := HC.out.cell 1 rfl
  go_upto_region 2 with fail
  rw [← hV0, ← hb0]
  clear hV0 hb0
  go_wp2_with fail
  refine (HN1.out _).mono ?_
  rintro e w1 ⟨a1, cp1, rfl, hl, hq⟩
  obtain ⟨V1, hV1⟩ : ∃ y, y = w1.alloc (.cells #[.bool G1, .slice a1 n1 cp1, .int .i64 q1] 36) := ⟨_, rfl⟩
  have hqa : Q V0 V1 := by rw [hV1]; exact hq.alloc _
  have hqb : Q w1 V1 := by rw [hV1]; exact (Q.refl _).alloc _
  have hbx : Bk V1 w1.heap.size 36 [.bool G1, .slice a1 n1 cp1, .int .i64 q1] := by rw [hV1]; exact Bk.new _ _ _
  obtain ⟨b1, hb1⟩ : ∃ b, b = w1.heap.size := ⟨_, rfl⟩
  rw [← hb1] at hbx
  have HD1 := Lib.hid hbx
  have hzb : w.heap.size + 1 < V0.heap.size := HB.out.lt
  have HL1 := Lib.hid (show Lst V1 (.slice a1 n1 cp1) Z1 from hl.lst.q hqb)
  have HF1 := Lib.hid (LF_bl hl hzb)
  have HE1 := Lib.hid (show b1 ≠ w.heap.size + 1 by have := hq.le; omega)
  replace HQ := Lib.hid (HQ.out.trans hqa)
  replace HC := Lib.hid (HC.out.q hqa)
  replace HB := Lib.hid (HB.out.q hqa)
  replace HD0 := Lib.hid (HD0.out.q hqa)
  replace HL0 := Lib.hid (HL0.out.q hqa)
  clear k0 hzb hl hq hqa hqb hbx
  have k0 := HC.out.cell 2 rfl
  go_upto_region 3 with fail
  rw [← hV1, ← hb1]
  clear hV1 hb1
  go_wp2_with fail
  refine (HN2.out _).mono ?_
  rintro e w2 ⟨a2, cp2, rfl, hl, hq⟩
  obtain ⟨V2, hV2⟩ : ∃ y, y = w2.alloc (.cells #[.bool G2, .slice a2 n2 cp2, .int .i64 q2] 36) := ⟨_, rfl⟩
  have hqa : Q V1 V2 := by rw [hV2]; exact hq.alloc _
  have hqb : Q w2 V2 := by rw [hV2]; exact (Q.refl _).alloc _
  have hbx : Bk V2 w2.heap.size 36 [.bool G2, .slice a2 n2 cp2, .int .i64 q2] := by rw [hV2]; exact Bk.new _ _ _
  obtain ⟨b2, hb2⟩ : ∃ b, b = w2.heap.size := ⟨_, rfl⟩
  rw [← hb2] at hbx
  have HD2 := Lib.hid hbx
  have hzb : w.heap.size + 1 < V1.heap.size := HB.out.lt
  have HL2 := Lib.hid (show Lst V2 (.slice a2 n2 cp2) Z2 from hl.lst.q hqb)
  have HF2 := Lib.hid (LF_bl hl hzb)
  have HE2 := Lib.hid (show b2 ≠ w.heap.size + 1 by have := hq.le; omega)
  replace HQ := Lib.hid (HQ.out.trans hqa)
  replace HC := Lib.hid (HC.out.q hqa)
  replace HB := Lib.hid (HB.out.q hqa)
  replace HD0 := Lib.hid (HD0.out.q hqa)
  replace HL0 := Lib.hid (HL0.out.q hqa)
  replace HD1 := Lib.hid (HD1.out.q hqa)
  replace HL1 := Lib.hid (HL1.out.q hqa)
  clear k0 hzb hl hq hqa hqb hbx
  have k0 := HC.out.cell 3 rfl
  go_upto_region 4 with fail
  rw [← hV2, ← hb2]
  clear hV2 hb2
  refine wp_region_held_drew (S := fun u => Q V2 u) (by kernel_rfl) (by exact (Q.refl V2).drew) (fun hHeld => ?_)
  have hS : Q V2 V2.drew := hHeld
  clear hHeld
  have hq : Q V2 V2.drew := (Q.refl _).drew
  clear hq
  generalize V2.drew = yR1x0 at *
  change wpAnyH _ _ _ _ _ _ #[ff,ff,ff,ff,ff,ff,ff,ff,ff,ff,ff,ff,ff,ff,ff,ff,ff,ff,ff,ff,ff,ff,ff,ff,ff,ff,ff,ff,ff,ff,ff,ff,ff,ff,ff,ff,ff,ff,ff,ff,ff,ff,ff,ff,ff,ff,ff,ff,ff,ff,ff,ff,ff,ff,ff,ff,ff,ff,ff,ff,ff,ff,ff,ff,ff,ff,ff,ff,ff,ff,ff,ff,ff,ff,ff,ff,ff,ff,ff,ff,ff,ff,ff,ff,ff,ff,ff] _ _
  refine wpAnyH_take (i := 0) (v := ?vR1x1) (by (try simp only [gA, gB, gC]); rfl) (by kernel_rfl) (by kernel_rfl) (by kernel_rfl) (by exact fun _ _ _ h => h) (Or.inl ⟨by first | kernel_rfl | rfl, ?hyR1x1⟩) (by exact hS) ?rsR1x1
  case hyR1x1 => (intro uz hSw; (try dsimp only at hSw); go_simp; try with_reducible rfl)
  try simp only [Act.put, sA, sB, sC]
  change wpAnyH _ _ _ _ _ _ #[tt,ff,ff,ff,ff,ff,ff,ff,ff,ff,ff,ff,ff,ff,ff,ff,ff,ff,ff,ff,ff,ff,ff,ff,ff,ff,ff,ff,ff,ff,ff,ff,ff,ff,ff,ff,ff,ff,ff,ff,ff,ff,ff,ff,ff,ff,ff,ff,ff,ff,ff,ff,ff,ff,ff,ff,ff,ff,ff,ff,ff,ff,ff,ff,ff,ff,ff,ff,ff,ff,ff,ff,ff,ff,ff,ff,ff,ff,ff,ff,ff,ff,ff,ff,ff,ff,ff] _ _
  refine wpAnyH_take (i := 1) (v := ?vR1x2) (by (try simp only [gA, gB, gC]); rfl) (by kernel_rfl) (by kernel_rfl) (by kernel_rfl) (by exact fun _ _ _ h => h) (Or.inl ⟨by first | kernel_rfl | rfl, ?hyR1x2⟩) (by exact hS) ?rsR1x2
  case hyR1x2 => (intro uz hSw; (try dsimp only at hSw); go_simp; try with_reducible rfl)
  try simp only [Act.put, sA, sB, sC]
  change wpAnyH _ _ _ _ _ _ #[tt,tt,ff,ff,ff,ff,ff,ff,ff,ff,ff,ff,ff,ff,ff,ff,ff,ff,ff,ff,ff,ff,ff,ff,ff,ff,ff,ff,ff,ff,ff,ff,ff,ff,ff,ff,ff,ff,ff,ff,ff,ff,ff,ff,ff,ff,ff,ff,ff,ff,ff,ff,ff,ff,ff,ff,ff,ff,ff,ff,ff,ff,ff,ff,ff,ff,ff,ff,ff,ff,ff,ff,ff,ff,ff,ff,ff,ff,ff,ff,ff,ff,ff,ff,ff,ff,ff] _ _
  refine wpAnyH_take (i := 2) (v := ?vR1x3) (by (try simp only [gA, gB, gC]); rfl) (by kernel_rfl) (by kernel_rfl) (by kernel_rfl) (by exact fun _ _ _ h => h) (Or.inl ⟨by first | kernel_rfl | rfl, ?hyR1x3⟩) (by exact hS) ?rsR1x3
  case hyR1x3 => (intro uz hSw; (try dsimp only at hSw); have hxx := HC.out.q hSw; have k3 := hxx.cell 3 rfl; have k4 := hxx.cell 4 rfl; have k5 := hxx.cell 5 rfl; have k6 := hxx.cell 6 rfl; have k7 := hxx.cell 7 rfl; have k8 := hxx.cell 8 rfl; have k9 := hxx.cell 9 rfl; clear hxx; go_simp; try with_reducible rfl)
  try simp only [Act.put, sA, sB, sC]
  change wpAnyH _ _ _ _ _ _ #[tt,tt,tt,ff,ff,ff,ff,ff,ff,ff,ff,ff,ff,ff,ff,ff,ff,ff,ff,ff,ff,ff,ff,ff,ff,ff,ff,ff,ff,ff,ff,ff,ff,ff,ff,ff,ff,ff,ff,ff,ff,ff,ff,ff,ff,ff,ff,ff,ff,ff,ff,ff,ff,ff,ff,ff,ff,ff,ff,ff,ff,ff,ff,ff,ff,ff,ff,ff,ff,ff,ff,ff,ff,ff,ff,ff,ff,ff,ff,ff,ff,ff,ff,ff,ff,ff,ff] _ _
  refine wpAnyH_take (i := 5) (v := ?vR1x4) (by (try simp only [gA, gB, gC]); rfl) (by kernel_rfl) (by kernel_rfl) (by kernel_rfl) (by exact fun _ _ _ h => h) (Or.inl ⟨by first | kernel_rfl | rfl, ?hyR1x4⟩) (by exact hS) ?rsR1x4
  case hyR1x4 => (intro uz hSw; (try dsimp only at hSw); go_simp; try with_reducible rfl)
  try simp only [Act.put, sA, sB, sC]
  change wpAnyH _ _ _ _ _ _ #[tt,tt,tt,ff,ff,tt,ff,ff,ff,ff,ff,ff,ff,ff,ff,ff,ff,ff,ff,ff,ff,ff,ff,ff,ff,ff,ff,ff,ff,ff,ff,ff,ff,ff,ff,ff,ff,ff,ff,ff,ff,ff,ff,ff,ff,ff,ff,ff,ff,ff,ff,ff,ff,ff,ff,ff,ff,ff,ff,ff,ff,ff,ff,ff,ff,ff,ff,ff,ff,ff,ff,ff,ff,ff,ff,ff,ff,ff,ff,ff,ff,ff,ff,ff,ff,ff,ff] _ _
  refine wpAnyH_take (i := 6) (v := ?vR1x5) (by (try simp only [gA, gB, gC]); rfl) (by kernel_rfl) (by kernel_rfl) (by kernel_rfl) (by exact fun _ _ _ h => h) (Or.inl ⟨by first | kernel_rfl | rfl, ?hyR1x5⟩) (by exact hS) ?rsR1x5
  case hyR1x5 => (intro uz hSw; (try dsimp only at hSw); go_simp; try with_reducible rfl)
  try simp only [Act.put, sA, sB, sC]
  change wpAnyH _ _ _ _ _ _ #[tt,tt,tt,ff,ff,tt,tt,ff,ff,ff,ff,ff,ff,ff,ff,ff,ff,ff,ff,ff,ff,ff,ff,ff,ff,ff,ff,ff,ff,ff,ff,ff,ff,ff,ff,ff,ff,ff,ff,ff,ff,ff,ff,ff,ff,ff,ff,ff,ff,ff,ff,ff,ff,ff,ff,ff,ff,ff,ff,ff,ff,ff,ff,ff,ff,ff,ff,ff,ff,ff,ff,ff,ff,ff,ff,ff,ff,ff,ff,ff,ff,ff,ff,ff,ff,ff,ff] _ _
  refine wpAnyH_take (i := 7) (v := ?vR1x6) (by (try simp only [gA, gB, gC]); rfl) (by kernel_rfl) (by kernel_rfl) (by kernel_rfl) (by exact fun _ _ _ h => h) (Or.inl ⟨by first | kernel_rfl | rfl, ?hyR1x6⟩) (by exact hS) ?rsR1x6
  case hyR1x6 => (intro uz hSw; (try dsimp only at hSw); have hxx := HC.out.q hSw; have k3 := hxx.cell 3 rfl; have k4 := hxx.cell 4 rfl; have k5 := hxx.cell 5 rfl; have k6 := hxx.cell 6 rfl; have k7 := hxx.cell 7 rfl; have k8 := hxx.cell 8 rfl; have k9 := hxx.cell 9 rfl; clear hxx; go_simp; try with_reducible rfl)
  try simp only [Act.put, sA, sB, sC]
  change wpAnyH _ _ _ _ _ _ #[tt,tt,tt,ff,ff,tt,tt,tt,ff,ff,ff,ff,ff,ff,ff,ff,ff,ff,ff,ff,ff,ff,ff,ff,ff,ff,ff,ff,ff,ff,ff,ff,ff,ff,ff,ff,ff,ff,ff,ff,ff,ff,ff,ff,ff,ff,ff,ff,ff,ff,ff,ff,ff,ff,ff,ff,ff,ff,ff,ff,ff,ff,ff,ff,ff,ff,ff,ff,ff,ff,ff,ff,ff,ff,ff,ff,ff,ff,ff,ff,ff,ff,ff,ff,ff,ff,ff] _ _
  refine wpAnyH_take (i := 10) (v := ?vR1x7) (by (try simp only [gA, gB, gC]); rfl) (by kernel_rfl) (by kernel_rfl) (by kernel_rfl) (by exact fun _ _ _ h => h) (Or.inl ⟨by first | kernel_rfl | rfl, ?hyR1x7⟩) (by exact hS) ?rsR1x7
  case hyR1x7 => (intro uz hSw; (try dsimp only at hSw); go_simp; try with_reducible rfl)
  try simp only [Act.put, sA, sB, sC]
  change wpAnyH _ _ _ _ _ _ #[tt,tt,tt,ff,ff,tt,tt,tt,ff,ff,tt,ff,ff,ff,ff,ff,ff,ff,ff,ff,ff,ff,ff,ff,ff,ff,ff,ff,ff,ff,ff,ff,ff,ff,ff,ff,ff,ff,ff,ff,ff,ff,ff,ff,ff,ff,ff,ff,ff,ff,ff,ff,ff,ff,ff,ff,ff,ff,ff,ff,ff,ff,ff,ff,ff,ff,ff,ff,ff,ff,ff,ff,ff,ff,ff,ff,ff,ff,ff,ff,ff,ff,ff,ff,ff,ff,ff] _ _
  refine wpAnyH_take (i := 11) (v := ?vR1x8) (by (try simp only [gA, gB, gC]); rfl) (by kernel_rfl) (by kernel_rfl) (by kernel_rfl) (by exact fun _ _ _ h => h) (Or.inl ⟨by first | kernel_rfl | rfl, ?hyR1x8⟩) (by exact hS) ?rsR1x8
  case hyR1x8 => (intro uz hSw; (try dsimp only at hSw); go_simp; try with_reducible rfl)
  try simp only [Act.put, sA, sB, sC]
  change wpAnyH _ _ _ _ _ _ #[tt,tt,tt,ff,ff,tt,tt,tt,ff,ff,tt,tt,ff,ff,ff,ff,ff,ff,ff,ff,ff,ff,ff,ff,ff,ff,ff,ff,ff,ff,ff,ff,ff,ff,ff,ff,ff,ff,ff,ff,ff,ff,ff,ff,ff,ff,ff,ff,ff,ff,ff,ff,ff,ff,ff,ff,ff,ff,ff,ff,ff,ff,ff,ff,ff,ff,ff,ff,ff,ff,ff,ff,ff,ff,ff,ff,ff,ff,ff,ff,ff,ff,ff,ff,ff,ff,ff] _ _
  refine wpAnyH_take (i := 12) (v := ?vR1x9) (by (try simp only [gA, gB, gC]); rfl) (by kernel_rfl) (by kernel_rfl) (by kernel_rfl) (by exact fun _ _ _ h => h) (Or.inl ⟨by first | kernel_rfl | rfl, ?hyR1x9⟩) (by exact hS) ?rsR1x9
  case hyR1x9 => (intro uz hSw; (try dsimp only at hSw); have hxx := HC.out.q hSw; have k3 := hxx.cell 3 rfl; have k4 := hxx.cell 4 rfl; have k5 := hxx.cell 5 rfl; have k6 := hxx.cell 6 rfl; have k7 := hxx.cell 7 rfl; have k8 := hxx.cell 8 rfl; have k9 := hxx.cell 9 rfl; clear hxx; go_simp; try with_reducible rfl)
  try simp only [Act.put, sA, sB, sC]
  change wpAnyH _ _ _ _ _ _ #[tt,tt,tt,ff,ff,tt,tt,tt,ff,ff,tt,tt,tt,ff,ff,ff,ff,ff,ff,ff,ff,ff,ff,ff,ff,ff,ff,ff,ff,ff,ff,ff,ff,ff,ff,ff,ff,ff,ff,ff,ff,ff,ff,ff,ff,ff,ff,ff,ff,ff,ff,ff,ff,ff,ff,ff,ff,ff,ff,ff,ff,ff,ff,ff,ff,ff,ff,ff,ff,ff,ff,ff,ff,ff,ff,ff,ff,ff,ff,ff,ff,ff,ff,ff,ff,ff,ff] _ _
  refine wpAnyH_take (i := 13) (v := ?vR1x10) (by (try simp only [gA, gB, gC]); rfl) (by kernel_rfl) (by kernel_rfl) (by kernel_rfl) (by exact fun _ _ _ h => h) (Or.inl ⟨by first | kernel_rfl | rfl, ?hyR1x10⟩) (by exact hS) ?rsR1x10
  case hyR1x10 => (intro uz hSw; (try dsimp only at hSw); go_simp; try with_reducible rfl)
  try simp only [Act.put, sA, sB, sC]
  change wpAnyH _ _ _ _ _ _ #[tt,tt,tt,ff,ff,tt,tt,tt,ff,ff,tt,tt,tt,tt,ff,ff,ff,ff,ff,ff,ff,ff,ff,ff,ff,ff,ff,ff,ff,ff,ff,ff,ff,ff,ff,ff,ff,ff,ff,ff,ff,ff,ff,ff,ff,ff,ff,ff,ff,ff,ff,ff,ff,ff,ff,ff,ff,ff,ff,ff,ff,ff,ff,ff,ff,ff,ff,ff,ff,ff,ff,ff,ff,ff,ff,ff,ff,ff,ff,ff,ff,ff,ff,ff,ff,ff,ff] _ _
  refine wpAnyH_take (i := 14) (v := ?vR1x11) (by (try simp only [gA, gB, gC]); rfl) (by kernel_rfl) (by kernel_rfl) (by kernel_rfl) (by exact fun _ _ _ h => h) (Or.inl ⟨by first | kernel_rfl | rfl, ?hyR1x11⟩) (by exact hS) ?rsR1x11
  case hyR1x11 => (intro uz hSw; (try dsimp only at hSw); go_simp; try with_reducible rfl)
  try simp only [Act.put, sA, sB, sC]
  change wpAnyH _ _ _ _ _ _ #[tt,tt,tt,ff,ff,tt,tt,tt,ff,ff,tt,tt,tt,tt,tt,ff,ff,ff,ff,ff,ff,ff,ff,ff,ff,ff,ff,ff,ff,ff,ff,ff,ff,ff,ff,ff,ff,ff,ff,ff,ff,ff,ff,ff,ff,ff,ff,ff,ff,ff,ff,ff,ff,ff,ff,ff,ff,ff,ff,ff,ff,ff,ff,ff,ff,ff,ff,ff,ff,ff,ff,ff,ff,ff,ff,ff,ff,ff,ff,ff,ff,ff,ff,ff,ff,ff,ff] _ _
  refine wpAnyH_take (i := 15) (v := ?vR1x12) (by (try simp only [gA, gB, gC]); rfl) (by kernel_rfl) (by kernel_rfl) (by kernel_rfl) (by exact fun _ _ _ h => h) (Or.inl ⟨by first | kernel_rfl | rfl, ?hyR1x12⟩) (by exact hS) ?rsR1x12
  case hyR1x12 => (intro uz hSw; (try dsimp only at hSw); have hxx := HC.out.q hSw; have k3 := hxx.cell 3 rfl; have k4 := hxx.cell 4 rfl; have k5 := hxx.cell 5 rfl; have k6 := hxx.cell 6 rfl; have k7 := hxx.cell 7 rfl; have k8 := hxx.cell 8 rfl; have k9 := hxx.cell 9 rfl; clear hxx; go_simp; try with_reducible rfl)
  try simp only [Act.put, sA, sB, sC]
  change wpAnyH _ _ _ _ _ _ #[tt,tt,tt,ff,ff,tt,tt,tt,ff,ff,tt,tt,tt,tt,tt,tt,ff,ff,ff,ff,ff,ff,ff,ff,ff,ff,ff,ff,ff,ff,ff,ff,ff,ff,ff,ff,ff,ff,ff,ff,ff,ff,ff,ff,ff,ff,ff,ff,ff,ff,ff,ff,ff,ff,ff,ff,ff,ff,ff,ff,ff,ff,ff,ff,ff,ff,ff,ff,ff,ff,ff,ff,ff,ff,ff,ff,ff,ff,ff,ff,ff,ff,ff,ff,ff,ff,ff] _ _
  refine wpAnyH_take (i := 18) (v := ?vR1x13) (by (try simp only [gA, gB, gC]); rfl) (by kernel_rfl) (by kernel_rfl) (by kernel_rfl) (by exact fun _ _ _ h => h) (Or.inl ⟨by first | kernel_rfl | rfl, ?hyR1x13⟩) (by exact hS) ?rsR1x13
  case hyR1x13 => (intro uz hSw; (try dsimp only at hSw); go_simp; try with_reducible rfl)
  try simp only [Act.put, sA, sB, sC]
  change wpAnyH _ _ _ _ _ _ #[tt,tt,tt,ff,ff,tt,tt,tt,ff,ff,tt,tt,tt,tt,tt,tt,ff,ff,tt,ff,ff,ff,ff,ff,ff,ff,ff,ff,ff,ff,ff,ff,ff,ff,ff,ff,ff,ff,ff,ff,ff,ff,ff,ff,ff,ff,ff,ff,ff,ff,ff,ff,ff,ff,ff,ff,ff,ff,ff,ff,ff,ff,ff,ff,ff,ff,ff,ff,ff,ff,ff,ff,ff,ff,ff,ff,ff,ff,ff,ff,ff,ff,ff,ff,ff,ff,ff] _ _
  refine wpAnyH_take (i := 19) (v := ?vR1x14) (by (try simp only [gA, gB, gC]); rfl) (by kernel_rfl) (by kernel_rfl) (by kernel_rfl) (by exact fun _ _ _ h => h) (Or.inl ⟨by first | kernel_rfl | rfl, ?hyR1x14⟩) (by exact hS) ?rsR1x14
  case hyR1x14 => (intro uz hSw; (try dsimp only at hSw); go_simp; try with_reducible rfl)
  try simp only [Act.put, sA, sB, sC]
  change wpAnyH _ _ _ _ _ _ #[tt,tt,tt,ff,ff,tt,tt,tt,ff,ff,tt,tt,tt,tt,tt,tt,ff,ff,tt,tt,ff,ff,ff,ff,ff,ff,ff,ff,ff,ff,ff,ff,ff,ff,ff,ff,ff,ff,ff,ff,ff,ff,ff,ff,ff,ff,ff,ff,ff,ff,ff,ff,ff,ff,ff,ff,ff,ff,ff,ff,ff,ff,ff,ff,ff,ff,ff,ff,ff,ff,ff,ff,ff,ff,ff,ff,ff,ff,ff,ff,ff,ff,ff,ff,ff,ff,ff] _ _
  refine wpAnyH_take (i := 20) (v := ?vR1x15) (by (try simp only [gA, gB, gC]); rfl) (by kernel_rfl) (by kernel_rfl) (by kernel_rfl) (by exact fun _ _ _ h => h) (Or.inl ⟨by first | kernel_rfl | rfl, ?hyR1x15⟩) (by exact hS) ?rsR1x15
  case hyR1x15 => (intro uz hSw; (try dsimp only at hSw); have hxx := HC.out.q hSw; have k3 := hxx.cell 3 rfl; have k4 := hxx.cell 4 rfl; have k5 := hxx.cell 5 rfl; have k6 := hxx.cell 6 rfl; have k7 := hxx.cell 7 rfl; have k8 := hxx.cell 8 rfl; have k9 := hxx.cell 9 rfl; clear hxx; go_simp; try with_reducible rfl)
  try simp only [Act.put, sA, sB, sC]
  change wpAnyH _ _ _ _ _ _ #[tt,tt,tt,ff,ff,tt,tt,tt,ff,ff,tt,tt,tt,tt,tt,tt,ff,ff,tt,tt,tt,ff,ff,ff,ff,ff,ff,ff,ff,ff,ff,ff,ff,ff,ff,ff,ff,ff,ff,ff,ff,ff,ff,ff,ff,ff,ff,ff,ff,ff,ff,ff,ff,ff,ff,ff,ff,ff,ff,ff,ff,ff,ff,ff,ff,ff,ff,ff,ff,ff,ff,ff,ff,ff,ff,ff,ff,ff,ff,ff,ff,ff,ff,ff,ff,ff,ff] _ _
  refine wpAnyH_take (i := 21) (v := ?vR1x16) (by (try simp only [gA, gB, gC]); rfl) (by kernel_rfl) (by kernel_rfl) (by kernel_rfl) (by exact fun _ _ _ h => h) (Or.inl ⟨by first | kernel_rfl | rfl, ?hyR1x16⟩) (by exact hS) ?rsR1x16
  case hyR1x16 => (intro uz hSw; (try dsimp only at hSw); go_simp; try with_reducible rfl)
  try simp only [Act.put, sA, sB, sC]
  change wpAnyH _ _ _ _ _ _ #[tt,tt,tt,ff,ff,tt,tt,tt,ff,ff,tt,tt,tt,tt,tt,tt,ff,ff,tt,tt,tt,tt,ff,ff,ff,ff,ff,ff,ff,ff,ff,ff,ff,ff,ff,ff,ff,ff,ff,ff,ff,ff,ff,ff,ff,ff,ff,ff,ff,ff,ff,ff,ff,ff,ff,ff,ff,ff,ff,ff,ff,ff,ff,ff,ff,ff,ff,ff,ff,ff,ff,ff,ff,ff,ff,ff,ff,ff,ff,ff,ff,ff,ff,ff,ff,ff,ff] _ _
  refine wpAnyH_take (i := 22) (v := ?vR1x17) (by (try simp only [gA, gB, gC]); rfl) (by kernel_rfl) (by kernel_rfl) (by kernel_rfl) (by exact fun _ _ _ h => h) (Or.inl ⟨by first | kernel_rfl | rfl, ?hyR1x17⟩) (by exact hS) ?rsR1x17
  case hyR1x17 => (intro uz hSw; (try dsimp only at hSw); go_simp; try with_reducible rfl)
  try simp only [Act.put, sA, sB, sC]
  change wpAnyH _ _ _ _ _ _ #[tt,tt,tt,ff,ff,tt,tt,tt,ff,ff,tt,tt,tt,tt,tt,tt,ff,ff,tt,tt,tt,tt,tt,ff,ff,ff,ff,ff,ff,ff,ff,ff,ff,ff,ff,ff,ff,ff,ff,ff,ff,ff,ff,ff,ff,ff,ff,ff,ff,ff,ff,ff,ff,ff,ff,ff,ff,ff,ff,ff,ff,ff,ff,ff,ff,ff,ff,ff,ff,ff,ff,ff,ff,ff,ff,ff,ff,ff,ff,ff,ff,ff,ff,ff,ff,ff,ff] _ _
  refine wpAnyH_take (i := 23) (v := ?vR1x18) (by (try simp only [gA, gB, gC]); rfl) (by kernel_rfl) (by kernel_rfl) (by kernel_rfl) (by exact fun _ _ _ h => h) (Or.inl ⟨by first | kernel_rfl | rfl, ?hyR1x18⟩) (by exact hS) ?rsR1x18
  case hyR1x18 => (intro uz hSw; (try dsimp only at hSw); have hxx := HC.out.q hSw; have k3 := hxx.cell 3 rfl; have k4 := hxx.cell 4 rfl; have k5 := hxx.cell 5 rfl; have k6 := hxx.cell 6 rfl; have k7 := hxx.cell 7 rfl; have k8 := hxx.cell 8 rfl; have k9 := hxx.cell 9 rfl; clear hxx; go_simp; try with_reducible rfl)
  try simp only [Act.put, sA, sB, sC]
  change wpAnyH _ _ _ _ _ _ #[tt,tt,tt,ff,ff,tt,tt,tt,ff,ff,tt,tt,tt,tt,tt,tt,ff,ff,tt,tt,tt,tt,tt,tt,ff,ff,ff,ff,ff,ff,ff,ff,ff,ff,ff,ff,ff,ff,ff,ff,ff,ff,ff,ff,ff,ff,ff,ff,ff,ff,ff,ff,ff,ff,ff,ff,ff,ff,ff,ff,ff,ff,ff,ff,ff,ff,ff,ff,ff,ff,ff,ff,ff,ff,ff,ff,ff,ff,ff,ff,ff,ff,ff,ff,ff,ff,ff] _ _
  refine wpAnyH_take (i := 26) (v := ?vR1x19) (by (try simp only [gA, gB, gC]); rfl) (by kernel_rfl) (by kernel_rfl) (by kernel_rfl) (by exact fun _ _ _ h => h) (Or.inl ⟨by first | kernel_rfl | rfl, ?hyR1x19⟩) (by exact hS) ?rsR1x19
  case hyR1x19 => (intro uz hSw; (try dsimp only at hSw); go_simp; try with_reducible rfl)
  try simp only [Act.put, sA, sB, sC]
  change wpAnyH _ _ _ _ _ _ #[tt,tt,tt,ff,ff,tt,tt,tt,ff,ff,tt,tt,tt,tt,tt,tt,ff,ff,tt,tt,tt,tt,tt,tt,ff,ff,tt,ff,ff,ff,ff,ff,ff,ff,ff,ff,ff,ff,ff,ff,ff,ff,ff,ff,ff,ff,ff,ff,ff,ff,ff,ff,ff,ff,ff,ff,ff,ff,ff,ff,ff,ff,ff,ff,ff,ff,ff,ff,ff,ff,ff,ff,ff,ff,ff,ff,ff,ff,ff,ff,ff,ff,ff,ff,ff,ff,ff] _ _
  refine wpAnyH_take (i := 27) (v := ?vR1x20) (by (try simp only [gA, gB, gC]); rfl) (by kernel_rfl) (by kernel_rfl) (by kernel_rfl) (by exact fun _ _ _ h => h) (Or.inl ⟨by first | kernel_rfl | rfl, ?hyR1x20⟩) (by exact hS) ?rsR1x20
  case hyR1x20 => (intro uz hSw; (try dsimp only at hSw); go_simp; try with_reducible rfl)
  try simp only [Act.put, sA, sB, sC]
  change wpAnyH _ _ _ _ _ _ #[tt,tt,tt,ff,ff,tt,tt,tt,ff,ff,tt,tt,tt,tt,tt,tt,ff,ff,tt,tt,tt,tt,tt,tt,ff,ff,tt,tt,ff,ff,ff,ff,ff,ff,ff,ff,ff,ff,ff,ff,ff,ff,ff,ff,ff,ff,ff,ff,ff,ff,ff,ff,ff,ff,ff,ff,ff,ff,ff,ff,ff,ff,ff,ff,ff,ff,ff,ff,ff,ff,ff,ff,ff,ff,ff,ff,ff,ff,ff,ff,ff,ff,ff,ff,ff,ff,ff] _ _
  refine wpAnyH_take (i := 28) (v := ?vR1x21) (by (try simp only [gA, gB, gC]); rfl) (by kernel_rfl) (by kernel_rfl) (by kernel_rfl) (by exact fun _ _ _ h => h) (Or.inl ⟨by first | kernel_rfl | rfl, ?hyR1x21⟩) (by exact hS) ?rsR1x21
  case hyR1x21 => (intro uz hSw; (try dsimp only at hSw); have hxx := HC.out.q hSw; have k3 := hxx.cell 3 rfl; have k4 := hxx.cell 4 rfl; have k5 := hxx.cell 5 rfl; have k6 := hxx.cell 6 rfl; have k7 := hxx.cell 7 rfl; have k8 := hxx.cell 8 rfl; have k9 := hxx.cell 9 rfl; clear hxx; go_simp; try with_reducible rfl)
  try simp only [Act.put, sA, sB, sC]
  change wpAnyH _ _ _ _ _ _ #[tt,tt,tt,ff,ff,tt,tt,tt,ff,ff,tt,tt,tt,tt,tt,tt,ff,ff,tt,tt,tt,tt,tt,tt,ff,ff,tt,tt,tt,ff,ff,ff,ff,ff,ff,ff,ff,ff,ff,ff,ff,ff,ff,ff,ff,ff,ff,ff,ff,ff,ff,ff,ff,ff,ff,ff,ff,ff,ff,ff,ff,ff,ff,ff,ff,ff,ff,ff,ff,ff,ff,ff,ff,ff,ff,ff,ff,ff,ff,ff,ff,ff,ff,ff,ff,ff,ff] _ _
  refine wpAnyH_take (i := 29) (v := ?vR1x22) (by (try simp only [gA, gB, gC]); rfl) (by kernel_rfl) (by kernel_rfl) (by kernel_rfl) (by exact fun _ _ _ h => h) (Or.inl ⟨by first | kernel_rfl | rfl, ?hyR1x22⟩) (by exact hS) ?rsR1x22
  case hyR1x22 => (intro uz hSw; (try dsimp only at hSw); go_simp; try with_reducible rfl)
  try simp only [Act.put, sA, sB, sC]
  change wpAnyH _ _ _ _ _ _ #[tt,tt,tt,ff,ff,tt,tt,tt,ff,ff,tt,tt,tt,tt,tt,tt,ff,ff,tt,tt,tt,tt,tt,tt,ff,ff,tt,tt,tt,tt,ff,ff,ff,ff,ff,ff,ff,ff,ff,ff,ff,ff,ff,ff,ff,ff,ff,ff,ff,ff,ff,ff,ff,ff,ff,ff,ff,ff,ff,ff,ff,ff,ff,ff,ff,ff,ff,ff,ff,ff,ff,ff,ff,ff,ff,ff,ff,ff,ff,ff,ff,ff,ff,ff,ff,ff,ff] _ _
  refine wpAnyH_take (i := 30) (v := ?vR1x23) (by (try simp only [gA, gB, gC]); rfl) (by kernel_rfl) (by kernel_rfl) (by kernel_rfl) (by exact fun _ _ _ h => h) (Or.inl ⟨by first | kernel_rfl | rfl, ?hyR1x23⟩) (by exact hS) ?rsR1x23
  case hyR1x23 => (intro uz hSw; (try dsimp only at hSw); go_simp; try with_reducible rfl)
  try simp only [Act.put, sA, sB, sC]
  change wpAnyH _ _ _ _ _ _ #[tt,tt,tt,ff,ff,tt,tt,tt,ff,ff,tt,tt,tt,tt,tt,tt,ff,ff,tt,tt,tt,tt,tt,tt,ff,ff,tt,tt,tt,tt,tt,ff,ff,ff,ff,ff,ff,ff,ff,ff,ff,ff,ff,ff,ff,ff,ff,ff,ff,ff,ff,ff,ff,ff,ff,ff,ff,ff,ff,ff,ff,ff,ff,ff,ff,ff,ff,ff,ff,ff,ff,ff,ff,ff,ff,ff,ff,ff,ff,ff,ff,ff,ff,ff,ff,ff,ff] _ _
  refine wpAnyH_take (i := 31) (v := ?vR1x24) (by (try simp only [gA, gB, gC]); rfl) (by kernel_rfl) (by kernel_rfl) (by kernel_rfl) (by exact fun _ _ _ h => h) (Or.inl ⟨by first | kernel_rfl | rfl, ?hyR1x24⟩) (by exact hS) ?rsR1x24
  case hyR1x24 => (intro uz hSw; (try dsimp only at hSw); have hxx := HC.out.q hSw; have k3 := hxx.cell 3 rfl; have k4 := hxx.cell 4 rfl; have k5 := hxx.cell 5 rfl; have k6 := hxx.cell 6 rfl; have k7 := hxx.cell 7 rfl; have k8 := hxx.cell 8 rfl; have k9 := hxx.cell 9 rfl; clear hxx; go_simp; try with_reducible rfl)
  try simp only [Act.put, sA, sB, sC]
  change wpAnyH _ _ _ _ _ _ #[tt,tt,tt,ff,ff,tt,tt,tt,ff,ff,tt,tt,tt,tt,tt,tt,ff,ff,tt,tt,tt,tt,tt,tt,ff,ff,tt,tt,tt,tt,tt,tt,ff,ff,ff,ff,ff,ff,ff,ff,ff,ff,ff,ff,ff,ff,ff,ff,ff,ff,ff,ff,ff,ff,ff,ff,ff,ff,ff,ff,ff,ff,ff,ff,ff,ff,ff,ff,ff,ff,ff,ff,ff,ff,ff,ff,ff,ff,ff,ff,ff,ff,ff,ff,ff,ff,ff] _ _
  refine wpAnyH_take (i := 34) (v := ?vR1x25) (by (try simp only [gA, gB, gC]); rfl) (by kernel_rfl) (by kernel_rfl) (by kernel_rfl) (by exact fun _ _ _ h => h) (Or.inl ⟨by first | kernel_rfl | rfl, ?hyR1x25⟩) (by exact hS) ?rsR1x25
  case hyR1x25 => (intro uz hSw; (try dsimp only at hSw); go_simp; try with_reducible rfl)
  try simp only [Act.put, sA, sB, sC]
  change wpAnyH _ _ _ _ _ _ #[tt,tt,tt,ff,ff,tt,tt,tt,ff,ff,tt,tt,tt,tt,tt,tt,ff,ff,tt,tt,tt,tt,tt,tt,ff,ff,tt,tt,tt,tt,tt,tt,ff,ff,tt,ff,ff,ff,ff,ff,ff,ff,ff,ff,ff,ff,ff,ff,ff,ff,ff,ff,ff,ff,ff,ff,ff,ff,ff,ff,ff,ff,ff,ff,ff,ff,ff,ff,ff,ff,ff,ff,ff,ff,ff,ff,ff,ff,ff,ff,ff,ff,ff,ff,ff,ff,ff] _ _
  refine wpAnyH_take (i := 35) (v := ?vR1x26) (by (try simp only [gA, gB, gC]); rfl) (by kernel_rfl) (by kernel_rfl) (by kernel_rfl) (by exact fun _ _ _ h => h) (Or.inl ⟨by first | kernel_rfl | rfl, ?hyR1x26⟩) (by exact hS) ?rsR1x26
  case hyR1x26 => (intro uz hSw; (try dsimp only at hSw); go_simp; try with_reducible rfl)
  try simp only [Act.put, sA, sB, sC]
  change wpAnyH _ _ _ _ _ _ #[tt,tt,tt,ff,ff,tt,tt,tt,ff,ff,tt,tt,tt,tt,tt,tt,ff,ff,tt,tt,tt,tt,tt,tt,ff,ff,tt,tt,tt,tt,tt,tt,ff,ff,tt,tt,ff,ff,ff,ff,ff,ff,ff,ff,ff,ff,ff,ff,ff,ff,ff,ff,ff,ff,ff,ff,ff,ff,ff,ff,ff,ff,ff,ff,ff,ff,ff,ff,ff,ff,ff,ff,ff,ff,ff,ff,ff,ff,ff,ff,ff,ff,ff,ff,ff,ff,ff] _ _
  refine wpAnyH_take (i := 36) (v := ?vR1x27) (by (try simp only [gA, gB, gC]); rfl) (by kernel_rfl) (by kernel_rfl) (by kernel_rfl) (by exact fun _ _ _ h => h) (Or.inl ⟨by first | kernel_rfl | rfl, ?hyR1x27⟩) (by exact hS) ?rsR1x27
  case hyR1x27 => (intro uz hSw; (try dsimp only at hSw); have hxx := HC.out.q hSw; have k3 := hxx.cell 3 rfl; have k4 := hxx.cell 4 rfl; have k5 := hxx.cell 5 rfl; have k6 := hxx.cell 6 rfl; have k7 := hxx.cell 7 rfl; have k8 := hxx.cell 8 rfl; have k9 := hxx.cell 9 rfl; clear hxx; go_simp; try with_reducible rfl)
  try simp only [Act.put, sA, sB, sC]
  change wpAnyH _ _ _ _ _ _ #[tt,tt,tt,ff,ff,tt,tt,tt,ff,ff,tt,tt,tt,tt,tt,tt,ff,ff,tt,tt,tt,tt,tt,tt,ff,ff,tt,tt,tt,tt,tt,tt,ff,ff,tt,tt,tt,ff,ff,ff,ff,ff,ff,ff,ff,ff,ff,ff,ff,ff,ff,ff,ff,ff,ff,ff,ff,ff,ff,ff,ff,ff,ff,ff,ff,ff,ff,ff,ff,ff,ff,ff,ff,ff,ff,ff,ff,ff,ff,ff,ff,ff,ff,ff,ff,ff,ff] _ _
  refine wpAnyH_take (i := 40) (v := ?vR1x28) (by (try simp only [gA, gB, gC]); rfl) (by kernel_rfl) (by kernel_rfl) (by kernel_rfl) (by exact fun _ _ _ h => h) (Or.inl ⟨by first | kernel_rfl | rfl, ?hyR1x28⟩) (by exact hS) ?rsR1x28
  case hyR1x28 => (intro uz hSw; (try dsimp only at hSw); go_simp; try with_reducible rfl)
  try simp only [Act.put, sA, sB, sC]
  change wpAnyH _ _ _ _ _ _ #[tt,tt,tt,ff,ff,tt,tt,tt,ff,ff,tt,tt,tt,tt,tt,tt,ff,ff,tt,tt,tt,tt,tt,tt,ff,ff,tt,tt,tt,tt,tt,tt,ff,ff,tt,tt,tt,ff,ff,ff,tt,ff,ff,ff,ff,ff,ff,ff,ff,ff,ff,ff,ff,ff,ff,ff,ff,ff,ff,ff,ff,ff,ff,ff,ff,ff,ff,ff,ff,ff,ff,ff,ff,ff,ff,ff,ff,ff,ff,ff,ff,ff,ff,ff,ff,ff,ff] _ _
  refine wpAnyH_take (i := 41) (v := ?vR1x29) (by (try simp only [gA, gB, gC]); rfl) (by kernel_rfl) (by kernel_rfl) (by kernel_rfl) (by exact fun _ _ _ h => h) (Or.inl ⟨by first | kernel_rfl | rfl, ?hyR1x29⟩) (by exact hS) ?rsR1x29
  case hyR1x29 => (intro uz hSw; (try dsimp only at hSw); go_simp; try with_reducible rfl)
  try simp only [Act.put, sA, sB, sC]
  change wpAnyH _ _ _ _ _ _ #[tt,tt,tt,ff,ff,tt,tt,tt,ff,ff,tt,tt,tt,tt,tt,tt,ff,ff,tt,tt,tt,tt,tt,tt,ff,ff,tt,tt,tt,tt,tt,tt,ff,ff,tt,tt,tt,ff,ff,ff,tt,tt,ff,ff,ff,ff,ff,ff,ff,ff,ff,ff,ff,ff,ff,ff,ff,ff,ff,ff,ff,ff,ff,ff,ff,ff,ff,ff,ff,ff,ff,ff,ff,ff,ff,ff,ff,ff,ff,ff,ff,ff,ff,ff,ff,ff,ff] _ _
  refine wpAnyH_take (i := 42) (v := ?vR1x30) (by (try simp only [gA, gB, gC]); rfl) (by kernel_rfl) (by kernel_rfl) (by kernel_rfl) (by exact fun _ _ _ h => h) (Or.inl ⟨by first | kernel_rfl | rfl, ?hyR1x30⟩) (by exact hS) ?rsR1x30
  case hyR1x30 => (intro uz hSw; (try dsimp only at hSw); have hxx := HC.out.q hSw; have k3 := hxx.cell 3 rfl; have k4 := hxx.cell 4 rfl; have k5 := hxx.cell 5 rfl; have k6 := hxx.cell 6 rfl; have k7 := hxx.cell 7 rfl; have k8 := hxx.cell 8 rfl; have k9 := hxx.cell 9 rfl; clear hxx; go_simp; try with_reducible rfl)
  try simp only [Act.put, sA, sB, sC]
  change wpAnyH _ _ _ _ _ _ #[tt,tt,tt,ff,ff,tt,tt,tt,ff,ff,tt,tt,tt,tt,tt,tt,ff,ff,tt,tt,tt,tt,tt,tt,ff,ff,tt,tt,tt,tt,tt,tt,ff,ff,tt,tt,tt,ff,ff,ff,tt,tt,tt,ff,ff,ff,ff,ff,ff,ff,ff,ff,ff,ff,ff,ff,ff,ff,ff,ff,ff,ff,ff,ff,ff,ff,ff,ff,ff,ff,ff,ff,ff,ff,ff,ff,ff,ff,ff,ff,ff,ff,ff,ff,ff,ff,ff] _ _
  refine wpAnyH_take (i := 45) (v := ?vR1x31) (by (try simp only [gA, gB, gC]); rfl) (by kernel_rfl) (by kernel_rfl) (by kernel_rfl) (by exact fun _ _ _ h => h) (Or.inl ⟨by first | kernel_rfl | rfl, ?hyR1x31⟩) (by exact hS) ?rsR1x31
  case hyR1x31 => (intro uz hSw; (try dsimp only at hSw); go_simp; try with_reducible rfl)
  try simp only [Act.put, sA, sB, sC]
  change wpAnyH _ _ _ _ _ _ #[tt,tt,tt,ff,ff,tt,tt,tt,ff,ff,tt,tt,tt,tt,tt,tt,ff,ff,tt,tt,tt,tt,tt,tt,ff,ff,tt,tt,tt,tt,tt,tt,ff,ff,tt,tt,tt,ff,ff,ff,tt,tt,tt,ff,ff,tt,ff,ff,ff,ff,ff,ff,ff,ff,ff,ff,ff,ff,ff,ff,ff,ff,ff,ff,ff,ff,ff,ff,ff,ff,ff,ff,ff,ff,ff,ff,ff,ff,ff,ff,ff,ff,ff,ff,ff,ff,ff] _ _
  refine wpAnyH_take (i := 46) (v := ?vR1x32) (by (try simp only [gA, gB, gC]); rfl) (by kernel_rfl) (by kernel_rfl) (by kernel_rfl) (by exact fun _ _ _ h => h) (Or.inl ⟨by first | kernel_rfl | rfl, ?hyR1x32⟩) (by exact hS) ?rsR1x32
  case hyR1x32 => (intro uz hSw; (try dsimp only at hSw); go_simp; try with_reducible rfl)
  try simp only [Act.put, sA, sB, sC]
  change wpAnyH _ _ _ _ _ _ #[tt,tt,tt,ff,ff,tt,tt,tt,ff,ff,tt,tt,tt,tt,tt,tt,ff,ff,tt,tt,tt,tt,tt,tt,ff,ff,tt,tt,tt,tt,tt,tt,ff,ff,tt,tt,tt,ff,ff,ff,tt,tt,tt,ff,ff,tt,tt,ff,ff,ff,ff,ff,ff,ff,ff,ff,ff,ff,ff,ff,ff,ff,ff,ff,ff,ff,ff,ff,ff,ff,ff,ff,ff,ff,ff,ff,ff,ff,ff,ff,ff,ff,ff,ff,ff,ff,ff] _ _
  refine wpAnyH_take (i := 47) (v := ?vR1x33) (by (try simp only [gA, gB, gC]); rfl) (by kernel_rfl) (by kernel_rfl) (by kernel_rfl) (by exact fun _ _ _ h => h) (Or.inl ⟨by first | kernel_rfl | rfl, ?hyR1x33⟩) (by exact hS) ?rsR1x33
  case hyR1x33 => (intro uz hSw; (try dsimp only at hSw); go_simp; try with_reducible rfl)
  try simp only [Act.put, sA, sB, sC]
  change wpAnyH _ _ _ _ _ _ #[tt,tt,tt,ff,ff,tt,tt,tt,ff,ff,tt,tt,tt,tt,tt,tt,ff,ff,tt,tt,tt,tt,tt,tt,ff,ff,tt,tt,tt,tt,tt,tt,ff,ff,tt,tt,tt,ff,ff,ff,tt,tt,tt,ff,ff,tt,tt,tt,ff,ff,ff,ff,ff,ff,ff,ff,ff,ff,ff,ff,ff,ff,ff,ff,ff,ff,ff,ff,ff,ff,ff,ff,ff,ff,ff,ff,ff,ff,ff,ff,ff,ff,ff,ff,ff,ff,ff] _ _
  refine wpAnyH_take (i := 48) (v := ?vR1x34) (by (try simp only [gA, gB, gC]); rfl) (by kernel_rfl) (by kernel_rfl) (by kernel_rfl) (by exact fun _ _ _ h => h) (Or.inl ⟨by first | kernel_rfl | rfl, ?hyR1x34⟩) (by exact hS) ?rsR1x34
  case hyR1x34 => (intro uz hSw; (try dsimp only at hSw); go_simp; try with_reducible rfl)
  try simp only [Act.put, sA, sB, sC]
  change wpAnyH _ _ _ _ _ _ #[tt,tt,tt,ff,ff,tt,tt,tt,ff,ff,tt,tt,tt,tt,tt,tt,ff,ff,tt,tt,tt,tt,tt,tt,ff,ff,tt,tt,tt,tt,tt,tt,ff,ff,tt,tt,tt,ff,ff,ff,tt,tt,tt,ff,ff,tt,tt,tt,tt,ff,ff,ff,ff,ff,ff,ff,ff,ff,ff,ff,ff,ff,ff,ff,ff,ff,ff,ff,ff,ff,ff,ff,ff,ff,ff,ff,ff,ff,ff,ff,ff,ff,ff,ff,ff,ff,ff] _ _
  refine wpAnyH_take (i := 49) (v := ?vR1x35) (by (try simp only [gA, gB, gC]); rfl) (by kernel_rfl) (by kernel_rfl) (by kernel_rfl) (by exact fun _ _ _ h => h) (Or.inl ⟨by first | kernel_rfl | rfl, ?hyR1x35⟩) (by exact hS) ?rsR1x35
  case hyR1x35 => (intro uz hSw; (try dsimp only at hSw); go_simp; try with_reducible rfl)
  try simp only [Act.put, sA, sB, sC]
  change wpAnyH _ _ _ _ _ _ #[tt,tt,tt,ff,ff,tt,tt,tt,ff,ff,tt,tt,tt,tt,tt,tt,ff,ff,tt,tt,tt,tt,tt,tt,ff,ff,tt,tt,tt,tt,tt,tt,ff,ff,tt,tt,tt,ff,ff,ff,tt,tt,tt,ff,ff,tt,tt,tt,tt,tt,ff,ff,ff,ff,ff,ff,ff,ff,ff,ff,ff,ff,ff,ff,ff,ff,ff,ff,ff,ff,ff,ff,ff,ff,ff,ff,ff,ff,ff,ff,ff,ff,ff,ff,ff,ff,ff] _ _
  refine wpAnyH_take (i := 50) (v := ?vR1x36) (by (try simp only [gA, gB, gC]); rfl) (by kernel_rfl) (by kernel_rfl) (by kernel_rfl) (by exact fun _ _ _ h => h) (Or.inl ⟨by first | kernel_rfl | rfl, ?hyR1x36⟩) (by exact hS) ?rsR1x36
  case hyR1x36 => (intro uz hSw; (try dsimp only at hSw); have hxx := HC.out.q hSw; have k3 := hxx.cell 3 rfl; have k4 := hxx.cell 4 rfl; have k5 := hxx.cell 5 rfl; have k6 := hxx.cell 6 rfl; have k7 := hxx.cell 7 rfl; have k8 := hxx.cell 8 rfl; have k9 := hxx.cell 9 rfl; clear hxx; go_simp; try with_reducible rfl)
  try simp only [Act.put, sA, sB, sC]
  change wpAnyH _ _ _ _ _ _ #[tt,tt,tt,ff,ff,tt,tt,tt,ff,ff,tt,tt,tt,tt,tt,tt,ff,ff,tt,tt,tt,tt,tt,tt,ff,ff,tt,tt,tt,tt,tt,tt,ff,ff,tt,tt,tt,ff,ff,ff,tt,tt,tt,ff,ff,tt,tt,tt,tt,tt,tt,ff,ff,ff,ff,ff,ff,ff,ff,ff,ff,ff,ff,ff,ff,ff,ff,ff,ff,ff,ff,ff,ff,ff,ff,ff,ff,ff,ff,ff,ff,ff,ff,ff,ff,ff,ff] _ _
  refine wpAnyH_take (i := 51) (v := ?vR1x37) (by (try simp only [gA, gB, gC]); rfl) (by kernel_rfl) (by kernel_rfl) (by kernel_rfl) (by exact fun _ _ _ h => h) (Or.inl ⟨by first | kernel_rfl | rfl, ?hyR1x37⟩) (by exact hS) ?rsR1x37
  case hyR1x37 => (intro uz hSw; (try dsimp only at hSw); have hxx := HD0.out.q hSw; have d0 := hxx.cell 0 rfl; have d1 := hxx.cell 1 rfl; have d2 := hxx.cell 2 rfl; clear hxx; go_simp; try with_reducible rfl)
  try simp only [Act.put, sA, sB, sC]
  change wpAnyH _ _ _ _ _ _ #[tt,tt,tt,ff,ff,tt,tt,tt,ff,ff,tt,tt,tt,tt,tt,tt,ff,ff,tt,tt,tt,tt,tt,tt,ff,ff,tt,tt,tt,tt,tt,tt,ff,ff,tt,tt,tt,ff,ff,ff,tt,tt,tt,ff,ff,tt,tt,tt,tt,tt,tt,tt,ff,ff,ff,ff,ff,ff,ff,ff,ff,ff,ff,ff,ff,ff,ff,ff,ff,ff,ff,ff,ff,ff,ff,ff,ff,ff,ff,ff,ff,ff,ff,ff,ff,ff,ff] _ _
  refine wpAnyH_take (i := 55) (v := ?vR1x38) (by (try simp only [gA, gB, gC]); rfl) (by kernel_rfl) (by kernel_rfl) (by kernel_rfl) (by exact fun _ _ _ h => h) (Or.inl ⟨by first | kernel_rfl | rfl, ?hyR1x38⟩) (by exact hS) ?rsR1x38
  case hyR1x38 => (intro uz hSw; (try dsimp only at hSw); go_simp; try with_reducible rfl)
  try simp only [Act.put, sA, sB, sC]
  change wpAnyH _ _ _ _ _ _ #[tt,tt,tt,ff,ff,tt,tt,tt,ff,ff,tt,tt,tt,tt,tt,tt,ff,ff,tt,tt,tt,tt,tt,tt,ff,ff,tt,tt,tt,tt,tt,tt,ff,ff,tt,tt,tt,ff,ff,ff,tt,tt,tt,ff,ff,tt,tt,tt,tt,tt,tt,tt,ff,ff,ff,tt,ff,ff,ff,ff,ff,ff,ff,ff,ff,ff,ff,ff,ff,ff,ff,ff,ff,ff,ff,ff,ff,ff,ff,ff,ff,ff,ff,ff,ff,ff,ff] _ _
  refine wpAnyH_take (i := 56) (v := ?vR1x39) (by (try simp only [gA, gB, gC]); rfl) (by kernel_rfl) (by kernel_rfl) (by kernel_rfl) (by exact fun _ _ _ h => h) (Or.inl ⟨by first | kernel_rfl | rfl, ?hyR1x39⟩) (by exact hS) ?rsR1x39
  case hyR1x39 => (intro uz hSw; (try dsimp only at hSw); go_simp; try with_reducible rfl)
  try simp only [Act.put, sA, sB, sC]
  change wpAnyH _ _ _ _ _ _ #[tt,tt,tt,ff,ff,tt,tt,tt,ff,ff,tt,tt,tt,tt,tt,tt,ff,ff,tt,tt,tt,tt,tt,tt,ff,ff,tt,tt,tt,tt,tt,tt,ff,ff,tt,tt,tt,ff,ff,ff,tt,tt,tt,ff,ff,tt,tt,tt,tt,tt,tt,tt,ff,ff,ff,tt,tt,ff,ff,ff,ff,ff,ff,ff,ff,ff,ff,ff,ff,ff,ff,ff,ff,ff,ff,ff,ff,ff,ff,ff,ff,ff,ff,ff,ff,ff,ff] _ _
  refine wpAnyH_take (i := 57) (v := ?vR1x40) (by (try simp only [gA, gB, gC]); rfl) (by kernel_rfl) (by kernel_rfl) (by kernel_rfl) (by exact fun _ _ _ h => h) (Or.inl ⟨by first | kernel_rfl | rfl, ?hyR1x40⟩) (by exact hS) ?rsR1x40
  case hyR1x40 => (intro uz hSw; (try dsimp only at hSw); go_simp; try with_reducible rfl)
  try simp only [Act.put, sA, sB, sC]
  change wpAnyH _ _ _ _ _ _ #[tt,tt,tt,ff,ff,tt,tt,tt,ff,ff,tt,tt,tt,tt,tt,tt,ff,ff,tt,tt,tt,tt,tt,tt,ff,ff,tt,tt,tt,tt,tt,tt,ff,ff,tt,tt,tt,ff,ff,ff,tt,tt,tt,ff,ff,tt,tt,tt,tt,tt,tt,tt,ff,ff,ff,tt,tt,tt,ff,ff,ff,ff,ff,ff,ff,ff,ff,ff,ff,ff,ff,ff,ff,ff,ff,ff,ff,ff,ff,ff,ff,ff,ff,ff,ff,ff,ff] _ _
  refine wpAnyH_take (i := 58) (v := ?vR1x41) (by (try simp only [gA, gB, gC]); rfl) (by kernel_rfl) (by kernel_rfl) (by kernel_rfl) (by exact fun _ _ _ h => h) (Or.inl ⟨by first | kernel_rfl | rfl, ?hyR1x41⟩) (by exact hS) ?rsR1x41
  case hyR1x41 => (intro uz hSw; (try dsimp only at hSw); go_simp; try with_reducible rfl)
  try simp only [Act.put, sA, sB, sC]
  change wpAnyH _ _ _ _ _ _ #[tt,tt,tt,ff,ff,tt,tt,tt,ff,ff,tt,tt,tt,tt,tt,tt,ff,ff,tt,tt,tt,tt,tt,tt,ff,ff,tt,tt,tt,tt,tt,tt,ff,ff,tt,tt,tt,ff,ff,ff,tt,tt,tt,ff,ff,tt,tt,tt,tt,tt,tt,tt,ff,ff,ff,tt,tt,tt,tt,ff,ff,ff,ff,ff,ff,ff,ff,ff,ff,ff,ff,ff,ff,ff,ff,ff,ff,ff,ff,ff,ff,ff,ff,ff,ff,ff,ff] _ _
  refine wpAnyH_take (i := 59) (v := ?vR1x42) (by (try simp only [gA, gB, gC]); rfl) (by kernel_rfl) (by kernel_rfl) (by kernel_rfl) (by exact fun _ _ _ h => h) (Or.inl ⟨by first | kernel_rfl | rfl, ?hyR1x42⟩) (by exact hS) ?rsR1x42
  case hyR1x42 => (intro uz hSw; (try dsimp only at hSw); go_simp; try with_reducible rfl)
  try simp only [Act.put, sA, sB, sC]
  change wpAnyH _ _ _ _ _ _ #[tt,tt,tt,ff,ff,tt,tt,tt,ff,ff,tt,tt,tt,tt,tt,tt,ff,ff,tt,tt,tt,tt,tt,tt,ff,ff,tt,tt,tt,tt,tt,tt,ff,ff,tt,tt,tt,ff,ff,ff,tt,tt,tt,ff,ff,tt,tt,tt,tt,tt,tt,tt,ff,ff,ff,tt,tt,tt,tt,tt,ff,ff,ff,ff,ff,ff,ff,ff,ff,ff,ff,ff,ff,ff,ff,ff,ff,ff,ff,ff,ff,ff,ff,ff,ff,ff,ff] _ _
  refine wpAnyH_take (i := 60) (v := ?vR1x43) (by (try simp only [gA, gB, gC]); rfl) (by kernel_rfl) (by kernel_rfl) (by kernel_rfl) (by exact fun _ _ _ h => h) (Or.inl ⟨by first | kernel_rfl | rfl, ?hyR1x43⟩) (by exact hS) ?rsR1x43
  case hyR1x43 => (intro uz hSw; (try dsimp only at hSw); have hxx := HC.out.q hSw; have k3 := hxx.cell 3 rfl; have k4 := hxx.cell 4 rfl; have k5 := hxx.cell 5 rfl; have k6 := hxx.cell 6 rfl; have k7 := hxx.cell 7 rfl; have k8 := hxx.cell 8 rfl; have k9 := hxx.cell 9 rfl; clear hxx; go_simp; try with_reducible rfl)
  try simp only [Act.put, sA, sB, sC]
  change wpAnyH _ _ _ _ _ _ #[tt,tt,tt,ff,ff,tt,tt,tt,ff,ff,tt,tt,tt,tt,tt,tt,ff,ff,tt,tt,tt,tt,tt,tt,ff,ff,tt,tt,tt,tt,tt,tt,ff,ff,tt,tt,tt,ff,ff,ff,tt,tt,tt,ff,ff,tt,tt,tt,tt,tt,tt,tt,ff,ff,ff,tt,tt,tt,tt,tt,tt,ff,ff,ff,ff,ff,ff,ff,ff,ff,ff,ff,ff,ff,ff,ff,ff,ff,ff,ff,ff,ff,ff,ff,ff,ff,ff] _ _
  refine wpAnyH_take (i := 61) (v := ?vR1x44) (by (try simp only [gA, gB, gC]); rfl) (by kernel_rfl) (by kernel_rfl) (by kernel_rfl) (by exact fun _ _ _ h => h) (Or.inl ⟨by first | kernel_rfl | rfl, ?hyR1x44⟩) (by exact hS) ?rsR1x44
  case hyR1x44 => (intro uz hSw; (try dsimp only at hSw); have hxx := HD1.out.q hSw; have d0 := hxx.cell 0 rfl; have d1 := hxx.cell 1 rfl; have d2 := hxx.cell 2 rfl; clear hxx; go_simp; try with_reducible rfl)
  try simp only [Act.put, sA, sB, sC]
  change wpAnyH _ _ _ _ _ _ #[tt,tt,tt,ff,ff,tt,tt,tt,ff,ff,tt,tt,tt,tt,tt,tt,ff,ff,tt,tt,tt,tt,tt,tt,ff,ff,tt,tt,tt,tt,tt,tt,ff,ff,tt,tt,tt,ff,ff,ff,tt,tt,tt,ff,ff,tt,tt,tt,tt,tt,tt,tt,ff,ff,ff,tt,tt,tt,tt,tt,tt,tt,ff,ff,ff,ff,ff,ff,ff,ff,ff,ff,ff,ff,ff,ff,ff,ff,ff,ff,ff,ff,ff,ff,ff,ff,ff] _ _
  refine wpAnyH_take (i := 65) (v := ?vR1x45) (by (try simp only [gA, gB, gC]); rfl) (by kernel_rfl) (by kernel_rfl) (by kernel_rfl) (by exact fun _ _ _ h => h) (Or.inl ⟨by first | kernel_rfl | rfl, ?hyR1x45⟩) (by exact hS) ?rsR1x45
  case hyR1x45 => (intro uz hSw; (try dsimp only at hSw); go_simp; try with_reducible rfl)
  try simp only [Act.put, sA, sB, sC]
  change wpAnyH _ _ _ _ _ _ #[tt,tt,tt,ff,ff,tt,tt,tt,ff,ff,tt,tt,tt,tt,tt,tt,ff,ff,tt,tt,tt,tt,tt,tt,ff,ff,tt,tt,tt,tt,tt,tt,ff,ff,tt,tt,tt,ff,ff,ff,tt,tt,tt,ff,ff,tt,tt,tt,tt,tt,tt,tt,ff,ff,ff,tt,tt,tt,tt,tt,tt,tt,ff,ff,ff,tt,ff,ff,ff,ff,ff,ff,ff,ff,ff,ff,ff,ff,ff,ff,ff,ff,ff,ff,ff,ff,ff] _ _
  refine wpAnyH_take (i := 66) (v := ?vR1x46) (by (try simp only [gA, gB, gC]); rfl) (by kernel_rfl) (by kernel_rfl) (by kernel_rfl) (by exact fun _ _ _ h => h) (Or.inl ⟨by first | kernel_rfl | rfl, ?hyR1x46⟩) (by exact hS) ?rsR1x46
  case hyR1x46 => (intro uz hSw; (try dsimp only at hSw); go_simp; try with_reducible rfl)
  try simp only [Act.put, sA, sB, sC]
  change wpAnyH _ _ _ _ _ _ #[tt,tt,tt,ff,ff,tt,tt,tt,ff,ff,tt,tt,tt,tt,tt,tt,ff,ff,tt,tt,tt,tt,tt,tt,ff,ff,tt,tt,tt,tt,tt,tt,ff,ff,tt,tt,tt,ff,ff,ff,tt,tt,tt,ff,ff,tt,tt,tt,tt,tt,tt,tt,ff,ff,ff,tt,tt,tt,tt,tt,tt,tt,ff,ff,ff,tt,tt,ff,ff,ff,ff,ff,ff,ff,ff,ff,ff,ff,ff,ff,ff,ff,ff,ff,ff,ff,ff] _ _
  refine wpAnyH_take (i := 67) (v := ?vR1x47) (by (try simp only [gA, gB, gC]); rfl) (by kernel_rfl) (by kernel_rfl) (by kernel_rfl) (by exact fun _ _ _ h => h) (Or.inl ⟨by first | kernel_rfl | rfl, ?hyR1x47⟩) (by exact hS) ?rsR1x47
  case hyR1x47 => (intro uz hSw; (try dsimp only at hSw); go_simp; try with_reducible rfl)
  try simp only [Act.put, sA, sB, sC]
  change wpAnyH _ _ _ _ _ _ #[tt,tt,tt,ff,ff,tt,tt,tt,ff,ff,tt,tt,tt,tt,tt,tt,ff,ff,tt,tt,tt,tt,tt,tt,ff,ff,tt,tt,tt,tt,tt,tt,ff,ff,tt,tt,tt,ff,ff,ff,tt,tt,tt,ff,ff,tt,tt,tt,tt,tt,tt,tt,ff,ff,ff,tt,tt,tt,tt,tt,tt,tt,ff,ff,ff,tt,tt,tt,ff,ff,ff,ff,ff,ff,ff,ff,ff,ff,ff,ff,ff,ff,ff,ff,ff,ff,ff] _ _
  refine wpAnyH_take (i := 68) (v := ?vR1x48) (by (try simp only [gA, gB, gC]); rfl) (by kernel_rfl) (by kernel_rfl) (by kernel_rfl) (by exact fun _ _ _ h => h) (Or.inl ⟨by first | kernel_rfl | rfl, ?hyR1x48⟩) (by exact hS) ?rsR1x48
  case hyR1x48 => (intro uz hSw; (try dsimp only at hSw); go_simp; try with_reducible rfl)
  try simp only [Act.put, sA, sB, sC]
  change wpAnyH _ _ _ _ _ _ #[tt,tt,tt,ff,ff,tt,tt,tt,ff,ff,tt,tt,tt,tt,tt,tt,ff,ff,tt,tt,tt,tt,tt,tt,ff,ff,tt,tt,tt,tt,tt,tt,ff,ff,tt,tt,tt,ff,ff,ff,tt,tt,tt,ff,ff,tt,tt,tt,tt,tt,tt,tt,ff,ff,ff,tt,tt,tt,tt,tt,tt,tt,ff,ff,ff,tt,tt,tt,tt,ff,ff,ff,ff,ff,ff,ff,ff,ff,ff,ff,ff,ff,ff,ff,ff,ff,ff] _ _
  refine wpAnyH_take (i := 69) (v := ?vR1x49) (by (try simp only [gA, gB, gC]); rfl) (by kernel_rfl) (by kernel_rfl) (by kernel_rfl) (by exact fun _ _ _ h => h) (Or.inl ⟨by first | kernel_rfl | rfl, ?hyR1x49⟩) (by exact hS) ?rsR1x49
  case hyR1x49 => (intro uz hSw; (try dsimp only at hSw); go_simp; try with_reducible rfl)
  try simp only [Act.put, sA, sB, sC]
  change wpAnyH _ _ _ _ _ _ #[tt,tt,tt,ff,ff,tt,tt,tt,ff,ff,tt,tt,tt,tt,tt,tt,ff,ff,tt,tt,tt,tt,tt,tt,ff,ff,tt,tt,tt,tt,tt,tt,ff,ff,tt,tt,tt,ff,ff,ff,tt,tt,tt,ff,ff,tt,tt,tt,tt,tt,tt,tt,ff,ff,ff,tt,tt,tt,tt,tt,tt,tt,ff,ff,ff,tt,tt,tt,tt,tt,ff,ff,ff,ff,ff,ff,ff,ff,ff,ff,ff,ff,ff,ff,ff,ff,ff] _ _
  refine wpAnyH_take (i := 70) (v := ?vR1x50) (by (try simp only [gA, gB, gC]); rfl) (by kernel_rfl) (by kernel_rfl) (by kernel_rfl) (by exact fun _ _ _ h => h) (Or.inl ⟨by first | kernel_rfl | rfl, ?hyR1x50⟩) (by exact hS) ?rsR1x50
  case hyR1x50 => (intro uz hSw; (try dsimp only at hSw); have hxx := HC.out.q hSw; have k3 := hxx.cell 3 rfl; have k4 := hxx.cell 4 rfl; have k5 := hxx.cell 5 rfl; have k6 := hxx.cell 6 rfl; have k7 := hxx.cell 7 rfl; have k8 := hxx.cell 8 rfl; have k9 := hxx.cell 9 rfl; clear hxx; go_simp; try with_reducible rfl)
  try simp only [Act.put, sA, sB, sC]
  change wpAnyH _ _ _ _ _ _ #[tt,tt,tt,ff,ff,tt,tt,tt,ff,ff,tt,tt,tt,tt,tt,tt,ff,ff,tt,tt,tt,tt,tt,tt,ff,ff,tt,tt,tt,tt,tt,tt,ff,ff,tt,tt,tt,ff,ff,ff,tt,tt,tt,ff,ff,tt,tt,tt,tt,tt,tt,tt,ff,ff,ff,tt,tt,tt,tt,tt,tt,tt,ff,ff,ff,tt,tt,tt,tt,tt,tt,ff,ff,ff,ff,ff,ff,ff,ff,ff,ff,ff,ff,ff,ff,ff,ff] _ _
  refine wpAnyH_take (i := 71) (v := ?vR1x51) (by (try simp only [gA, gB, gC]); rfl) (by kernel_rfl) (by kernel_rfl) (by kernel_rfl) (by exact fun _ _ _ h => h) (Or.inl ⟨by first | kernel_rfl | rfl, ?hyR1x51⟩) (by exact hS) ?rsR1x51
  case hyR1x51 => (intro uz hSw; (try dsimp only at hSw); have hxx := HD2.out.q hSw; have d0 := hxx.cell 0 rfl; have d1 := hxx.cell 1 rfl; have d2 := hxx.cell 2 rfl; clear hxx; go_simp; try with_reducible rfl)
  try simp only [Act.put, sA, sB, sC]
  change wpAnyH _ _ _ _ _ _ #[tt,tt,tt,ff,ff,tt,tt,tt,ff,ff,tt,tt,tt,tt,tt,tt,ff,ff,tt,tt,tt,tt,tt,tt,ff,ff,tt,tt,tt,tt,tt,tt,ff,ff,tt,tt,tt,ff,ff,ff,tt,tt,tt,ff,ff,tt,tt,tt,tt,tt,tt,tt,ff,ff,ff,tt,tt,tt,tt,tt,tt,tt,ff,ff,ff,tt,tt,tt,tt,tt,tt,tt,ff,ff,ff,ff,ff,ff,ff,ff,ff,ff,ff,ff,ff,ff,ff] _ _
  refine wpAnyH_take (i := 75) (v := ?vR1x52) (by (try simp only [gA, gB, gC]); rfl) (by kernel_rfl) (by kernel_rfl) (by kernel_rfl) (by exact fun _ _ _ h => h) (Or.inl ⟨by first | kernel_rfl | rfl, ?hyR1x52⟩) (by exact hS) ?rsR1x52
  case hyR1x52 => (intro uz hSw; (try dsimp only at hSw); have hxx := HD2.out.q hSw; have d0 := hxx.cell 0 rfl; have d1 := hxx.cell 1 rfl; have d2 := hxx.cell 2 rfl; clear hxx; go_simp; try with_reducible rfl)
  try simp only [Act.put, sA, sB, sC]
  change wpAnyH _ _ _ _ _ _ #[tt,tt,tt,ff,ff,tt,tt,tt,ff,ff,tt,tt,tt,tt,tt,tt,ff,ff,tt,tt,tt,tt,tt,tt,ff,ff,tt,tt,tt,tt,tt,tt,ff,ff,tt,tt,tt,ff,ff,ff,tt,tt,tt,ff,ff,tt,tt,tt,tt,tt,tt,tt,ff,ff,ff,tt,tt,tt,tt,tt,tt,tt,ff,ff,ff,tt,tt,tt,tt,tt,tt,tt,ff,ff,ff,tt,ff,ff,ff,ff,ff,ff,ff,ff,ff,ff,ff] _ _
  refine wpAnyH_take (i := 79) (v := ?vR1x53) (by (try simp only [gA, gB, gC]); rfl) (by kernel_rfl) (by kernel_rfl) (by kernel_rfl) (by exact fun _ _ _ h => h) (Or.inl ⟨by first | kernel_rfl | rfl, ?hyR1x53⟩) (by exact hS) ?rsR1x53
  case hyR1x53 => (intro uz hSw; (try dsimp only at hSw); have hxx := HD0.out.q hSw; have d0 := hxx.cell 0 rfl; have d1 := hxx.cell 1 rfl; have d2 := hxx.cell 2 rfl; clear hxx; go_simp; try with_reducible rfl)
  try simp only [Act.put, sA, sB, sC]
  change wpAnyH _ _ _ _ _ _ #[tt,tt,tt,ff,ff,tt,tt,tt,ff,ff,tt,tt,tt,tt,tt,tt,ff,ff,tt,tt,tt,tt,tt,tt,ff,ff,tt,tt,tt,tt,tt,tt,ff,ff,tt,tt,tt,ff,ff,ff,tt,tt,tt,ff,ff,tt,tt,tt,tt,tt,tt,tt,ff,ff,ff,tt,tt,tt,tt,tt,tt,tt,ff,ff,ff,tt,tt,tt,tt,tt,tt,tt,ff,ff,ff,tt,ff,ff,ff,tt,ff,ff,ff,ff,ff,ff,ff] _ _
  refine wpAnyH_take (i := 80) (v := ?vR1x54) (by (try simp only [gA, gB, gC]); rfl) (by kernel_rfl) (by kernel_rfl) (by kernel_rfl) (by exact fun _ _ _ h => h) (Or.inl ⟨by first | kernel_rfl | rfl, ?hyR1x54⟩) (by exact hS) ?rsR1x54
  case hyR1x54 => (intro uz hSw; (try dsimp only at hSw); have hxx := HD1.out.q hSw; have d0 := hxx.cell 0 rfl; have d1 := hxx.cell 1 rfl; have d2 := hxx.cell 2 rfl; clear hxx; go_simp; try with_reducible rfl)
  try simp only [Act.put, sA, sB, sC]
  change wpAnyH _ _ _ _ _ _ #[tt,tt,tt,ff,ff,tt,tt,tt,ff,ff,tt,tt,tt,tt,tt,tt,ff,ff,tt,tt,tt,tt,tt,tt,ff,ff,tt,tt,tt,tt,tt,tt,ff,ff,tt,tt,tt,ff,ff,ff,tt,tt,tt,ff,ff,tt,tt,tt,tt,tt,tt,tt,ff,ff,ff,tt,tt,tt,tt,tt,tt,tt,ff,ff,ff,tt,tt,tt,tt,tt,tt,tt,ff,ff,ff,tt,ff,ff,ff,tt,tt,ff,ff,ff,ff,ff,ff] _ _
  refine wpAnyH_take (i := 86) (v := ?vR1x55) (by (try simp only [gA, gB, gC]); rfl) (by kernel_rfl) (by kernel_rfl) (by kernel_rfl) (by exact fun _ _ _ h => h) (Or.inl ⟨by first | kernel_rfl | rfl, ?hyR1x55⟩) (by exact hS) ?rsR1x55
  case hyR1x55 => (intro uz hSw; (try dsimp only at hSw); go_simp; try with_reducible rfl)
  try simp only [Act.put, sA, sB, sC]
  change wpAnyH _ _ _ _ _ _ #[tt,tt,tt,ff,ff,tt,tt,tt,ff,ff,tt,tt,tt,tt,tt,tt,ff,ff,tt,tt,tt,tt,tt,tt,ff,ff,tt,tt,tt,tt,tt,tt,ff,ff,tt,tt,tt,ff,ff,ff,tt,tt,tt,ff,ff,tt,tt,tt,tt,tt,tt,tt,ff,ff,ff,tt,tt,tt,tt,tt,tt,tt,ff,ff,ff,tt,tt,tt,tt,tt,tt,tt,ff,ff,ff,tt,ff,ff,ff,tt,tt,ff,ff,ff,ff,ff,tt] _ _
  refine wpAnyH_ready (rs := [3]) (by kernel_rfl) (by simp) ?_
  refine (AllReadyH.cons (by (try simp only [gA, gB, gC]); rfl) (fun K hK => ?_) AllReadyH.nil)
  go_simp
  refine (HO0.out _).mono ?_
  rintro e yR1x56 ⟨rfl, hq⟩
  try (go_wp2_with fail)
  have hS2 := Q.trans hS hq
  refine hK.out _ _ (by exact hS2) (fun hHeld => ?_)
  clear hK K hHeld hS hq
  have hS := hS2
  clear hS2
  try simp only [Act.put, sA, sB, sC]
  change wpAnyH _ _ _ _ _ _ #[tt,tt,tt,tt,ff,tt,tt,tt,ff,ff,tt,tt,tt,tt,tt,tt,ff,ff,tt,tt,tt,tt,tt,tt,ff,ff,tt,tt,tt,tt,tt,tt,ff,ff,tt,tt,tt,ff,ff,ff,tt,tt,tt,ff,ff,tt,tt,tt,tt,tt,tt,tt,ff,ff,ff,tt,tt,tt,tt,tt,tt,tt,ff,ff,ff,tt,tt,tt,tt,tt,tt,tt,ff,ff,ff,tt,ff,ff,ff,tt,tt,ff,ff,ff,ff,ff,tt] _ _
  refine wpAnyH_take (i := 4) (v := ?vR1x57) (by (try simp only [gA, gB, gC]); rfl) (by kernel_rfl) (by kernel_rfl) (by kernel_rfl) (by exact fun _ _ _ h => h) (Or.inl ⟨by first | kernel_rfl | rfl, ?hyR1x57⟩) (by exact hS) ?rsR1x57
  case hyR1x57 => (intro uz hSw; (try dsimp only at hSw); go_simp; try with_reducible rfl)
  try simp only [Act.put, sA, sB, sC]
  change wpAnyH _ _ _ _ _ _ #[tt,tt,tt,tt,tt,tt,tt,tt,ff,ff,tt,tt,tt,tt,tt,tt,ff,ff,tt,tt,tt,tt,tt,tt,ff,ff,tt,tt,tt,tt,tt,tt,ff,ff,tt,tt,tt,ff,ff,ff,tt,tt,tt,ff,ff,tt,tt,tt,tt,tt,tt,tt,ff,ff,ff,tt,tt,tt,tt,tt,tt,tt,ff,ff,ff,tt,tt,tt,tt,tt,tt,tt,ff,ff,ff,tt,ff,ff,ff,tt,tt,ff,ff,ff,ff,ff,tt] _ _
  refine wpAnyH_ready (rs := [8]) (by kernel_rfl) (by simp) ?_
  refine (AllReadyH.cons (by (try simp only [gA, gB, gC]); rfl) (fun K hK => ?_) AllReadyH.nil)
  go_simp
  refine (HO1.out _).mono ?_
  rintro e yR1x58 ⟨rfl, hq⟩
  try (go_wp2_with fail)
  have hS2 := Q.trans hS hq
  refine hK.out _ _ (by exact hS2) (fun hHeld => ?_)
  clear hK K hHeld hS hq
  have hS := hS2
  clear hS2
  try simp only [Act.put, sA, sB, sC]
  change wpAnyH _ _ _ _ _ _ #[tt,tt,tt,tt,tt,tt,tt,tt,tt,ff,tt,tt,tt,tt,tt,tt,ff,ff,tt,tt,tt,tt,tt,tt,ff,ff,tt,tt,tt,tt,tt,tt,ff,ff,tt,tt,tt,ff,ff,ff,tt,tt,tt,ff,ff,tt,tt,tt,tt,tt,tt,tt,ff,ff,ff,tt,tt,tt,tt,tt,tt,tt,ff,ff,ff,tt,tt,tt,tt,tt,tt,tt,ff,ff,ff,tt,ff,ff,ff,tt,tt,ff,ff,ff,ff,ff,tt] _ _
  refine wpAnyH_take (i := 9) (v := ?vR1x59) (by (try simp only [gA, gB, gC]); rfl) (by kernel_rfl) (by kernel_rfl) (by kernel_rfl) (by exact fun _ _ _ h => h) (Or.inl ⟨by first | kernel_rfl | rfl, ?hyR1x59⟩) (by exact hS) ?rsR1x59
  case hyR1x59 => (intro uz hSw; (try dsimp only at hSw); go_simp; try with_reducible rfl)
  try simp only [Act.put, sA, sB, sC]
  change wpAnyH _ _ _ _ _ _ #[tt,tt,tt,tt,tt,tt,tt,tt,tt,tt,tt,tt,tt,tt,tt,tt,ff,ff,tt,tt,tt,tt,tt,tt,ff,ff,tt,tt,tt,tt,tt,tt,ff,ff,tt,tt,tt,ff,ff,ff,tt,tt,tt,ff,ff,tt,tt,tt,tt,tt,tt,tt,ff,ff,ff,tt,tt,tt,tt,tt,tt,tt,ff,ff,ff,tt,tt,tt,tt,tt,tt,tt,ff,ff,ff,tt,ff,ff,ff,tt,tt,ff,ff,ff,ff,ff,tt] _ _
  refine wpAnyH_ready (rs := [16]) (by kernel_rfl) (by simp) ?_
  refine (AllReadyH.cons (by (try simp only [gA, gB, gC]); rfl) (fun K hK => ?_) AllReadyH.nil)
  go_simp
  refine (HO2.out _).mono ?_
  rintro e yR1x60 ⟨rfl, hq⟩
  try (go_wp2_with fail)
  have hS2 := Q.trans hS hq
  refine hK.out _ _ (by exact hS2) (fun hHeld => ?_)
  clear hK K hHeld hS hq
  have hS := hS2
  clear hS2
  try simp only [Act.put, sA, sB, sC]
  change wpAnyH _ _ _ _ _ _ #[tt,tt,tt,tt,tt,tt,tt,tt,tt,tt,tt,tt,tt,tt,tt,tt,tt,ff,tt,tt,tt,tt,tt,tt,ff,ff,tt,tt,tt,tt,tt,tt,ff,ff,tt,tt,tt,ff,ff,ff,tt,tt,tt,ff,ff,tt,tt,tt,tt,tt,tt,tt,ff,ff,ff,tt,tt,tt,tt,tt,tt,tt,ff,ff,ff,tt,tt,tt,tt,tt,tt,tt,ff,ff,ff,tt,ff,ff,ff,tt,tt,ff,ff,ff,ff,ff,tt] _ _
  refine wpAnyH_take (i := 17) (v := ?vR1x61) (by (try simp only [gA, gB, gC]); rfl) (by kernel_rfl) (by kernel_rfl) (by kernel_rfl) (by exact fun _ _ _ h => h) (Or.inl ⟨by first | kernel_rfl | rfl, ?hyR1x61⟩) (by exact hS) ?rsR1x61
  case hyR1x61 => (intro uz hSw; (try dsimp only at hSw); go_simp; try with_reducible rfl)
  try simp only [Act.put, sA, sB, sC]
  change wpAnyH _ _ _ _ _ _ #[tt,tt,tt,tt,tt,tt,tt,tt,tt,tt,tt,tt,tt,tt,tt,tt,tt,tt,tt,tt,tt,tt,tt,tt,ff,ff,tt,tt,tt,tt,tt,tt,ff,ff,tt,tt,tt,ff,ff,ff,tt,tt,tt,ff,ff,tt,tt,tt,tt,tt,tt,tt,ff,ff,ff,tt,tt,tt,tt,tt,tt,tt,ff,ff,ff,tt,tt,tt,tt,tt,tt,tt,ff,ff,ff,tt,ff,ff,ff,tt,tt,ff,ff,ff,ff,ff,tt] _ _
  refine wpAnyH_ready (rs := [24]) (by kernel_rfl) (by simp) ?_
  refine (AllReadyH.cons (by (try simp only [gA, gB, gC]); rfl) (fun K hK => ?_) AllReadyH.nil)
  go_simp
  refine (HO3.out _).mono ?_
  rintro e yR1x62 ⟨rfl, hq⟩
  try (go_wp2_with fail)
  have hS2 := Q.trans hS hq
  refine hK.out _ _ (by exact hS2) (fun hHeld => ?_)
  clear hK K hHeld hS hq
  have hS := hS2
  clear hS2
  try simp only [Act.put, sA, sB, sC]
  change wpAnyH _ _ _ _ _ _ #[tt,tt,tt,tt,tt,tt,tt,tt,tt,tt,tt,tt,tt,tt,tt,tt,tt,tt,tt,tt,tt,tt,tt,tt,tt,ff,tt,tt,tt,tt,tt,tt,ff,ff,tt,tt,tt,ff,ff,ff,tt,tt,tt,ff,ff,tt,tt,tt,tt,tt,tt,tt,ff,ff,ff,tt,tt,tt,tt,tt,tt,tt,ff,ff,ff,tt,tt,tt,tt,tt,tt,tt,ff,ff,ff,tt,ff,ff,ff,tt,tt,ff,ff,ff,ff,ff,tt] _ _
  refine wpAnyH_take (i := 25) (v := ?vR1x63) (by (try simp only [gA, gB, gC]); rfl) (by kernel_rfl) (by kernel_rfl) (by kernel_rfl) (by exact fun _ _ _ h => h) (Or.inl ⟨by first | kernel_rfl | rfl, ?hyR1x63⟩) (by exact hS) ?rsR1x63
  case hyR1x63 => (intro uz hSw; (try dsimp only at hSw); go_simp; try with_reducible rfl)
  try simp only [Act.put, sA, sB, sC]
  change wpAnyH _ _ _ _ _ _ #[tt,tt,tt,tt,tt,tt,tt,tt,tt,tt,tt,tt,tt,tt,tt,tt,tt,tt,tt,tt,tt,tt,tt,tt,tt,tt,tt,tt,tt,tt,tt,tt,ff,ff,tt,tt,tt,ff,ff,ff,tt,tt,tt,ff,ff,tt,tt,tt,tt,tt,tt,tt,ff,ff,ff,tt,tt,tt,tt,tt,tt,tt,ff,ff,ff,tt,tt,tt,tt,tt,tt,tt,ff,ff,ff,tt,ff,ff,ff,tt,tt,ff,ff,ff,ff,ff,tt] _ _
  refine wpAnyH_ready (rs := [32]) (by kernel_rfl) (by simp) ?_
  refine (AllReadyH.cons (by (try simp only [gA, gB, gC]); rfl) (fun K hK => ?_) AllReadyH.nil)
  go_simp
  refine (HO4.out _).mono ?_
  rintro e yR1x64 ⟨rfl, hq⟩
  try (go_wp2_with fail)
  have hS2 := Q.trans hS hq
  refine hK.out _ _ (by exact hS2) (fun hHeld => ?_)
  clear hK K hHeld hS hq
  have hS := hS2
  clear hS2
  try simp only [Act.put, sA, sB, sC]
  change wpAnyH _ _ _ _ _ _ #[tt,tt,tt,tt,tt,tt,tt,tt,tt,tt,tt,tt,tt,tt,tt,tt,tt,tt,tt,tt,tt,tt,tt,tt,tt,tt,tt,tt,tt,tt,tt,tt,tt,ff,tt,tt,tt,ff,ff,ff,tt,tt,tt,ff,ff,tt,tt,tt,tt,tt,tt,tt,ff,ff,ff,tt,tt,tt,tt,tt,tt,tt,ff,ff,ff,tt,tt,tt,tt,tt,tt,tt,ff,ff,ff,tt,ff,ff,ff,tt,tt,ff,ff,ff,ff,ff,tt] _ _
  refine wpAnyH_take (i := 33) (v := ?vR1x65) (by (try simp only [gA, gB, gC]); rfl) (by kernel_rfl) (by kernel_rfl) (by kernel_rfl) (by exact fun _ _ _ h => h) (Or.inl ⟨by first | kernel_rfl | rfl, ?hyR1x65⟩) (by exact hS) ?rsR1x65
  case hyR1x65 => (intro uz hSw; (try dsimp only at hSw); go_simp; try with_reducible rfl)
  try simp only [Act.put, sA, sB, sC]
  change wpAnyH _ _ _ _ _ _ #[tt,tt,tt,tt,tt,tt,tt,tt,tt,tt,tt,tt,tt,tt,tt,tt,tt,tt,tt,tt,tt,tt,tt,tt,tt,tt,tt,tt,tt,tt,tt,tt,tt,tt,tt,tt,tt,ff,ff,ff,tt,tt,tt,ff,ff,tt,tt,tt,tt,tt,tt,tt,ff,ff,ff,tt,tt,tt,tt,tt,tt,tt,ff,ff,ff,tt,tt,tt,tt,tt,tt,tt,ff,ff,ff,tt,ff,ff,ff,tt,tt,ff,ff,ff,ff,ff,tt] _ _
  refine wpAnyH_ready (rs := [37]) (by kernel_rfl) (by simp) ?_
  refine (AllReadyH.cons (by (try simp only [gA, gB, gC]); rfl) (fun K hK => ?_) AllReadyH.nil)
  go_simp
  refine (HNM.out _).mono ?_
  rintro e yR1x66 ⟨rfl, hq⟩
  try (go_wp2_with fail)
  have hS2 := Q.trans hS hq
  refine hK.out _ _ (by exact hS2) (fun hHeld => ?_)
  clear hK K hHeld hS hq
  have hS := hS2
  clear hS2
  try simp only [Act.put, sA, sB, sC]
  change wpAnyH _ _ _ _ _ _ #[tt,tt,tt,tt,tt,tt,tt,tt,tt,tt,tt,tt,tt,tt,tt,tt,tt,tt,tt,tt,tt,tt,tt,tt,tt,tt,tt,tt,tt,tt,tt,tt,tt,tt,tt,tt,tt,tt,ff,ff,tt,tt,tt,ff,ff,tt,tt,tt,tt,tt,tt,tt,ff,ff,ff,tt,tt,tt,tt,tt,tt,tt,ff,ff,ff,tt,tt,tt,tt,tt,tt,tt,ff,ff,ff,tt,ff,ff,ff,tt,tt,ff,ff,ff,ff,ff,tt] _ _
  refine wpAnyH_take (i := 38) (v := ?vR1x67) (by (try simp only [gA, gB, gC]); rfl) (by kernel_rfl) (by kernel_rfl) (by kernel_rfl) (by exact fun _ _ _ h => h) (Or.inl ⟨by first | kernel_rfl | rfl, ?hyR1x67⟩) (by exact hS) ?rsR1x67
  case hyR1x67 => (intro uz hSw; (try dsimp only at hSw); go_simp; try with_reducible rfl)
  try simp only [Act.put, sA, sB, sC]
  change wpAnyH _ _ _ _ _ _ #[tt,tt,tt,tt,tt,tt,tt,tt,tt,tt,tt,tt,tt,tt,tt,tt,tt,tt,tt,tt,tt,tt,tt,tt,tt,tt,tt,tt,tt,tt,tt,tt,tt,tt,tt,tt,tt,tt,tt,ff,tt,tt,tt,ff,ff,tt,tt,tt,tt,tt,tt,tt,ff,ff,ff,tt,tt,tt,tt,tt,tt,tt,ff,ff,ff,tt,tt,tt,tt,tt,tt,tt,ff,ff,ff,tt,ff,ff,ff,tt,tt,ff,ff,ff,ff,ff,tt] _ _
  refine wpAnyH_take (i := 39) (v := ?vR1x68) (by (try simp only [gA, gB, gC]); rfl) (by kernel_rfl) (by kernel_rfl) (by kernel_rfl) (by exact fun _ _ _ h => h) (Or.inl ⟨by first | kernel_rfl | rfl, ?hyR1x68⟩) (by exact hS) ?rsR1x68
  case hyR1x68 => (intro uz hSw; (try dsimp only at hSw); go_simp; try with_reducible rfl)
  try simp only [Act.put, sA, sB, sC]
  change wpAnyH _ _ _ _ _ _ #[tt,tt,tt,tt,tt,tt,tt,tt,tt,tt,tt,tt,tt,tt,tt,tt,tt,tt,tt,tt,tt,tt,tt,tt,tt,tt,tt,tt,tt,tt,tt,tt,tt,tt,tt,tt,tt,tt,tt,tt,tt,tt,tt,ff,ff,tt,tt,tt,tt,tt,tt,tt,ff,ff,ff,tt,tt,tt,tt,tt,tt,tt,ff,ff,ff,tt,tt,tt,tt,tt,tt,tt,ff,ff,ff,tt,ff,ff,ff,tt,tt,ff,ff,ff,ff,ff,tt] _ _
  refine wpAnyH_ready (rs := [43]) (by kernel_rfl) (by simp) ?_
  refine (AllReadyH.cons (by (try simp only [gA, gB, gC]); rfl) (fun K hK => ?_) AllReadyH.nil)
  go_simp
  refine (HO6.out _).mono ?_
  rintro e yR1x69 ⟨rfl, hq⟩
  try (go_wp2_with fail)
  have hS2 := Q.trans hS hq
  refine hK.out _ _ (by exact hS2) (fun hHeld => ?_)
  clear hK K hHeld hS hq
  have hS := hS2
  clear hS2
  try simp only [Act.put, sA, sB, sC]
  change wpAnyH _ _ _ _ _ _ #[tt,tt,tt,tt,tt,tt,tt,tt,tt,tt,tt,tt,tt,tt,tt,tt,tt,tt,tt,tt,tt,tt,tt,tt,tt,tt,tt,tt,tt,tt,tt,tt,tt,tt,tt,tt,tt,tt,tt,tt,tt,tt,tt,tt,ff,tt,tt,tt,tt,tt,tt,tt,ff,ff,ff,tt,tt,tt,tt,tt,tt,tt,ff,ff,ff,tt,tt,tt,tt,tt,tt,tt,ff,ff,ff,tt,ff,ff,ff,tt,tt,ff,ff,ff,ff,ff,tt] _ _
  refine wpAnyH_take (i := 44) (v := ?vR1x70) (by (try simp only [gA, gB, gC]); rfl) (by kernel_rfl) (by kernel_rfl) (by kernel_rfl) (by exact fun _ _ _ h => h) (Or.inl ⟨by first | kernel_rfl | rfl, ?hyR1x70⟩) (by exact hS) ?rsR1x70
  case hyR1x70 => (intro uz hSw; (try dsimp only at hSw); go_simp; try with_reducible rfl)
  try simp only [Act.put, sA, sB, sC]
  change wpAnyH _ _ _ _ _ _ #[tt,tt,tt,tt,tt,tt,tt,tt,tt,tt,tt,tt,tt,tt,tt,tt,tt,tt,tt,tt,tt,tt,tt,tt,tt,tt,tt,tt,tt,tt,tt,tt,tt,tt,tt,tt,tt,tt,tt,tt,tt,tt,tt,tt,tt,tt,tt,tt,tt,tt,tt,tt,ff,ff,ff,tt,tt,tt,tt,tt,tt,tt,ff,ff,ff,tt,tt,tt,tt,tt,tt,tt,ff,ff,ff,tt,ff,ff,ff,tt,tt,ff,ff,ff,ff,ff,tt] _ _
  refine wpAnyH_ready (rs := [52]) (by kernel_rfl) (by simp) ?_
  refine (AllReadyH.cons (by (try simp only [gA, gB, gC]); rfl) (fun K hK => ?_) AllReadyH.nil)
  go_simp
  refine (HH0.out _ _ (HL0.out.q hS)).mono ?_
  rintro e yR1x71 ⟨rfl, hq⟩
  try (go_wp2_with fail)
  have hS2 := Q.trans hS hq
  refine hK.out _ _ (by exact hS2) (fun hHeld => ?_)
  clear hK K hHeld hS hq
  have hS := hS2
  clear hS2
  try simp only [Act.put, sA, sB, sC]
  change wpAnyH _ _ _ _ _ _ #[tt,tt,tt,tt,tt,tt,tt,tt,tt,tt,tt,tt,tt,tt,tt,tt,tt,tt,tt,tt,tt,tt,tt,tt,tt,tt,tt,tt,tt,tt,tt,tt,tt,tt,tt,tt,tt,tt,tt,tt,tt,tt,tt,tt,tt,tt,tt,tt,tt,tt,tt,tt,tt,ff,ff,tt,tt,tt,tt,tt,tt,tt,ff,ff,ff,tt,tt,tt,tt,tt,tt,tt,ff,ff,ff,tt,ff,ff,ff,tt,tt,ff,ff,ff,ff,ff,tt] _ _
  refine wpAnyH_take (i := 53) (v := ?vR1x72) (by (try simp only [gA, gB, gC]); rfl) (by kernel_rfl) (by kernel_rfl) (by kernel_rfl) (by exact fun _ _ _ h => h) (Or.inl ⟨by first | kernel_rfl | rfl, ?hyR1x72⟩) (by exact hS) ?rsR1x72
  case hyR1x72 => (intro uz hSw; (try dsimp only at hSw); go_simp; try with_reducible rfl)
  try simp only [Act.put, sA, sB, sC]
  change wpAnyH _ _ _ _ _ _ #[tt,tt,tt,tt,tt,tt,tt,tt,tt,tt,tt,tt,tt,tt,tt,tt,tt,tt,tt,tt,tt,tt,tt,tt,tt,tt,tt,tt,tt,tt,tt,tt,tt,tt,tt,tt,tt,tt,tt,tt,tt,tt,tt,tt,tt,tt,tt,tt,tt,tt,tt,tt,tt,tt,ff,tt,tt,tt,tt,tt,tt,tt,ff,ff,ff,tt,tt,tt,tt,tt,tt,tt,ff,ff,ff,tt,ff,ff,ff,tt,tt,ff,ff,ff,ff,ff,tt] _ _
  refine wpAnyH_take (i := 54) (v := ?vR1x73) (by (try simp only [gA, gB, gC]); rfl) (by kernel_rfl) (by kernel_rfl) (by kernel_rfl) (by exact fun _ _ _ h => h) (Or.inl ⟨by first | kernel_rfl | rfl, ?hyR1x73⟩) (by exact hS) ?rsR1x73
  case hyR1x73 => (intro uz hSw; (try dsimp only at hSw); go_simp; try with_reducible rfl)
  try simp only [Act.put, sA, sB, sC]
  change wpAnyH _ _ _ _ _ _ #[tt,tt,tt,tt,tt,tt,tt,tt,tt,tt,tt,tt,tt,tt,tt,tt,tt,tt,tt,tt,tt,tt,tt,tt,tt,tt,tt,tt,tt,tt,tt,tt,tt,tt,tt,tt,tt,tt,tt,tt,tt,tt,tt,tt,tt,tt,tt,tt,tt,tt,tt,tt,tt,tt,tt,tt,tt,tt,tt,tt,tt,tt,ff,ff,ff,tt,tt,tt,tt,tt,tt,tt,ff,ff,ff,tt,ff,ff,ff,tt,tt,ff,ff,ff,ff,ff,tt] _ _
  refine wpAnyH_ready (rs := [62]) (by kernel_rfl) (by simp) ?_
  refine (AllReadyH.cons (by (try simp only [gA, gB, gC]); rfl) (fun K hK => ?_) AllReadyH.nil)
  go_simp
  refine (HH1.out _ _ (HL1.out.q hS)).mono ?_
  rintro e yR1x74 ⟨rfl, hq⟩
  try (go_wp2_with fail)
  have hS2 := Q.trans hS hq
  refine hK.out _ _ (by exact hS2) (fun hHeld => ?_)
  clear hK K hHeld hS hq
  have hS := hS2
  clear hS2
  try simp only [Act.put, sA, sB, sC]
  change wpAnyH _ _ _ _ _ _ #[tt,tt,tt,tt,tt,tt,tt,tt,tt,tt,tt,tt,tt,tt,tt,tt,tt,tt,tt,tt,tt,tt,tt,tt,tt,tt,tt,tt,tt,tt,tt,tt,tt,tt,tt,tt,tt,tt,tt,tt,tt,tt,tt,tt,tt,tt,tt,tt,tt,tt,tt,tt,tt,tt,tt,tt,tt,tt,tt,tt,tt,tt,tt,ff,ff,tt,tt,tt,tt,tt,tt,tt,ff,ff,ff,tt,ff,ff,ff,tt,tt,ff,ff,ff,ff,ff,tt] _ _
  refine wpAnyH_take (i := 63) (v := ?vR1x75) (by (try simp only [gA, gB, gC]); rfl) (by kernel_rfl) (by kernel_rfl) (by kernel_rfl) (by exact fun _ _ _ h => h) (Or.inl ⟨by first | kernel_rfl | rfl, ?hyR1x75⟩) (by exact hS) ?rsR1x75
  case hyR1x75 => (intro uz hSw; (try dsimp only at hSw); go_simp; try with_reducible rfl)
  try simp only [Act.put, sA, sB, sC]
  change wpAnyH _ _ _ _ _ _ #[tt,tt,tt,tt,tt,tt,tt,tt,tt,tt,tt,tt,tt,tt,tt,tt,tt,tt,tt,tt,tt,tt,tt,tt,tt,tt,tt,tt,tt,tt,tt,tt,tt,tt,tt,tt,tt,tt,tt,tt,tt,tt,tt,tt,tt,tt,tt,tt,tt,tt,tt,tt,tt,tt,tt,tt,tt,tt,tt,tt,tt,tt,tt,tt,ff,tt,tt,tt,tt,tt,tt,tt,ff,ff,ff,tt,ff,ff,ff,tt,tt,ff,ff,ff,ff,ff,tt] _ _
  refine wpAnyH_take (i := 64) (v := ?vR1x76) (by (try simp only [gA, gB, gC]); rfl) (by kernel_rfl) (by kernel_rfl) (by kernel_rfl) (by exact fun _ _ _ h => h) (Or.inl ⟨by first | kernel_rfl | rfl, ?hyR1x76⟩) (by exact hS) ?rsR1x76
  case hyR1x76 => (intro uz hSw; (try dsimp only at hSw); go_simp; try with_reducible rfl)
  try simp only [Act.put, sA, sB, sC]
  change wpAnyH _ _ _ _ _ _ #[tt,tt,tt,tt,tt,tt,tt,tt,tt,tt,tt,tt,tt,tt,tt,tt,tt,tt,tt,tt,tt,tt,tt,tt,tt,tt,tt,tt,tt,tt,tt,tt,tt,tt,tt,tt,tt,tt,tt,tt,tt,tt,tt,tt,tt,tt,tt,tt,tt,tt,tt,tt,tt,tt,tt,tt,tt,tt,tt,tt,tt,tt,tt,tt,tt,tt,tt,tt,tt,tt,tt,tt,ff,ff,ff,tt,ff,ff,ff,tt,tt,ff,ff,ff,ff,ff,tt] _ _
  refine wpAnyH_ready (rs := [72]) (by kernel_rfl) (by simp) ?_
  refine (AllReadyH.cons (by (try simp only [gA, gB, gC]); rfl) (fun K hK => ?_) AllReadyH.nil)
  go_simp
  refine (HH2.out _ _ (HL2.out.q hS)).mono ?_
  rintro e yR1x77 ⟨rfl, hq⟩
  try (go_wp2_with fail)
  have hS2 := Q.trans hS hq
  refine hK.out _ _ (by exact hS2) (fun hHeld => ?_)
  clear hK K hHeld hS hq
  have hS := hS2
  clear hS2
  try simp only [Act.put, sA, sB, sC]
  change wpAnyH _ _ _ _ _ _ #[tt,tt,tt,tt,tt,tt,tt,tt,tt,tt,tt,tt,tt,tt,tt,tt,tt,tt,tt,tt,tt,tt,tt,tt,tt,tt,tt,tt,tt,tt,tt,tt,tt,tt,tt,tt,tt,tt,tt,tt,tt,tt,tt,tt,tt,tt,tt,tt,tt,tt,tt,tt,tt,tt,tt,tt,tt,tt,tt,tt,tt,tt,tt,tt,tt,tt,tt,tt,tt,tt,tt,tt,tt,ff,ff,tt,ff,ff,ff,tt,tt,ff,ff,ff,ff,ff,tt] _ _
  refine wpAnyH_take (i := 73) (v := ?vR1x78) (by (try simp only [gA, gB, gC]); rfl) (by kernel_rfl) (by kernel_rfl) (by kernel_rfl) (by exact fun _ _ _ h => h) (Or.inl ⟨by first | kernel_rfl | rfl, ?hyR1x78⟩) (by exact hS) ?rsR1x78
  case hyR1x78 => (intro uz hSw; (try dsimp only at hSw); go_simp; try with_reducible rfl)
  try simp only [Act.put, sA, sB, sC]
  change wpAnyH _ _ _ _ _ _ #[tt,tt,tt,tt,tt,tt,tt,tt,tt,tt,tt,tt,tt,tt,tt,tt,tt,tt,tt,tt,tt,tt,tt,tt,tt,tt,tt,tt,tt,tt,tt,tt,tt,tt,tt,tt,tt,tt,tt,tt,tt,tt,tt,tt,tt,tt,tt,tt,tt,tt,tt,tt,tt,tt,tt,tt,tt,tt,tt,tt,tt,tt,tt,tt,tt,tt,tt,tt,tt,tt,tt,tt,tt,tt,ff,tt,ff,ff,ff,tt,tt,ff,ff,ff,ff,ff,tt] _ _
  refine wpAnyH_take (i := 74) (v := ?vR1x79) (by (try simp only [gA, gB, gC]); rfl) (by kernel_rfl) (by kernel_rfl) (by kernel_rfl) (by exact fun _ _ _ h => h) (Or.inl ⟨by first | kernel_rfl | rfl, ?hyR1x79⟩) (by exact hS) ?rsR1x79
  case hyR1x79 => (intro uz hSw; (try dsimp only at hSw); go_simp; try with_reducible rfl)
  try simp only [Act.put, sA, sB, sC]
  change wpAnyH _ _ _ _ _ _ #[tt,tt,tt,tt,tt,tt,tt,tt,tt,tt,tt,tt,tt,tt,tt,tt,tt,tt,tt,tt,tt,tt,tt,tt,tt,tt,tt,tt,tt,tt,tt,tt,tt,tt,tt,tt,tt,tt,tt,tt,tt,tt,tt,tt,tt,tt,tt,tt,tt,tt,tt,tt,tt,tt,tt,tt,tt,tt,tt,tt,tt,tt,tt,tt,tt,tt,tt,tt,tt,tt,tt,tt,tt,tt,tt,tt,ff,ff,ff,tt,tt,ff,ff,ff,ff,ff,tt] _ _
  refine wpAnyH_ready (rs := [76]) (by kernel_rfl) (by simp) ?_
  refine (AllReadyH.cons (by (try simp only [gA, gB, gC]); rfl) (fun K hK => ?_) AllReadyH.nil)
  go_simp
  refine (HS2.out _ _ _ _ (HL2.out.q hS)).mono ?_
  rintro e yR1x80 ⟨rfl, hq⟩
  try (go_wp2_with fail)
  have hS2 := Q.trans hS hq
  refine hK.out _ _ (by exact hS2) (fun hHeld => ?_)
  clear hK K hHeld hS hq
  have hS := hS2
  clear hS2
  try simp only [Act.put, sA, sB, sC]
  change wpAnyH _ _ _ _ _ _ #[tt,tt,tt,tt,tt,tt,tt,tt,tt,tt,tt,tt,tt,tt,tt,tt,tt,tt,tt,tt,tt,tt,tt,tt,tt,tt,tt,tt,tt,tt,tt,tt,tt,tt,tt,tt,tt,tt,tt,tt,tt,tt,tt,tt,tt,tt,tt,tt,tt,tt,tt,tt,tt,tt,tt,tt,tt,tt,tt,tt,tt,tt,tt,tt,tt,tt,tt,tt,tt,tt,tt,tt,tt,tt,tt,tt,tt,ff,ff,tt,tt,ff,ff,ff,ff,ff,tt] _ _
  refine wpAnyH_take (i := 77) (v := ?vR1x81) (by (try simp only [gA, gB, gC]); rfl) (by kernel_rfl) (by kernel_rfl) (by kernel_rfl) (by exact fun _ _ _ h => h) (Or.inl ⟨by first | kernel_rfl | rfl, ?hyR1x81⟩) (by exact hS) ?rsR1x81
  case hyR1x81 => (intro uz hSw; (try dsimp only at hSw); go_simp; try with_reducible rfl)
  try simp only [Act.put, sA, sB, sC]
  change wpAnyH _ _ _ _ _ _ #[tt,tt,tt,tt,tt,tt,tt,tt,tt,tt,tt,tt,tt,tt,tt,tt,tt,tt,tt,tt,tt,tt,tt,tt,tt,tt,tt,tt,tt,tt,tt,tt,tt,tt,tt,tt,tt,tt,tt,tt,tt,tt,tt,tt,tt,tt,tt,tt,tt,tt,tt,tt,tt,tt,tt,tt,tt,tt,tt,tt,tt,tt,tt,tt,tt,tt,tt,tt,tt,tt,tt,tt,tt,tt,tt,tt,tt,tt,ff,tt,tt,ff,ff,ff,ff,ff,tt] _ _
  refine wpAnyH_take (i := 78) (v := ?vR1x82) (by (try simp only [gA, gB, gC]); rfl) (by kernel_rfl) (by kernel_rfl) (by kernel_rfl) (by exact fun _ _ _ h => h) (Or.inl ⟨by first | kernel_rfl | rfl, ?hyR1x82⟩) (by exact hS) ?rsR1x82
  case hyR1x82 => (intro uz hSw; (try dsimp only at hSw); go_simp; try with_reducible rfl)
  try simp only [Act.put, sA, sB, sC]
  change wpAnyH _ _ _ _ _ _ #[tt,tt,tt,tt,tt,tt,tt,tt,tt,tt,tt,tt,tt,tt,tt,tt,tt,tt,tt,tt,tt,tt,tt,tt,tt,tt,tt,tt,tt,tt,tt,tt,tt,tt,tt,tt,tt,tt,tt,tt,tt,tt,tt,tt,tt,tt,tt,tt,tt,tt,tt,tt,tt,tt,tt,tt,tt,tt,tt,tt,tt,tt,tt,tt,tt,tt,tt,tt,tt,tt,tt,tt,tt,tt,tt,tt,tt,tt,tt,tt,tt,ff,ff,ff,ff,ff,tt] _ _
  refine wpAnyH_ready (rs := [81]) (by kernel_rfl) (by simp) ?_
  refine (AllReadyH.cons (by (try simp only [gA, gB, gC]); rfl) (fun K hK => ?_) AllReadyH.nil)
  go_simp
  refine (HC01.out _ _ _ (HL0.out.q hS) (HL1.out.q hS)).mono ?_
  rintro e yR1x83 ⟨rfl, hq⟩
  try (go_wp2_with fail)
  have hS2 := Q.trans hS hq
  refine hK.out _ _ (by exact hS2) (fun hHeld => ?_)
  clear hK K hHeld hS hq
  have hS := hS2
  clear hS2
  try simp only [Act.put, sA, sB, sC]
  change wpAnyH _ _ _ _ _ _ #[tt,tt,tt,tt,tt,tt,tt,tt,tt,tt,tt,tt,tt,tt,tt,tt,tt,tt,tt,tt,tt,tt,tt,tt,tt,tt,tt,tt,tt,tt,tt,tt,tt,tt,tt,tt,tt,tt,tt,tt,tt,tt,tt,tt,tt,tt,tt,tt,tt,tt,tt,tt,tt,tt,tt,tt,tt,tt,tt,tt,tt,tt,tt,tt,tt,tt,tt,tt,tt,tt,tt,tt,tt,tt,tt,tt,tt,tt,tt,tt,tt,tt,ff,ff,ff,ff,tt] _ _
  refine wpAnyH_take (i := 82) (v := ?vR1x84) (by (try simp only [gA, gB, gC]); rfl) (by kernel_rfl) (by kernel_rfl) (by kernel_rfl) (by exact fun _ _ _ h => h) (Or.inl ⟨by first | kernel_rfl | rfl, ?hyR1x84⟩) (by exact hS) ?rsR1x84
  case hyR1x84 => (intro uz hSw; (try dsimp only at hSw); go_simp; try with_reducible rfl)
  try simp only [Act.put, sA, sB, sC]
  change wpAnyH _ _ _ _ _ _ #[tt,tt,tt,tt,tt,tt,tt,tt,tt,tt,tt,tt,tt,tt,tt,tt,tt,tt,tt,tt,tt,tt,tt,tt,tt,tt,tt,tt,tt,tt,tt,tt,tt,tt,tt,tt,tt,tt,tt,tt,tt,tt,tt,tt,tt,tt,tt,tt,tt,tt,tt,tt,tt,tt,tt,tt,tt,tt,tt,tt,tt,tt,tt,tt,tt,tt,tt,tt,tt,tt,tt,tt,tt,tt,tt,tt,tt,tt,tt,tt,tt,tt,tt,ff,ff,ff,tt] _ _
  refine wpAnyH_take (i := 83) (v := ?vR1x85) (by (try simp only [gA, gB, gC]); rfl) (by kernel_rfl) (by kernel_rfl) (by kernel_rfl) (by exact fun _ _ _ h => h) (Or.inl ⟨by first | kernel_rfl | rfl, ?hyR1x85⟩) (by exact hS) ?rsR1x85
  case hyR1x85 => (intro uz hSw; (try dsimp only at hSw); go_simp; try with_reducible rfl)
  try simp only [Act.put, sA, sB, sC]
  change wpAnyH _ _ _ _ _ _ #[tt,tt,tt,tt,tt,tt,tt,tt,tt,tt,tt,tt,tt,tt,tt,tt,tt,tt,tt,tt,tt,tt,tt,tt,tt,tt,tt,tt,tt,tt,tt,tt,tt,tt,tt,tt,tt,tt,tt,tt,tt,tt,tt,tt,tt,tt,tt,tt,tt,tt,tt,tt,tt,tt,tt,tt,tt,tt,tt,tt,tt,tt,tt,tt,tt,tt,tt,tt,tt,tt,tt,tt,tt,tt,tt,tt,tt,tt,tt,tt,tt,tt,tt,tt,ff,ff,tt] _ _
  refine wpAnyH_ready (rs := [84]) (by kernel_rfl) (by simp) ?_
  refine (AllReadyH.cons (by (try simp only [gA, gB, gC]); rfl) (fun K hK => ?_) AllReadyH.nil)
  go_simp
  have hq := (Q.refl yR1x83).alloc (.cells #[.string ⟨#[105, 110, 116, 99, 97, 112]⟩, .int .i64 3, .bool (ob i0 1 64), .string ⟨#[102, 114, 97, 99, 99, 97, 112]⟩, .int .i64 3, .bool (ob i1 0 64), .string ⟨#[115, 99, 97, 108, 101]⟩, .int .i64 3, .bool (ob i2 0 i1), .string ⟨#[109, 105, 110, 105, 110, 116]⟩, .int .i64 3, .bool (ob i3 0 i0), .string ⟨#[109, 105, 110, 102, 114, 97, 99]⟩, .int .i64 3, .bool (ob i4 0 i2), .string ⟨#[109, 111, 100, 101]⟩, .int .i64 7, .bool ((Rm.nm i5).toList.isEmpty), .string ⟨#[104, 105, 115, 116, 111, 114, 121]⟩, .int .i64 3, .bool (ob i6 1 1024), .string ⟨#[109, 105, 110]⟩, .int .i64 (r 0), .bool (r 0 != 0), .string ⟨#[109, 105, 110]⟩, .int .i64 4, .bool (!(ft 0)), .string ⟨#[109, 97, 120]⟩, .int .i64 (r 1), .bool (r 1 != 0), .string ⟨#[109, 97, 120]⟩, .int .i64 4, .bool (!(ft 1)), .string ⟨#[115, 116, 101, 112]⟩, .int .i64 (r 2), .bool (r 2 != 0), .string ⟨#[115, 116, 101, 112]⟩, .int .i64 4, .bool (!(ft 2)), .string ⟨#[115, 116, 101, 112]⟩, .int .i64 3, .bool (decide (c2 ≤ 0)), .string ⟨#[109, 97, 120]⟩, .int .i64 3, .bool (decide (0 < c01))] 66)
  have HBT := Lib.hid (Bk.new yR1x83 66 [.string ⟨#[105, 110, 116, 99, 97, 112]⟩, .int .i64 3, .bool (ob i0 1 64), .string ⟨#[102, 114, 97, 99, 99, 97, 112]⟩, .int .i64 3, .bool (ob i1 0 64), .string ⟨#[115, 99, 97, 108, 101]⟩, .int .i64 3, .bool (ob i2 0 i1), .string ⟨#[109, 105, 110, 105, 110, 116]⟩, .int .i64 3, .bool (ob i3 0 i0), .string ⟨#[109, 105, 110, 102, 114, 97, 99]⟩, .int .i64 3, .bool (ob i4 0 i2), .string ⟨#[109, 111, 100, 101]⟩, .int .i64 7, .bool ((Rm.nm i5).toList.isEmpty), .string ⟨#[104, 105, 115, 116, 111, 114, 121]⟩, .int .i64 3, .bool (ob i6 1 1024), .string ⟨#[109, 105, 110]⟩, .int .i64 (r 0), .bool (r 0 != 0), .string ⟨#[109, 105, 110]⟩, .int .i64 4, .bool (!(ft 0)), .string ⟨#[109, 97, 120]⟩, .int .i64 (r 1), .bool (r 1 != 0), .string ⟨#[109, 97, 120]⟩, .int .i64 4, .bool (!(ft 1)), .string ⟨#[115, 116, 101, 112]⟩, .int .i64 (r 2), .bool (r 2 != 0), .string ⟨#[115, 116, 101, 112]⟩, .int .i64 4, .bool (!(ft 2)), .string ⟨#[115, 116, 101, 112]⟩, .int .i64 3, .bool (decide (c2 ≤ 0)), .string ⟨#[109, 97, 120]⟩, .int .i64 3, .bool (decide (0 < c01))])
  have HW_bT := Lib.hid (Q.le hS)
  have hS2 := Q.trans hS hq
  refine hK.out _ _ (by exact hS2) (fun hHeld => ?_)
  clear hK K hHeld hS hq
  have hS := hS2
  clear hS2
  generalize yR1x83.alloc (.cells #[.string ⟨#[105, 110, 116, 99, 97, 112]⟩, .int .i64 3, .bool (ob i0 1 64), .string ⟨#[102, 114, 97, 99, 99, 97, 112]⟩, .int .i64 3, .bool (ob i1 0 64), .string ⟨#[115, 99, 97, 108, 101]⟩, .int .i64 3, .bool (ob i2 0 i1), .string ⟨#[109, 105, 110, 105, 110, 116]⟩, .int .i64 3, .bool (ob i3 0 i0), .string ⟨#[109, 105, 110, 102, 114, 97, 99]⟩, .int .i64 3, .bool (ob i4 0 i2), .string ⟨#[109, 111, 100, 101]⟩, .int .i64 7, .bool ((Rm.nm i5).toList.isEmpty), .string ⟨#[104, 105, 115, 116, 111, 114, 121]⟩, .int .i64 3, .bool (ob i6 1 1024), .string ⟨#[109, 105, 110]⟩, .int .i64 (r 0), .bool (r 0 != 0), .string ⟨#[109, 105, 110]⟩, .int .i64 4, .bool (!(ft 0)), .string ⟨#[109, 97, 120]⟩, .int .i64 (r 1), .bool (r 1 != 0), .string ⟨#[109, 97, 120]⟩, .int .i64 4, .bool (!(ft 1)), .string ⟨#[115, 116, 101, 112]⟩, .int .i64 (r 2), .bool (r 2 != 0), .string ⟨#[115, 116, 101, 112]⟩, .int .i64 4, .bool (!(ft 2)), .string ⟨#[115, 116, 101, 112]⟩, .int .i64 3, .bool (decide (c2 ≤ 0)), .string ⟨#[109, 97, 120]⟩, .int .i64 3, .bool (decide (0 < c01))] 66) = yR1x86 at *
  generalize yR1x83.heap.size = bT at *
  try simp only [Act.put, sA, sB, sC]
  change wpAnyH _ _ _ _ _ _ #[tt,tt,tt,tt,tt,tt,tt,tt,tt,tt,tt,tt,tt,tt,tt,tt,tt,tt,tt,tt,tt,tt,tt,tt,tt,tt,tt,tt,tt,tt,tt,tt,tt,tt,tt,tt,tt,tt,tt,tt,tt,tt,tt,tt,tt,tt,tt,tt,tt,tt,tt,tt,tt,tt,tt,tt,tt,tt,tt,tt,tt,tt,tt,tt,tt,tt,tt,tt,tt,tt,tt,tt,tt,tt,tt,tt,tt,tt,tt,tt,tt,tt,tt,tt,tt,ff,tt] _ _
  refine wpAnyH_take (i := 85) (v := ?vR1x87) (by (try simp only [gA, gB, gC]); rfl) (by kernel_rfl) (by kernel_rfl) (by kernel_rfl) (by exact fun _ _ _ h => h) (Or.inl ⟨by first | kernel_rfl | rfl, ?hyR1x87⟩) (by exact hS) ?rsR1x87
  case hyR1x87 => (intro uz hSw; (try dsimp only at hSw); go_simp; try with_reducible rfl)
  try simp only [Act.put, sA, sB, sC]
  change wpAnyH _ _ _ _ _ _ #[tt,tt,tt,tt,tt,tt,tt,tt,tt,tt,tt,tt,tt,tt,tt,tt,tt,tt,tt,tt,tt,tt,tt,tt,tt,tt,tt,tt,tt,tt,tt,tt,tt,tt,tt,tt,tt,tt,tt,tt,tt,tt,tt,tt,tt,tt,tt,tt,tt,tt,tt,tt,tt,tt,tt,tt,tt,tt,tt,tt,tt,tt,tt,tt,tt,tt,tt,tt,tt,tt,tt,tt,tt,tt,tt,tt,tt,tt,tt,tt,tt,tt,tt,tt,tt,tt,tt] _ _
  refine wpAnyH_done (by kernel_rfl) ?_ _
  generalize yR1x86 = wT at *
  replace HC := Lib.hid (HC.out.q hS)
  replace HB := Lib.hid (HB.out.q hS)
  replace HD0 := Lib.hid (HD0.out.q hS)
  replace HD1 := Lib.hid (HD1.out.q hS)
  replace HD2 := Lib.hid (HD2.out.q hS)
  replace HL0 := Lib.hid (HL0.out.q hS)
  replace HL1 := Lib.hid (HL1.out.q hS)
  replace HL2 := Lib.hid (HL2.out.q hS)
  replace HQ := Lib.hid (HQ.out.trans hS)
  have HT := Lib.hid (show Bk wT bT 66 (flat Rw) by rw [HFL.out]; exact HBT.out)
  clear HBT HW_bT hS HFL HO0 HO1 HO2 HO3 HO4 HO6 HNM HH0 HH1 HH2 HS2 HC01 HN0 HN1 HN2
  go_wp2_with fail
  go_loopw [116] (fun t wr => ∃ i : Nat, t = .int .i64 i ∧ i ≤ 15 ∧ (∀ j, j < i → (Rw.getD j lk0).2.2 = false) ∧ Q wT wr) (fun t _ => 15 - (intOf t).toNat)
  case atStart => exact ⟨0, rfl, by omega, fun j h => absurd h (by omega), Q.refl _⟩
  case round =>
    obtain ⟨i, rfl, hi15, hall, hq⟩ := hrel
    have HAL := Lib.hid hall
    clear hall
    by_cases hlt : i < 15
    · have hlt2 : (i : Int) < 15 := by omega
      obtain ⟨f0, f1, f2⟩ := flat_get Rw i (by rw [HRL.out]; exact hlt)
      have hcn := HCN.out i hlt
      obtain ⟨nm, hnm⟩ : ∃ x, x = (Rw.getD i lk0).1 := ⟨_, rfl⟩
      obtain ⟨cd, hcd⟩ : ∃ x, x = (Rw.getD i lk0).2.1 := ⟨_, rfl⟩
      obtain ⟨fl, hfl⟩ : ∃ x, x = (Rw.getD i lk0).2.2 := ⟨_, rfl⟩
      rw [← hnm] at f0
      rw [← hcd] at f1 hcn
      rw [← hfl] at f2 hcn
      have ht := HT.out.q hq
      have g0 := ht.cell _ f0
      have g1 := ht.cell _ f1
      have g2 := ht.cell _ f2
      have HNM := Lib.hid hnm
      have HCD := Lib.hid hcd
      have HFG := Lib.hid hfl
      have HCX := Lib.hid hcn
      have HLT := Lib.hid hlt
      clear ht f0 f1 f2 hnm hcd hfl hcn hi15 hlt
      go_upto_region 7 with fail
      obtain ⟨W2, hW2⟩ : ∃ x, x = wr.alloc (.cells #[.string nm, .int .i64 cd, .bool fl] 66) := ⟨_, rfl⟩
      have hqb : Q wr W2 := by rw [hW2]; exact (Q.refl _).alloc _
      have hdb : Bk W2 wr.heap.size 66 [.string nm, .int .i64 cd, .bool fl] := by rw [hW2]; exact Bk.new _ _ _
      have hne : wr.heap.size ≠ w.heap.size + 1 := by have h1 := HB.out.lt; have h2 := hq.le; omega
      obtain ⟨bl, hbl⟩ : ∃ b, b = wr.heap.size := ⟨_, rfl⟩
      rw [← hbl] at hdb hne
      have HLB := Lib.hid hdb
      have HNE := Lib.hid hne
      have HQW := Lib.hid (hq.trans hqb)
      rw [← hW2, ← hbl]
      clear hW2 hbl hqb hdb hne hq g0 g1 g2
      have z2 := HLB.out.cell 2 rfl
      cases fl
      · go_wp2_with fail
        exact ⟨⟨i + 1, by go_num, by have := HLT.out; omega, fun j h => by
          by_cases e : j < i
          · exact HAL.out j e
          · obtain rfl : j = i := by omega
            exact HFG.out.symm, HQW.out⟩, by have := HLT.out; simp [intOf]; omega⟩
      · have HCZ := Lib.hid (HCX.out rfl)
        replace HB := Lib.hid (HB.out.q HQW.out)
        replace HQ := Lib.hid (HQ.out.trans HQW.out)
        go_upto_region 8 with fail
        clear z2
        refine wp_region_held_drew (S := fun u => Kr.SB w W2 (w.heap.size + 1) u) (by kernel_rfl) (by exact Kr.SB.of _ (HQ.out)) (fun hHeld => ?_)
        have hS : Kr.SB w W2 (w.heap.size + 1) W2.drew := hHeld
        clear hHeld
        have hq : Q W2 W2.drew := (Q.refl _).drew
        have HB := Lib.hid (Bk.q HB.out hq)
        clear hq
        generalize W2.drew = yR2x0 at *
        change wpAnyH _ _ _ _ _ _ #[ff,ff,ff,ff,ff,ff,ff,ff,ff] _ _
        refine wpAnyH_take (i := 0) (v := ?vR2x1) (by (try simp only [gA, gB, gC]); rfl) (by kernel_rfl) (by kernel_rfl) (by kernel_rfl) (by exact fun _ _ _ h => h) (Or.inl ⟨by first | kernel_rfl | rfl, ?hyR2x1⟩) (by exact hS) ?rsR2x1
        case hyR2x1 => (intro uz hSw; (try dsimp only at hSw); go_simp; try with_reducible rfl)
        try simp only [Act.put, sA, sB, sC]
        change wpAnyH _ _ _ _ _ _ #[tt,ff,ff,ff,ff,ff,ff,ff,ff] _ _
        refine wpAnyH_take (i := 1) (v := ?vR2x2) (by (try simp only [gA, gB, gC]); rfl) (by kernel_rfl) (by kernel_rfl) (by kernel_rfl) (by exact fun _ _ _ h => h) (Or.inl ⟨by first | kernel_rfl | rfl, ?hyR2x2⟩) (by exact hS) ?rsR2x2
        case hyR2x2 => (intro uz hSw; (try dsimp only at hSw); go_simp; try with_reducible rfl)
        try simp only [Act.put, sA, sB, sC]
        change wpAnyH _ _ _ _ _ _ #[tt,tt,ff,ff,ff,ff,ff,ff,ff] _ _
        refine wpAnyH_take (i := 2) (v := ?vR2x3) (by (try simp only [gA, gB, gC]); rfl) (by kernel_rfl) (by kernel_rfl) (by kernel_rfl) (by exact fun _ _ _ h => h) (Or.inl ⟨by first | kernel_rfl | rfl, ?hyR2x3⟩) (by exact hS) ?rsR2x3
        case hyR2x3 => (intro uz hSw; (try dsimp only at hSw); have hxx := hSw.bk HLB.out HNE.out; have x0 := hxx.cell 0 rfl; have x1 := hxx.cell 1 rfl; have x2 := hxx.cell 2 rfl; clear hxx; go_simp; try with_reducible rfl)
        try simp only [Act.put, sA, sB, sC]
        change wpAnyH _ _ _ _ _ _ #[tt,tt,tt,ff,ff,ff,ff,ff,ff] _ _
        refine wpAnyH_take (i := 3) (v := ?vR2x4) (by (try simp only [gA, gB, gC]); rfl) (by kernel_rfl) (by kernel_rfl) (by kernel_rfl) (by exact fun _ _ _ h => h) (Or.inl ⟨by first | kernel_rfl | rfl, ?hyR2x4⟩) (by exact hS) ?rsR2x4
        case hyR2x4 => (intro uz hSw; (try dsimp only at hSw); go_simp; try with_reducible rfl)
        try simp only [Act.put, sA, sB, sC]
        change wpAnyH _ _ _ _ _ _ #[tt,tt,tt,tt,ff,ff,ff,ff,ff] _ _
        refine wpAnyH_take (i := 4) (v := ?vR2x5) (by (try simp only [gA, gB, gC]); rfl) (by kernel_rfl) (by kernel_rfl) (by kernel_rfl) (by exact fun _ _ _ h => h) (Or.inl ⟨by first | kernel_rfl | rfl, ?hyR2x5⟩) (by exact hS) ?rsR2x5
        case hyR2x5 => (intro uz hSw; (try dsimp only at hSw); have hxx := hSw.bk HLB.out HNE.out; have x0 := hxx.cell 0 rfl; have x1 := hxx.cell 1 rfl; have x2 := hxx.cell 2 rfl; clear hxx; go_simp; try with_reducible rfl)
        try simp only [Act.put, sA, sB, sC]
        change wpAnyH _ _ _ _ _ _ #[tt,tt,tt,tt,tt,ff,ff,ff,ff] _ _
        refine wpAnyH_ready (rs := [5]) (by kernel_rfl) (by simp) ?_
        refine (AllReadyH.cons (by (try simp only [gA, gB, gC]); rfl) (fun K hK => ?_) AllReadyH.nil)
        go_simp
        refine (of_q _ _ HCZ.out).mono ?_
        rintro e yR2x6 ⟨rfl, hq⟩
        try (go_wp2_with fail)
        have HB := Lib.hid (Bk.q HB.out hq)
        have hS2 := Kp.SB.q hS hq
        refine hK.out _ _ (by exact hS2) (fun hHeld => ?_)
        clear hK K hHeld hS hq
        have hS := hS2
        clear hS2
        try simp only [Act.put, sA, sB, sC]
        change wpAnyH _ _ _ _ _ _ #[tt,tt,tt,tt,tt,tt,ff,ff,ff] _ _
        refine wpAnyH_ready (rs := [6]) (by kernel_rfl) (by simp) ?_
        refine (AllReadyH.cons (by (try simp only [gA, gB, gC]); rfl) (fun K hK => ?_) AllReadyH.nil)
        go_simp
        refine (wrap_q _ _ _).mono ?_
        rintro e yR2x7 ⟨gE, rfl, hEV, hq⟩
        have HE := Lib.hid hEV
        clear hEV
        try (go_wp2_with fail)
        have HB := Lib.hid (Bk.q HB.out hq)
        have hS2 := Kp.SB.q hS hq
        refine hK.out _ _ (by exact hS2) (fun hHeld => ?_)
        clear hK K hHeld hS hq
        have hS := hS2
        clear hS2
        try simp only [Act.put, sA, sB, sC]
        change wpAnyH _ _ _ _ _ _ #[tt,tt,tt,tt,tt,tt,tt,ff,ff] _ _
        refine wpAnyH_ready (rs := [7]) (by kernel_rfl) (by simp) ?_
        refine (AllReadyH.cons (by (try simp only [gA, gB, gC]); rfl) (fun K hK => ?_) AllReadyH.nil)
        rw [if_pos (by rfl)]
        refine wp_store_row 39 _ _ rfl (w.heap.size + 1) #[.bool false, .slice none 0 0, .int .i64 0, .bool false, .slice none 0 0, .int .i64 0, .bool false, .slice none 0 0, .int .i64 0, .bool false, .int .i64 0, .int .i64 0, .int .i64 0, .int .i64 0, .int .i64 0, .int .i64 0, .int .i64 0] (by rfl) (by rfl) 39 _ HB.out (by exact infoRp) rfl (Kr.all1 (by rfl)) ?_
        replace HE := Lib.hid (EV_sb (Kr.SB.row (SB.rf (w := w) (u := yR2x7) (w.heap.size + 1) hS.1) (Nat.le_succ _) #[.bool false, .slice none 0 0, .int .i64 0, .bool false, .slice none 0 0, .int .i64 0, .bool false, .slice none 0 0, .int .i64 0, .bool false, .int .i64 0, .int .i64 0, .int .i64 0, .int .i64 0, .int .i64 0, .int .i64 0, .int .i64 0]) HE.out HB.out nef)
        have hS2 := Kr.SB.row hS (Nat.le_succ _) #[.bool false, .slice none 0 0, .int .i64 0, .bool false, .slice none 0 0, .int .i64 0, .bool false, .slice none 0 0, .int .i64 0, .bool false, .int .i64 0, .int .i64 0, .int .i64 0, .int .i64 0, .int .i64 0, .int .i64 0, .int .i64 0]
        replace HB := Lib.hid (Kr.Bk_row HB.out [.bool false, .slice none 0 0, .int .i64 0, .bool false, .slice none 0 0, .int .i64 0, .bool false, .slice none 0 0, .int .i64 0, .bool false, .int .i64 0, .int .i64 0, .int .i64 0, .int .i64 0, .int .i64 0, .int .i64 0, .int .i64 0])
        refine hK.out _ _ (by exact hS2) (fun hHeld => ?_)
        clear hK K hHeld hS
        have hS := hS2
        clear hS2
        generalize yR2x7.setRow (w.heap.size + 1) #[.bool false, .slice none 0 0, .int .i64 0, .bool false, .slice none 0 0, .int .i64 0, .bool false, .slice none 0 0, .int .i64 0, .bool false, .int .i64 0, .int .i64 0, .int .i64 0, .int .i64 0, .int .i64 0, .int .i64 0, .int .i64 0] = yR2x8 at *
        try simp only [Act.put, sA, sB, sC]
        change wpAnyH _ _ _ _ _ _ #[tt,tt,tt,tt,tt,tt,tt,tt,ff] _ _
        refine wpAnyH_take (i := 8) (v := ?vR2x9) (by (try simp only [gA, gB, gC]); rfl) (by kernel_rfl) (by kernel_rfl) (by kernel_rfl) (by exact fun _ _ _ h => h) (Or.inl ⟨by first | kernel_rfl | rfl, ?hyR2x9⟩) (by exact hS) ?rsR2x9
        case hyR2x9 => (intro uz hSw; (try dsimp only at hSw); go_simp; try with_reducible rfl)
        try simp only [Act.put, sA, sB, sC]
        change wpAnyH _ _ _ _ _ _ #[tt,tt,tt,tt,tt,tt,tt,tt,tt] _ _
        refine wpAnyH_done (by kernel_rfl) ?_ _
        go_wp2_with fail
        exact ret_rt (l := [.bool false, .slice none 0 0, .int .i64 0, .bool false, .slice none 0 0, .int .i64 0, .bool false, .slice none 0 0, .int .i64 0, .bool false, .int .i64 0, .int .i64 0, .int .i64 0, .int .i64 0, .int .i64 0, .int .i64 0, .int .i64 0]) rfl Tryz.underlying39 (by exact infoRp) rfl rfl HB.out rfl ⟨.inl ⟨i, by rw [HRL.out]; exact HLT.out, HAL.out, HFG.out.symm, _, by rw [← HCD.out, ← HNM.out]; exact HE.out, rfl⟩, hS.1⟩
    · obtain rfl : i = 15 := by omega
      replace HC := Lib.hid (HC.out.q hq)
      replace HB := Lib.hid (HB.out.q hq)
      replace HD0 := Lib.hid (HD0.out.q hq)
      replace HD1 := Lib.hid (HD1.out.q hq)
      replace HD2 := Lib.hid (HD2.out.q hq)
      replace HL0 := Lib.hid (HL0.out.q hq)
      replace HL1 := Lib.hid (HL1.out.q hq)
      replace HL2 := Lib.hid (HL2.out.q hq)
      replace HQ := Lib.hid (HQ.out.trans hq)
      clear hq hi15 hlt
      go_upto_region 10 with fail
      refine wp_region_held_drew (S := fun u => Kr.SB w wr (w.heap.size + 1) u) (by kernel_rfl) (by exact Kr.SB.of _ (HQ.out)) (fun hHeld => ?_)
      have hS : Kr.SB w wr (w.heap.size + 1) wr.drew := hHeld
      clear hHeld
      have hq : Q wr wr.drew := (Q.refl _).drew
      have HB := Lib.hid (Bk.q HB.out hq)
      clear hq
      generalize wr.drew = yR3x0 at *
      change wpAnyH _ _ _ _ _ _ #[ff,ff,ff,ff,ff,ff,ff,ff,ff,ff,ff] _ _
      refine wpAnyH_take (i := 0) (v := ?vR3x1) (by (try simp only [gA, gB, gC]); rfl) (by kernel_rfl) (by kernel_rfl) (by kernel_rfl) (by exact fun _ _ _ h => h) (Or.inl ⟨by first | kernel_rfl | rfl, ?hyR3x1⟩) (by exact hS) ?rsR3x1
      case hyR3x1 => (intro uz hSw; (try dsimp only at hSw); have hxx := SB.bk hSw HD0.out HE0.out; have d0 := hxx.cell 0 rfl; have d1 := hxx.cell 1 rfl; have d2 := hxx.cell 2 rfl; clear hxx; go_simp; try with_reducible rfl)
      try simp only [Act.put, sA, sB, sC]
      change wpAnyH _ _ _ _ _ _ #[tt,ff,ff,ff,ff,ff,ff,ff,ff,ff,ff] _ _
      refine wpAnyH_take (i := 1) (v := ?vR3x2) (by (try simp only [gA, gB, gC]); rfl) (by kernel_rfl) (by kernel_rfl) (by kernel_rfl) (by exact fun _ _ _ h => h) (Or.inl ⟨by first | kernel_rfl | rfl, ?hyR3x2⟩) (by exact hS) ?rsR3x2
      case hyR3x2 => (intro uz hSw; (try dsimp only at hSw); have hxx := SB.bk hSw HD1.out HE1.out; have d0 := hxx.cell 0 rfl; have d1 := hxx.cell 1 rfl; have d2 := hxx.cell 2 rfl; clear hxx; go_simp; try with_reducible rfl)
      try simp only [Act.put, sA, sB, sC]
      change wpAnyH _ _ _ _ _ _ #[tt,tt,ff,ff,ff,ff,ff,ff,ff,ff,ff] _ _
      refine wpAnyH_take (i := 2) (v := ?vR3x3) (by (try simp only [gA, gB, gC]); rfl) (by kernel_rfl) (by kernel_rfl) (by kernel_rfl) (by exact fun _ _ _ h => h) (Or.inl ⟨by first | kernel_rfl | rfl, ?hyR3x3⟩) (by exact hS) ?rsR3x3
      case hyR3x3 => (intro uz hSw; (try dsimp only at hSw); have hxx := SB.bk hSw HD2.out HE2.out; have d0 := hxx.cell 0 rfl; have d1 := hxx.cell 1 rfl; have d2 := hxx.cell 2 rfl; clear hxx; go_simp; try with_reducible rfl)
      try simp only [Act.put, sA, sB, sC]
      change wpAnyH _ _ _ _ _ _ #[tt,tt,tt,ff,ff,ff,ff,ff,ff,ff,ff] _ _
      refine wpAnyH_take (i := 3) (v := ?vR3x4) (by (try simp only [gA, gB, gC]); rfl) (by kernel_rfl) (by kernel_rfl) (by kernel_rfl) (by exact fun _ _ _ h => h) (Or.inl ⟨by first | kernel_rfl | rfl, ?hyR3x4⟩) (by exact hS) ?rsR3x4
      case hyR3x4 => (intro uz hSw; (try dsimp only at hSw); have hxx := SB.bk hSw HD0.out HE0.out; have d0 := hxx.cell 0 rfl; have d1 := hxx.cell 1 rfl; have d2 := hxx.cell 2 rfl; clear hxx; go_simp; try with_reducible rfl)
      try simp only [Act.put, sA, sB, sC]
      change wpAnyH _ _ _ _ _ _ #[tt,tt,tt,tt,ff,ff,ff,ff,ff,ff,ff] _ _
      refine wpAnyH_take (i := 6) (v := ?vR3x5) (by (try simp only [gA, gB, gC]); rfl) (by kernel_rfl) (by kernel_rfl) (by kernel_rfl) (by exact fun _ _ _ h => h) (Or.inl ⟨by first | kernel_rfl | rfl, ?hyR3x5⟩) (by exact hS) ?rsR3x5
      case hyR3x5 => (intro uz hSw; (try dsimp only at hSw); go_simp; try with_reducible rfl)
      try simp only [Act.put, sA, sB, sC]
      change wpAnyH _ _ _ _ _ _ #[tt,tt,tt,tt,ff,ff,tt,ff,ff,ff,ff] _ _
      refine wpAnyH_take (i := 7) (v := ?vR3x6) (by (try simp only [gA, gB, gC]); rfl) (by kernel_rfl) (by kernel_rfl) (by kernel_rfl) (by exact fun _ _ _ h => h) (Or.inl ⟨by first | kernel_rfl | rfl, ?hyR3x6⟩) (by exact hS) ?rsR3x6
      case hyR3x6 => (intro uz hSw; (try dsimp only at hSw); have hxx := SB.bk hSw HC.out (Nat.ne_of_lt (Nat.lt_succ_self _)); have k3 := hxx.cell 3 rfl; have k4 := hxx.cell 4 rfl; have k5 := hxx.cell 5 rfl; have k6 := hxx.cell 6 rfl; have k7 := hxx.cell 7 rfl; have k8 := hxx.cell 8 rfl; have k9 := hxx.cell 9 rfl; clear hxx; go_simp; try with_reducible rfl)
      try simp only [Act.put, sA, sB, sC]
      change wpAnyH _ _ _ _ _ _ #[tt,tt,tt,tt,ff,ff,tt,tt,ff,ff,ff] _ _
      refine wpAnyH_ready (rs := [4]) (by kernel_rfl) (by simp) ?_
      refine (AllReadyH.cons (by (try simp only [gA, gB, gC]); rfl) (fun K hK => ?_) AllReadyH.nil)
      go_simp
      refine (HS0.out _ _ _ _ (SB.lst hS HL0.out HF0.out)).mono ?_
      rintro e yR3x7 ⟨rfl, hq⟩
      try (go_wp2_with fail)
      have HB := Lib.hid (Bk.q HB.out hq)
      have hS2 := Kp.SB.q hS hq
      refine hK.out _ _ (by exact hS2) (fun hHeld => ?_)
      clear hK K hHeld hS hq
      have hS := hS2
      clear hS2
      try simp only [Act.put, sA, sB, sC]
      change wpAnyH _ _ _ _ _ _ #[tt,tt,tt,tt,tt,ff,tt,tt,ff,ff,ff] _ _
      refine wpAnyH_take (i := 5) (v := ?vR3x8) (by (try simp only [gA, gB, gC]); rfl) (by kernel_rfl) (by kernel_rfl) (by kernel_rfl) (by exact fun _ _ _ h => h) (Or.inl ⟨by first | kernel_rfl | rfl, ?hyR3x8⟩) (by exact hS) ?rsR3x8
      case hyR3x8 => (intro uz hSw; (try dsimp only at hSw); go_simp; try with_reducible rfl)
      try simp only [Act.put, sA, sB, sC]
      change wpAnyH _ _ _ _ _ _ #[tt,tt,tt,tt,tt,tt,tt,tt,ff,ff,ff] _ _
      refine wpAnyH_take (i := 8) (v := ?vR3x9) (by (try simp only [gA, gB, gC]); rfl) (by kernel_rfl) (by kernel_rfl) (by kernel_rfl) (by exact fun _ _ _ h => h) (Or.inl ⟨by first | kernel_rfl | rfl, ?hyR3x9⟩) (by exact hS) ?rsR3x9
      case hyR3x9 => (intro uz hSw; (try dsimp only at hSw); go_simp; try with_reducible rfl)
      try simp only [Act.put, sA, sB, sC]
      change wpAnyH _ _ _ _ _ _ #[tt,tt,tt,tt,tt,tt,tt,tt,tt,ff,ff] _ _
      refine wpAnyH_ready (rs := [9]) (by kernel_rfl) (by simp) ?_
      refine (AllReadyH.cons (by (try simp only [gA, gB, gC]); rfl) (fun K hK => ?_) AllReadyH.nil)
      rw [if_pos (by rfl)]
      refine wp_store_row 39 _ _ rfl (w.heap.size + 1) #[.bool G0, .slice a0 n0 cp0, .int .i64 q0, .bool G1, .slice a1 n1 cp1, .int .i64 q1, .bool G2, .slice a2 n2 cp2, .int .i64 q2, .bool (decide (cs < 0)), .int .i64 i0, .int .i64 i1, .int .i64 i2, .int .i64 i3, .int .i64 i4, .int .i64 i5, .int .i64 i6] (by rfl) (by rfl) 39 _ HB.out (by exact infoRp) rfl (Kr.all1 (by rfl)) ?_
      have hS2 := Kr.SB.row hS (Nat.le_succ _) #[.bool G0, .slice a0 n0 cp0, .int .i64 q0, .bool G1, .slice a1 n1 cp1, .int .i64 q1, .bool G2, .slice a2 n2 cp2, .int .i64 q2, .bool (decide (cs < 0)), .int .i64 i0, .int .i64 i1, .int .i64 i2, .int .i64 i3, .int .i64 i4, .int .i64 i5, .int .i64 i6]
      replace HB := Lib.hid (Kr.Bk_row HB.out [.bool G0, .slice a0 n0 cp0, .int .i64 q0, .bool G1, .slice a1 n1 cp1, .int .i64 q1, .bool G2, .slice a2 n2 cp2, .int .i64 q2, .bool (decide (cs < 0)), .int .i64 i0, .int .i64 i1, .int .i64 i2, .int .i64 i3, .int .i64 i4, .int .i64 i5, .int .i64 i6])
      refine hK.out _ _ (by exact hS2) (fun hHeld => ?_)
      clear hK K hHeld hS
      have hS := hS2
      clear hS2
      generalize yR3x7.setRow (w.heap.size + 1) #[.bool G0, .slice a0 n0 cp0, .int .i64 q0, .bool G1, .slice a1 n1 cp1, .int .i64 q1, .bool G2, .slice a2 n2 cp2, .int .i64 q2, .bool (decide (cs < 0)), .int .i64 i0, .int .i64 i1, .int .i64 i2, .int .i64 i3, .int .i64 i4, .int .i64 i5, .int .i64 i6] = yR3x10 at *
      try simp only [Act.put, sA, sB, sC]
      change wpAnyH _ _ _ _ _ _ #[tt,tt,tt,tt,tt,tt,tt,tt,tt,tt,ff] _ _
      refine wpAnyH_take (i := 10) (v := ?vR3x11) (by (try simp only [gA, gB, gC]); rfl) (by kernel_rfl) (by kernel_rfl) (by kernel_rfl) (by exact fun _ _ _ h => h) (Or.inl ⟨by first | kernel_rfl | rfl, ?hyR3x11⟩) (by exact hS) ?rsR3x11
      case hyR3x11 => (intro uz hSw; (try dsimp only at hSw); go_simp; try with_reducible rfl)
      try simp only [Act.put, sA, sB, sC]
      change wpAnyH _ _ _ _ _ _ #[tt,tt,tt,tt,tt,tt,tt,tt,tt,tt,tt] _ _
      refine wpAnyH_done (by kernel_rfl) ?_ _
      go_wp2_with fail
      refine ret_rt (l := [.bool G0, .slice a0 n0 cp0, .int .i64 q0, .bool G1, .slice a1 n1 cp1, .int .i64 q1, .bool G2, .slice a2 n2 cp2, .int .i64 q2, .bool (decide (cs < 0)), .int .i64 i0, .int .i64 i1, .int .i64 i2, .int .i64 i3, .int .i64 i4, .int .i64 i5, .int .i64 i6]) rfl Tryz.underlying39 (by exact infoRp) rfl rfl HB.out rfl ⟨.inr ⟨fun j h => HAL.out j (by rw [HRL.out] at h; exact h), _, ?_, rfl⟩, hS.1⟩
      rw [HSG.out]
      exact ⟨(G0, .slice a0 n0 cp0, (q0 : Nat)), (G1, .slice a1 n1 cp1, (q1 : Nat)), (G2, .slice a2 n2 cp2, (q2 : Nat)), Tri.sb hS ⟨HG0.out, by rw [← HZ0.out]; exact HL0.out, by rw [HK0.out], rfl⟩ HF0.out, Tri.sb hS ⟨HG1.out, by rw [← HZ1.out]; exact HL1.out, by rw [HK1.out], rfl⟩ HF1.out, Tri.sb hS ⟨HG2.out, by rw [← HZ2.out]; exact HL2.out, by rw [HK2.out], rfl⟩ HF2.out, rfl⟩
end Kp
end Go.Proofs.YtagpofhencpliaaGreatDoor
