/- What the document's own answers on drafts come to, by a walk through each: May, Same, Fits, Few, Points, Atoms, Dec, Text. -/
import Derived.Test.YtagpofhencpliaaRows
import Derived.Test.YtagpofhencpliaaTmM
import Derived.Test.YtagpofhencpliaaTmS
import Derived.Test.YtagpofhencpliaaTmA
import Derived.Test.YtagpofhencpliaaTmB
import Derived.Test.YtagpofhencpliaaTmC
import Derived.Test.YtagpofhencpliaaTmD
import Derived.Test.YtagpofhencpliaaTmE
import Derived.Test.YtagpofhencpliaaInts
import Derived.Test.YtagpofhencpliaaSto
import Derived.Test.YtagpofhencpliaaBlk
import Derived.Test.YtagpofhencpliaaUtfM
import Derived.Test.YtagpofhencpliaaUtfG
import Derived.Test.YtagpofhencpliaaUtfR
import Derived.Test.YtagpofhencpliaaDigR
import Derived.Test.YtagpofhencpliaaDigA
import Derived.Test.YtagpofhencpliaaDigO
import Derived.Test.YtagpofhencpliaaDecR
import Derived.Deep.QuietTactic
import Derived.Deep.RegionWith
import Derived.BigQuiet
import Derived.Laws.ResultCell
set_option linter.unusedVariables false
set_option linter.unusedSimpArgs false
namespace Go.Proofs.Ytagpofhencpliaa
open Go.RowKit
namespace Tm
/-- Atoms, made of any numbers. -/
def ptL (xs : List Int) (m : Nat) : List Int := (xs.take m).map fun x => Um.around x 11
theorem ptL_len (xs : List Int) (m : Nat) : (ptL xs m).length = min m xs.length := by unfold ptL; rw [List.length_map, List.length_take]
theorem ptL_ok (xs : List Int) (m : Nat) : okA (ptL xs m) = true := by
  rw [okA_iff]
  intro d hd
  obtain ⟨x, hx, rfl⟩ := List.mem_map.1 hd
  have := Um.around_bd x 11 (by omega)
  omega
theorem ptL_snoc (xs : List Int) (k : Nat) (hk : k < xs.length) : ptL xs (k + 1) = ptL xs k ++ [Um.around (xs.getD k 0) 11] := by
  unfold ptL
  rw [List.take_succ_eq_append_getElem hk, List.map_append, List.getD_eq_getElem?_getD, List.getElem?_eq_getElem hk]; rfl
theorem ptL_min (xs : List Int) (m : Nat) : ptL xs (min m xs.length) = ptL xs m := by
  unfold ptL
  rcases Nat.le_total m xs.length with h | h
  · rw [Nat.min_eq_left h]
  · rw [Nat.min_eq_right h, List.take_length, List.take_of_length_le h]
end Tm
namespace Tr
open Tm
theorem infoR : (Try.prog.info? 24).map (·.size) = some 4 := by kernel_rfl
theorem ret_d {fn : Func} {p : Tmp} (h : fn.results = #[.cell p 24]) {R : Ending → World → Prop} {a : Act} {w : World} {g : Nat} {l : List Value}
    (hl : l.length = 4) (hp : a.tmps.getD p undef = .pointer (some ⟨g, 0, none⟩)) (hg : Bk w g 24 l) (hd : a.defers = []) (hR : R (.returned (.agg l.toArray)) w) : bodyPost Try.prog fn R .ret a w :=
  bodyPost_ret (results_cell_row h a.tmps w g 24 l.toArray (0, 0) _ hp hg Try.underlying24 rfl (by rw [infoR]; simp [hl])) hd hR
theorem ret_d2 {fn : Func} {p q : Tmp} (h : fn.results = #[.cell p 24, .tmp q]) {R : Ending → World → Prop} {a : Act} {w : World} {g : Nat} {l : List Value} {x : Value}
    (hl : l.length = 4) (hp : a.tmps.getD p undef = .pointer (some ⟨g, 0, none⟩)) (hx : a.tmps.getD q undef = x) (hg : Bk w g 24 l) (hd : a.defers = []) (hR : R (.returned (.tuple #[.agg l.toArray, x])) w) : bodyPost Try.prog fn R .ret a w := by
  refine bodyPost_ret (v := .tuple #[.agg l.toArray, x]) ?_ hd hR
  rw [results_cell_tmp h, hp, hx]
  simp [asAddr, Result.andThen, run_loadVar_row w g 24 24 l.toArray (0, 0) _ hg Try.underlying24 rfl (by rw [infoR]; simp [hl])]

set_option maxHeartbeats 1600000 in
theorem may_any (g s : Bool) (vi vf : Value) (I F : List Int) (w : World) (hi : Lst w vi I) (hf : Lst w vf F) (l1 : I.length < 1000000) (l2 : F.length < 1000000) :
    Calls Try.prog 14 #[.agg #[.bool g, vi, .bool s, vf]] w fun e w' => e = .returned (.bool (Tm.may ⟨g, I, s, F⟩)) ∧ Q w w' := by
  obtain ⟨a1, c1, rfl⟩ := hi.shape
  obtain ⟨a2, c2, rfl⟩ := hf.shape
  have H1 := Lib.hid (fun u (q : Q w u) => Dr.may_any _ I u (hi.q q) (by omega))
  have H2 := Lib.hid (fun u (q : Q w u) => Dr.may_any _ F u (hf.q q) (by omega))
  have HR := Lib.hid (show Tm.may ⟨g, I, s, F⟩ = (Dm.okB I && Dm.okB F && (s || decide (F.length = 0))) from by unfold Tm.may; dsimp only; cases F <;> simp)
  rw [HR.out]
  have HQ := Lib.hid (show Q w (w.alloc (.cells #[.bool g, .slice a1 I.length c1, .bool s, .slice a2 F.length c2] 24)) from (Q.refl w).alloc _)
  clear HR
  generalize I.length = n1 at *
  generalize F.length = n2 at *
  generalize Dm.okB I = r1 at *
  generalize Dm.okB F = r2 at *
  clear hi hf l1
  go_enter Try.func14, Try.ntmps14
  go_wp2_with fail
  refine (H1.out _ HQ.out).mono ?_
  rintro e w1 ⟨rfl, rfl⟩
  go_wp2_with fail
  refine (H2.out _ HQ.out).mono ?_
  rintro e w1 ⟨rfl, rfl⟩
  cases r1
  · go_wp2_with fail
    go_ret
    exact ⟨rfl, HQ.out⟩
  · cases r2
    · go_wp2_with fail
      go_ret
      exact ⟨rfl, HQ.out⟩
    · cases s
      · by_cases h0 : n2 = 0
        · subst h0
          go_wp2_with fail
          go_ret
          exact ⟨rfl, HQ.out⟩
        · have e0 : ((n2 : Int) == 0) = false := by rw [beq_eq_false_iff_ne]; omega
          have HD := Lib.hid (decide_eq_false h0)
          go_wp2_with fail
          go_ret
          rw [HD.out]
          exact ⟨rfl, HQ.out⟩
      · go_wp2_with fail
        go_ret
        exact ⟨rfl, HQ.out⟩

set_option maxHeartbeats 1600000 in
theorem same_any (g s h t : Bool) (vi vf ui uf : Value) (I F J G : List Int) (w : World) (hi : Lst w vi I) (hf : Lst w vf F) (ki : Lst w ui J) (kf : Lst w uf G) (l1 : I.length < 1000000) (l2 : F.length < 1000000) (l3 : J.length < 1000000) (l4 : G.length < 1000000) :
    Calls Try.prog 29 #[.agg #[.bool g, vi, .bool s, vf], .agg #[.bool h, ui, .bool t, uf]] w fun e w' => e = .returned (.bool (Tm.same ⟨g, I, s, F⟩ ⟨h, J, t, G⟩)) ∧ Q w w' := by
  obtain ⟨a1, c1, rfl⟩ := hi.shape
  obtain ⟨a2, c2, rfl⟩ := hf.shape
  obtain ⟨b1, d1, rfl⟩ := ki.shape
  obtain ⟨b2, d2, rfl⟩ := kf.shape
  have H1 := Lib.hid (fun u (q : Q w u) => Ur.same_any _ _ I J u (hi.q q) (ki.q q) (by omega) (by omega))
  have H2 := Lib.hid (fun u (q : Q w u) => Ur.same_any _ _ F G u (hf.q q) (kf.q q) (by omega) (by omega))
  have HR := Lib.hid (show Tm.same ⟨g, I, s, F⟩ ⟨h, J, t, G⟩ = (decide (I = J) && decide (F = G) && (g == h) && (s == t)) from by
    unfold Tm.same; dsimp only; generalize (g == h) = x; generalize (s == t) = y; generalize decide (I = J) = z; generalize decide (F = G) = u; cases x <;> cases y <;> cases z <;> cases u <;> rfl)
  rw [HR.out]
  generalize I.length = n1 at *
  generalize F.length = n2 at *
  generalize J.length = m1 at *
  generalize G.length = m2 at *
  generalize decide (I = J) = r1 at *
  generalize decide (F = G) = r2 at *
  clear hi hf ki kf l1 l2 l3 l4 HR
  have hq := (((Q.refl w).alloc (.cells #[.bool g, .slice a1 n1 c1, .bool s, .slice a2 n2 c2] 24)).alloc (.cells #[.bool h, .slice b1 m1 d1, .bool t, .slice b2 m2 d2] 24))
  have HB := Lib.hid (show Bk ((w.alloc (.cells #[.bool g, .slice a1 n1 c1, .bool s, .slice a2 n2 c2] 24)).alloc (.cells #[.bool h, .slice b1 m1 d1, .bool t, .slice b2 m2 d2] 24)) w.heap.size 24 [.bool g, .slice a1 n1 c1, .bool s, .slice a2 n2 c2] from heap_alloc2_old _ _ _)
  have HC := Lib.hid (show Bk ((w.alloc (.cells #[.bool g, .slice a1 n1 c1, .bool s, .slice a2 n2 c2] 24)).alloc (.cells #[.bool h, .slice b1 m1 d1, .bool t, .slice b2 m2 d2] 24)) (w.heap.size + 1) 24 [.bool h, .slice b1 m1 d1, .bool t, .slice b2 m2 d2] from heap_alloc2_new _ _ _)
  have HQ := Lib.hid hq
  clear hq
  go_enter Try.func29, Try.ntmps29
  go_wp2_with fail
  refine (H1.out _ HQ.out).mono ?_
  rintro e w1 ⟨rfl, hq⟩
  have x3 := (HB.out.q hq).cell 3 rfl
  have y3 := (HC.out.q hq).cell 3 rfl
  have HQ1 := Lib.hid (HQ.out.trans hq)
  go_wp2_with fail
  refine (H2.out _ HQ1.out).mono ?_
  rintro e w2 ⟨rfl, hq2⟩
  have HQ2 := Lib.hid (HQ1.out.trans hq2)
  have x0 := ((HB.out.q hq).q hq2).cell 0 rfl
  have y0 := ((HC.out.q hq).q hq2).cell 0 rfl
  have x2 := ((HB.out.q hq).q hq2).cell 2 rfl
  have y2 := ((HC.out.q hq).q hq2).cell 2 rfl
  clear hq hq2 x3 y3
  cases r1
  · go_wp2_with fail
    go_ret
    exact ⟨retB (by simp), HQ2.out⟩
  · cases r2
    · go_wp2_with fail
      go_ret
      exact ⟨retB (by simp), HQ2.out⟩
    · by_cases hg : g = h
      · subst hg
        go_wp2_with fail
        go_ret
        exact ⟨retB (by simp), HQ2.out⟩
      · have e1 : (g == h) = false := beq_eq_false_iff_ne.2 hg
        go_wp2_with fail
        go_ret
        exact ⟨retB (by rw [e1]; rfl), HQ2.out⟩

theorem fits_any (g s : Bool) (a1 a2 : Option Addr) (n1 n2 c1 c2 : Nat) (x y : Int) (w : World) :
    Calls Try.prog 19 #[.agg #[.bool g, .slice a1 n1 c1, .bool s, .slice a2 n2 c2], .int .i64 x, .int .i64 y] w fun e w' => e = .returned (.bool (decide ((n1 : Int) ≤ x) && decide ((n2 : Int) ≤ y))) ∧ Q w w' := by
  have HQ := Lib.hid (show Q w (w.alloc (.cells #[.bool g, .slice a1 n1 c1, .bool s, .slice a2 n2 c2] 24)) from (Q.refl w).alloc _)
  by_cases h1 : (n1 : Int) ≤ x
  · by_cases h2 : (n2 : Int) ≤ y
    · have HR := Lib.hid (show (decide ((n1 : Int) ≤ x) && decide ((n2 : Int) ≤ y)) = true from by rw [decide_eq_true h1, decide_eq_true h2]; rfl)
      rw [HR.out]
      go_enter Try.func19, Try.ntmps19
      go_wp2_with fail
      go_ret
      exact ⟨rfl, HQ.out⟩
    · have HR := Lib.hid (show (decide ((n1 : Int) ≤ x) && decide ((n2 : Int) ≤ y)) = false from by rw [decide_eq_false h2, Bool.and_false])
      rw [HR.out]
      go_enter Try.func19, Try.ntmps19
      go_wp2_with fail
      go_ret
      exact ⟨retB (by first | rfl | (simp; done) | (simp; omega)), HQ.out⟩
  · have HR := Lib.hid (show (decide ((n1 : Int) ≤ x) && decide ((n2 : Int) ≤ y)) = false from by rw [decide_eq_false h1, Bool.false_and])
    rw [HR.out]
    go_enter Try.func19, Try.ntmps19
    go_wp2_with fail
    go_ret
    exact ⟨retB (by first | rfl | (simp; done) | (simp; omega)), HQ.out⟩

set_option maxHeartbeats 1600000 in
/-- A draft, its lists cut. -/
theorem few_any (g s : Bool) (a1 a2 : Option Addr) (n1 n2 c1 c2 : Nat) (m : Nat) (w : World) (h1 : n1 ≤ c1) (h2 : n2 ≤ c2) (m1 : c1 ≤ maxLen) (m2 : c2 ≤ maxLen) (hm : m < 1000000) (p1 p2 : Nat) (e1 : p1 = min n1 m) (e2 : p2 = min n2 m) :
    Calls Try.prog 8 #[.agg #[.bool g, .slice a1 n1 c1, .bool s, .slice a2 n2 c2], .int .i64 m] w fun e w' => e = .returned (.agg #[.bool g, .slice a1 p1 c1, .bool s, .slice a2 p2 c2]) ∧ Q w w' := by
  unfold maxLen at m1 m2
  have hm1 : (p1 : Int) ≤ (c1 : Int) := by omega
  have hm2 : (p2 : Int) ≤ (c2 : Int) := by omega
  obtain ⟨y, hy⟩ : ∃ y, y = w.alloc (.cells #[.bool g, .slice a1 n1 c1, .bool s, .slice a2 n2 c2] 24) := ⟨_, rfl⟩
  have hqy : Q w y := by rw [hy]; exact (Q.refl w).alloc _
  have hby : Bk y w.heap.size 24 [.bool g, .slice a1 n1 c1, .bool s, .slice a2 n2 c2] := by rw [hy]; exact Bk.new _ _ _
  have hsy : y.heap.size = w.heap.size + 1 := by rw [hy]; simp
  obtain ⟨z, hz⟩ : ∃ z, z = y.alloc (.cells #[.bool false, .slice none 0 0, .bool false, .slice none 0 0] 24) := ⟨_, rfl⟩
  have hqz : Q y z := by rw [hz]; exact (Q.refl y).alloc _
  have HQ := Lib.hid (hqy.trans hqz)
  have HB := Lib.hid (hby.q hqz)
  have HD := Lib.hid (show Bk z (w.heap.size + 1) 24 [.bool false, .slice none 0 0, .bool false, .slice none 0 0] by rw [hz, ← hsy]; exact Bk.new _ _ _)
  have HWD := Lib.hid (Nat.le_succ w.heap.size)
  have HWB := Lib.hid (Nat.le_refl w.heap.size)
  have HNE := Lib.hid (show w.heap.size ≠ w.heap.size + 1 by omega)
  have hz2 : z = (w.alloc (.cells #[.bool g, .slice a1 n1 c1, .bool s, .slice a2 n2 c2] 24)).alloc (.cells #[.bool false, .slice none 0 0, .bool false, .slice none 0 0] 24) := by rw [hz, hy]
  clear hqy hby hsy hqz hz hy
  have HP := Lib.hid (⟨e1, e2⟩ : _ ∧ _)
  clear e1 e2
  have b1 := HB.out.cell 1 rfl
  have f1 := HB.out.free 1
  have hb2 := HB.out.set 1 (.slice a1 p1 c1)
  have hd2 := HD.out.past (g := w.heap.size) (i := 1) HNE.out (.slice a1 p1 c1)
  have hq2 := Q.setCell HQ.out (ad := ⟨w.heap.size, 1, none⟩) HWB.out (.slice a1 p1 c1)
  obtain ⟨z2, hz3⟩ : ∃ z2, z2 = z.setCell ⟨w.heap.size, 1, none⟩ (.slice a1 p1 c1) := ⟨_, rfl⟩
  rw [← hz3] at hb2 hd2 hq2
  have HB2 := Lib.hid hb2
  have hb3 := hb2.set 3 (.slice a2 p2 c2)
  have hd3 := hd2.past (g := w.heap.size) (i := 3) HNE.out (.slice a2 p2 c2)
  have hq3 := Q.setCell hq2 (ad := ⟨w.heap.size, 3, none⟩) HWB.out (.slice a2 p2 c2)
  obtain ⟨z4, hz5⟩ : ∃ z4, z4 = z2.setCell ⟨w.heap.size, 3, none⟩ (.slice a2 p2 c2) := ⟨_, rfl⟩
  rw [← hz5] at hb3 hd3 hq3
  have HB3 := Lib.hid hb3
  have HD3 := Lib.hid hd3
  have HQ3 := Lib.hid hq3
  clear hb2 hd2 hq2 hb3 hd3 hq3
  by_cases h3 : m < n1
  · obtain rfl : p1 = m := by have := HP.out.1; omega
    by_cases h4 : p1 < n2
    · obtain rfl : p2 = p1 := by have := HP.out.2; omega
      go_enter Try.func8, Try.ntmps8
      go_upto_region 1 with fail
      rw [← hz2]
      clear hz2
      go_upto_region 2 with fail
      rw [← hz3]
      clear hz3 b1 f1
      have b3 := HB2.out.cell 3 rfl
      have f3 := HB2.out.free 3
      go_upto_region 3 with fail
      rw [← hz5]
      clear hz5 b3 f3
      have y0 := HB3.out.cell 0 rfl
      have y1 := HB3.out.cell 1 rfl
      have y2 := HB3.out.cell 2 rfl
      have y3 := HB3.out.cell 3 rfl
      have b0 := HD3.out.cell 0 rfl
      have f0 := HD3.out.free 0
      have b1 := HD3.out.cell 1 rfl
      have f1 := HD3.out.free 1
      have b2 := HD3.out.cell 2 rfl
      have f2 := HD3.out.free 2
      have b3 := HD3.out.cell 3 rfl
      have f3 := HD3.out.free 3
      go_wp2_with fail
      exact ret_d rfl rfl rfl ((((HD3.out.set 0 _).set 1 _).set 2 _).set 3 _) rfl ⟨rfl, Q.setCell (Q.setCell (Q.setCell (Q.setCell HQ3.out HWD.out _) HWD.out _) HWD.out _) HWD.out _⟩
    · obtain rfl : p2 = n2 := by have := HP.out.2; omega
      go_enter Try.func8, Try.ntmps8
      go_upto_region 1 with fail
      rw [← hz2]
      clear hz2
      go_upto_region 2 with fail
      rw [← hz3]
      clear hz3 b1 f1
      have b3 := HB2.out.cell 3 rfl
      have f3 := HB2.out.free 3
      go_upto_region 3 with fail
      rw [← hz5]
      clear hz5 b3 f3
      have y0 := HB3.out.cell 0 rfl
      have y1 := HB3.out.cell 1 rfl
      have y2 := HB3.out.cell 2 rfl
      have y3 := HB3.out.cell 3 rfl
      have b0 := HD3.out.cell 0 rfl
      have f0 := HD3.out.free 0
      have b1 := HD3.out.cell 1 rfl
      have f1 := HD3.out.free 1
      have b2 := HD3.out.cell 2 rfl
      have f2 := HD3.out.free 2
      have b3 := HD3.out.cell 3 rfl
      have f3 := HD3.out.free 3
      go_wp2_with fail
      exact ret_d rfl rfl rfl ((((HD3.out.set 0 _).set 1 _).set 2 _).set 3 _) rfl ⟨rfl, Q.setCell (Q.setCell (Q.setCell (Q.setCell HQ3.out HWD.out _) HWD.out _) HWD.out _) HWD.out _⟩
  · obtain rfl : p1 = n1 := by have := HP.out.1; omega
    by_cases h4 : m < n2
    · obtain rfl : p2 = m := by have := HP.out.2; omega
      go_enter Try.func8, Try.ntmps8
      go_upto_region 1 with fail
      rw [← hz2]
      clear hz2
      go_upto_region 2 with fail
      rw [← hz3]
      clear hz3 b1 f1
      have b3 := HB2.out.cell 3 rfl
      have f3 := HB2.out.free 3
      go_upto_region 3 with fail
      rw [← hz5]
      clear hz5 b3 f3
      have y0 := HB3.out.cell 0 rfl
      have y1 := HB3.out.cell 1 rfl
      have y2 := HB3.out.cell 2 rfl
      have y3 := HB3.out.cell 3 rfl
      have b0 := HD3.out.cell 0 rfl
      have f0 := HD3.out.free 0
      have b1 := HD3.out.cell 1 rfl
      have f1 := HD3.out.free 1
      have b2 := HD3.out.cell 2 rfl
      have f2 := HD3.out.free 2
      have b3 := HD3.out.cell 3 rfl
      have f3 := HD3.out.free 3
      go_wp2_with fail
      exact ret_d rfl rfl rfl ((((HD3.out.set 0 _).set 1 _).set 2 _).set 3 _) rfl ⟨rfl, Q.setCell (Q.setCell (Q.setCell (Q.setCell HQ3.out HWD.out _) HWD.out _) HWD.out _) HWD.out _⟩
    · obtain rfl : p2 = n2 := by have := HP.out.2; omega
      go_enter Try.func8, Try.ntmps8
      go_upto_region 1 with fail
      rw [← hz2]
      clear hz2
      go_upto_region 2 with fail
      rw [← hz3]
      clear hz3 b1 f1
      have b3 := HB2.out.cell 3 rfl
      have f3 := HB2.out.free 3
      go_upto_region 3 with fail
      rw [← hz5]
      clear hz5 b3 f3
      have y0 := HB3.out.cell 0 rfl
      have y1 := HB3.out.cell 1 rfl
      have y2 := HB3.out.cell 2 rfl
      have y3 := HB3.out.cell 3 rfl
      have b0 := HD3.out.cell 0 rfl
      have f0 := HD3.out.free 0
      have b1 := HD3.out.cell 1 rfl
      have f1 := HD3.out.free 1
      have b2 := HD3.out.cell 2 rfl
      have f2 := HD3.out.free 2
      have b3 := HD3.out.cell 3 rfl
      have f3 := HD3.out.free 3
      go_wp2_with fail
      exact ret_d rfl rfl rfl ((((HD3.out.set 0 _).set 1 _).set 2 _).set 3 _) rfl ⟨rfl, Q.setCell (Q.setCell (Q.setCell (Q.setCell HQ3.out HWD.out _) HWD.out _) HWD.out _) HWD.out _⟩

set_option maxHeartbeats 1600000 in
theorem points_any (v : Value) (xs : List Int) (m : Nat) (w : World) (hv : Lst w v xs) (hl : xs.length ≤ 9223372036854775807) (hm : m < 1000000) (hb : ∀ n ∈ xs, -9223372036854775808 ≤ n ∧ n ≤ 9223372036854775807) :
    Calls Try.prog 26 #[v, .int .i64 m] w fun e w' => ∃ u, e = .returned u ∧ Own w' w.heap.size u (ptL xs m) ∧ Q w w' := by
  obtain ⟨n, hn⟩ : ∃ n, n = xs.length := ⟨_, rfl⟩
  obtain ⟨a, c, rfl, hnc, hcm⟩ := hv.form0 hn.symm
  have HV := Lib.hid (fun k (hk : k < n) => hv.cellOf (n := n) (k := k) hn.symm hk)
  have HB := Lib.hid (fun k (hk : k < n) => (by rw [List.getD_eq_getElem?_getD, List.getElem?_eq_getElem (by omega)]; exact hb _ (List.getElem_mem _) : -9223372036854775808 ≤ xs.getD k 0 ∧ xs.getD k 0 ≤ 9223372036854775807))
  have HS := Lib.hid (fun k (hk : k < n) => ptL_snoc xs k (by omega))
  have HE := Lib.hid (fun k (h1 : k = min m n) => (by rw [h1, hn]; exact ptL_min xs m : ptL xs k = ptL xs m))
  have HL := Lib.hid (fun k => (by rw [ptL_len, ← hn] : (ptL xs k).length = min k n))
  have HA := Lib.hid (fun x w h0 h1 => Ur.around_any x 11 w h0 h1 (by omega) (by omega))
  rw [← hn] at hl
  unfold maxLen at hcm
  clear hv hn hb
  go_enter Try.func26, Try.ntmps26
  go_wp2_with fail
  go_loopw [5, 6] (fun u t wr => ∃ k : Nat, t = .int .i64 k ∧ k ≤ n ∧ k ≤ m ∧ Own wr w.heap.size u (ptL xs k) ∧ Q w wr) (fun _ t _ => n - (intOf t).toNat)
  case atStart => exact ⟨0, rfl, by omega, by omega, Own.nil _ _, Q.refl _⟩
  case round =>
    obtain ⟨k, rfl, hk, hkm, ho, hq⟩ := hrel
    by_cases hlt : k < n
    · by_cases hlm : k < m
      · obtain ⟨g, off, cap, hvv, hg, _, _, c0⟩ := HV.out k hlt
        cases hvv
        have c1 := (World.cell?_of_block (w := w) (hq.block hg) (a := ⟨g, off + k, none⟩)).trans c0
        have hbk := HB.out k hlt
        have hs := HS.out k hlt
        generalize xs.getD k 0 = x at *
        have HS2 := Lib.hid hs
        have hwl : (ptL xs k).length < 1099511627776 := by rw [HL.out]; omega
        have hB := hq.le
        have HAR := Lib.hid (HA.out x wr hbk.1 hbk.2)
        have HQ := Lib.hid hq
        clear hs c0 hbk
        generalize Um.around x 11 = y at *
        go_wp2_with fail
        refine HAR.out.mono ?_
        rintro e w1 ⟨rfl, rfl⟩
        go_wp2_with (at_builtin; refine push_int ho rfl _ _ rfl _ (by rfl) (by rfl) hwl hB ?_)
        intro v2 w2 ho2 hg2 hat2
        rw [← HS2.out] at ho2
        have HO2 := Lib.hid ho2
        have HQ2 := Lib.hid (HQ.out.grown hg2 (fun g h => (ho.lt g h).1))
        clear ho ho2 hg2 hat2
        go_wp2_with fail
        exact ⟨⟨k + 1, by go_num, by omega, by omega, HO2.out, HQ2.out⟩, by simp [intOf]; omega⟩
      · have he := HE.out k (by omega)
        rw [he] at ho
        have HO := Lib.hid ho
        have HQ := Lib.hid hq
        clear he ho hq
        go_wp2_with fail
        go_ret
        exact ⟨_, rfl, HO.out, HQ.out⟩
    · have he := HE.out k (by omega)
      rw [he] at ho
      have HO := Lib.hid ho
      have HQ := Lib.hid hq
      clear he ho hq
      go_wp2_with fail
      go_ret
      exact ⟨_, rfl, HO.out, HQ.out⟩
end Tr
end Go.Proofs.Ytagpofhencpliaa
