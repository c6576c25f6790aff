/- A text's pattern, or the error, as the program tells it: what read gives up is recovered. Halves, as the program tells them: the document's numbers are the program's. Our own work. -/
import Derived.Test.YtglljkbpdbnhaaaGreatDoorRows
import Derived.Test.YtglljkbpdbnhaaaGreatDoorMA
import Derived.Test.YtglljkbpdbnhaaaGreatDoorMB
import Derived.Test.YtglljkbpdbnhaaaGreatDoorMBP
import Derived.Test.YtglljkbpdbnhaaaGreatDoorMN
import Derived.Test.YtglljkbpdbnhaaaGreatDoorMP
import Derived.Test.YtglljkbpdbnhaaaGreatDoorPgL
import Derived.Defers
import Derived.Recover
import Derived.Laws.Pointers
import Derived.Deep.QuietTactic
import Derived.BigQuiet
import Derived.Deep.RegionHeld3
import Derived.Test.YtglljkbpdbnhaaaGreatDoorMC
import Derived.Test.YtglljkbpdbnhaaaGreatDoorMO
import Derived.Test.YtglljkbpdbnhaaaGreatDoorPgG
import Derived.Test.YtglljkbpdbnhaaaGreatDoorMQ
set_option linter.unusedVariables false
set_option linter.unusedSimpArgs false
namespace Go.Proofs.YtglljkbpdbnhaaaGreatDoor
open Go.RowKit
namespace Pg
open Pt Um

theorem catch_idle (p q : Addr) (w : World) :
    CallsD Tryz.prog 56 #[.pointer (some p), .pointer (some q)] .returning w fun e u' w' => e = .returned (.tuple #[]) ∧ u' = .returning ∧ w' = w := by
  refine callsD_of_wpS Tryz.func56 rfl fun c₀ cs hu => ?_
  apply wpS_seq
  apply wpS_region
  simp [wpOpsS, go_sem, recoverD, hu, Tryz.ntmps56, Exit.thenS]
  refine wpS_of_wp ?_
  simp only [List.push_append_toArray, Array.replicate, List.replicate, List.setIfInBounds_toArray, List.set_cons_zero, List.set_cons_succ, List.append_toArray, List.cons_append, List.nil_append]
  go_wp2_with fail
  cases c₀
  simp_all [bodyPostS, results, Tryz.results56]
theorem as_er (v : Value) (w : World) : (Instr.typeAssert (.iface 67 v) 20 67 false).run Tryz.prog w = .ok v w := by kernel_rfl
set_option maxHeartbeats 2000000 in
theorem catch_some (k : Int) (g h : Nat) (w0 w : World) (hq0 : Q w0 w) (hg0 : w0.heap.size ≤ g) (hh0 : w0.heap.size ≤ h) (X : List Value) (hX : ∃ a b c d e f i j l, X = [a, b, c, d, e, f, i, j, l]) (y : Int) (hb : Bk w g 78 X) (he : Bk w h 67 [.int .i64 y]) (hgh : g ≠ h) :
    CallsD Tryz.prog 56 #[.pointer (some ⟨g, 0, none⟩), .pointer (some ⟨h, 0, none⟩)] (.panicking [{ v := .iface 67 (.int .i64 k), recovered := false }]) w fun e u' w' =>
      e = .returned (.tuple #[]) ∧ u' = .panicking [{ v := .iface 67 (.int .i64 k), recovered := true }] ∧ Bk w' g 78 [.slice none 0 0, .slice none 0 0, .slice none 0 0, .slice none 0 0, .int .i64 0, .int .i64 0, .int .i64 0, .int .i64 0, .int .i64 0] ∧ Bk w' h 67 [.int .i64 k] ∧ Q w0 w' := by
  obtain ⟨x0, x1, x2, x3, x4, x5, x6, x7, x8, rfl⟩ := hX
  have hta := fun v w => as_er v w
  have HB := Lib.hid hb
  have HE := Lib.hid he
  have HW_g := Lib.hid hg0
  have HW_h := Lib.hid hh0
  refine callsD_of_wpS Tryz.func56 rfl fun c₀ cs hu => ?_
  apply wpS_seq
  apply wpS_region
  simp [wpOpsS, go_sem, recoverD, hu, Tryz.ntmps56, Exit.thenS]
  refine wpS_of_wp ?_
  simp only [List.push_append_toArray, Array.replicate, List.replicate, List.setIfInBounds_toArray, List.set_cons_zero, List.set_cons_succ, List.append_toArray, List.cons_append, List.nil_append]
  clear hb he hg0 hh0
  go_wp2_with fail
  refine wp_region_held_drew (S := fun u => Q w0 u) (by kernel_rfl) (by exact (Q.drew hq0)) (fun hHeld => ?_)
  have hS : Q w0 w.drew := hHeld
  clear hHeld
  have hq : Q w w.drew := (Q.refl _).drew
  have HB := Lib.hid (Bk.q HB.out hq)
  have HE := Lib.hid (Bk.q HE.out hq)
  clear hq
  generalize w.drew = yR1x0 at *
  refine wpAnyH_take (i := 0) (v := ?vR1x1) rfl (by kernel_rfl) (by kernel_rfl) (by kernel_rfl) (fun _ _ _ h => h) (Or.inl ⟨by rfl, ?hyR1x1⟩) (by exact hS) ?rsR1x1
  case hyR1x1 => (intro uz hSw; (try dsimp only at hSw); go_simp; try with_reducible rfl)
  try simp only [Act.put, List.setIfInBounds_toArray, List.set_cons_zero, List.set_cons_succ]
  refine wpAnyH_take (i := 1) (v := ?vR1x2) rfl (by kernel_rfl) (by kernel_rfl) (by kernel_rfl) (fun _ _ _ h => h) (Or.inl ⟨by rfl, ?hyR1x2⟩) (by exact hS) ?rsR1x2
  case hyR1x2 => (intro uz hSw; (try dsimp only at hSw); go_simp; try with_reducible rfl)
  try simp only [Act.put, List.setIfInBounds_toArray, List.set_cons_zero, List.set_cons_succ]
  refine wpAnyH_take (i := 2) (v := ?vR1x3) rfl (by kernel_rfl) (by kernel_rfl) (by kernel_rfl) (fun _ _ _ h => h) (Or.inl ⟨by rfl, ?hyR1x3⟩) (by exact hS) ?rsR1x3
  case hyR1x3 => (intro uz hSw; (try dsimp only at hSw); go_simp; try with_reducible rfl)
  try simp only [Act.put, List.setIfInBounds_toArray, List.set_cons_zero, List.set_cons_succ]
  refine wpAnyH_ready (rs := [3]) (by kernel_rfl) (by simp) ?_
  refine (AllReadyH.cons rfl (fun K hK => ?_) AllReadyH.nil)
  have b0 := HB.out.cell 0 rfl
  have f0 := HB.out.free 0
  have b1 := HB.out.cell 1 rfl
  have f1 := HB.out.free 1
  have b2 := HB.out.cell 2 rfl
  have f2 := HB.out.free 2
  have b3 := HB.out.cell 3 rfl
  have f3 := HB.out.free 3
  have b4 := HB.out.cell 4 rfl
  have f4 := HB.out.free 4
  have b5 := HB.out.cell 5 rfl
  have f5 := HB.out.free 5
  have b6 := HB.out.cell 6 rfl
  have f6 := HB.out.free 6
  have b7 := HB.out.cell 7 rfl
  have f7 := HB.out.free 7
  have b8 := HB.out.cell 8 rfl
  have f8 := HB.out.free 8
  go_simp
  have hS2 := (Q.setCell (Q.setCell (Q.setCell (Q.setCell (Q.setCell (Q.setCell (Q.setCell (Q.setCell (Q.setCell hS (ad := ⟨g, 0, none⟩) HW_g.out (.slice none 0 0)) (ad := ⟨g, 1, none⟩) HW_g.out (.slice none 0 0)) (ad := ⟨g, 2, none⟩) HW_g.out (.slice none 0 0)) (ad := ⟨g, 3, none⟩) HW_g.out (.slice none 0 0)) (ad := ⟨g, 4, none⟩) HW_g.out (.int .i64 0)) (ad := ⟨g, 5, none⟩) HW_g.out (.int .i64 0)) (ad := ⟨g, 6, none⟩) HW_g.out (.int .i64 0)) (ad := ⟨g, 7, none⟩) HW_g.out (.int .i64 0)) (ad := ⟨g, 8, none⟩) HW_g.out (.int .i64 0))
  replace HB := Lib.hid (((((((((HB.out.set 0 (.slice none 0 0)).set 1 (.slice none 0 0)).set 2 (.slice none 0 0)).set 3 (.slice none 0 0)).set 4 (.int .i64 0)).set 5 (.int .i64 0)).set 6 (.int .i64 0)).set 7 (.int .i64 0)).set 8 (.int .i64 0))
  replace HE := Lib.hid (Bk.past (Bk.past (Bk.past (Bk.past (Bk.past (Bk.past (Bk.past (Bk.past (Bk.past HE.out (g := g) (i := 0) hgh (.slice none 0 0)) (g := g) (i := 1) hgh (.slice none 0 0)) (g := g) (i := 2) hgh (.slice none 0 0)) (g := g) (i := 3) hgh (.slice none 0 0)) (g := g) (i := 4) hgh (.int .i64 0)) (g := g) (i := 5) hgh (.int .i64 0)) (g := g) (i := 6) hgh (.int .i64 0)) (g := g) (i := 7) hgh (.int .i64 0)) (g := g) (i := 8) hgh (.int .i64 0))
  refine hK.out _ _ (by exact hS2) (fun hHeld => ?_)
  clear hK K hHeld hS
  have hS := hS2
  clear hS2 b0 f0 b1 f1 b2 f2 b3 f3 b4 f4 b5 f5 b6 f6 b7 f7 b8 f8
  generalize (((((((((yR1x0.setCell ⟨g, 0, none⟩ (.slice none 0 0)).setCell ⟨g, 1, none⟩ (.slice none 0 0)).setCell ⟨g, 2, none⟩ (.slice none 0 0)).setCell ⟨g, 3, none⟩ (.slice none 0 0)).setCell ⟨g, 4, none⟩ (.int .i64 0)).setCell ⟨g, 5, none⟩ (.int .i64 0)).setCell ⟨g, 6, none⟩ (.int .i64 0)).setCell ⟨g, 7, none⟩ (.int .i64 0)).setCell ⟨g, 8, none⟩ (.int .i64 0)) = yR1x4 at *
  try simp only [Act.put, List.setIfInBounds_toArray, List.set_cons_zero, List.set_cons_succ]
  refine wpAnyH_ready (rs := [4]) (by kernel_rfl) (by simp) ?_
  refine (AllReadyH.cons rfl (fun K hK => ?_) AllReadyH.nil)
  have b0 := HE.out.cell 0 rfl
  have f0 := HE.out.free 0
  go_simp
  have hS2 := (Q.setCell hS (ad := ⟨h, 0, none⟩) HW_h.out (.int .i64 k))
  replace HE := Lib.hid (HE.out.set 0 (.int .i64 k))
  replace HB := Lib.hid (Bk.past HB.out (g := h) (i := 0) (Ne.symm hgh) (.int .i64 k))
  refine hK.out _ _ (by exact hS2) (fun hHeld => ?_)
  clear hK K hHeld hS
  have hS := hS2
  clear hS2 b0 f0
  generalize (yR1x4.setCell ⟨h, 0, none⟩ (.int .i64 k)) = yR1x5 at *
  try simp only [Act.put, List.setIfInBounds_toArray, List.set_cons_zero, List.set_cons_succ]
  refine wpAnyH_done (by kernel_rfl) ?_ _
  cases c₀
  simp_all only [bodyPostS, results, Tryz.results56]
  exact ⟨rfl, _, rfl, _, results_none rfl _ _ _, rfl, rfl, HB.out, HE.out, hS⟩

theorem New.pastB {w : World} {B b : Nat} {v : Value} {l : List Pc.E} (h : Pc.New w B v l) (hbB : b < B) (i : Nat) (u : Value) : Pc.New (w.setCell ⟨b, i, none⟩ u) B v l := by
  refine ⟨?_, h.2⟩
  rcases h.1 with hn | ⟨g, off, cap, rfl, hg, h1, h2, hc⟩
  · exact .inl hn
  · refine .inr ⟨g, off, cap, rfl, by rw [World.size_setCell]; exact hg, h1, h2, fun j hj => ?_⟩
    have hb := h.2 _ _ _ rfl (by omega)
    have hb : B ≤ g := hb
    exact ⟨cell_past (hc j hj).1 hg (by omega) u, cell_past (hc j hj).2 hg (by omega) u⟩
theorem res2 {fn : Func} {p q : Tmp} (h : fn.results = #[.cell p 78, .cell q 67]) {tmps : Array Value} {w : World} {g g2 : Nat} {l : List Value} {k : Int} (hp : tmps.getD p undef = .pointer (some ⟨g, 0, none⟩)) (hq : tmps.getD q undef = .pointer (some ⟨g2, 0, none⟩)) (hl : l.length = 9)
    (hB : Bk w g 78 l) (hE : Bk w g2 67 [.int .i64 k]) : (results fn tmps).run Tryz.prog w = .ok (.tuple #[.agg l.toArray, .int .i64 k]) w := by
  have e : (results fn tmps).run Tryz.prog w = ((asAddr (tmps.getD p undef)).run Tryz.prog w).andThen fun a w₁ => ((loadVar 78 a).run Tryz.prog w₁).andThen fun v w₂ => ((asAddr (tmps.getD q undef)).run Tryz.prog w₂).andThen fun a w₃ => ((loadVar 67 a).run Tryz.prog w₃).andThen fun v2 w₄ => .ok (.tuple #[v, v2]) w₄ := by
    simp only [results, h]
    simp [Sem.run_bind, Result.andThen]
  have e1 := run_loadVar_row w g 78 78 l.toArray (0, 0) _ hB Tryz.underlying78 rfl (by simpa [hl] using infoPt)
  have e2 := hE.cell 0 rfl
  rw [e, hp, hq]
  simp [asAddr, Result.andThen, e1]
  simp [go_sem, e2]
theorem mk_fn (fn : Fn) (first cap : Array Value) (w : World) : (Instr.makeFunc fn first cap).run Tryz.prog w = .ok (.func fn first cap) w := rfl
set_option maxHeartbeats 2000000 in
set_option maxRecDepth 100000 in
theorem parse_ok (s : ByteArray) (w : World) (X : Pat) (hr : ∀ u, Q w u → Calls Tryz.prog 57 #[.string s] u fun e w' => Q u w' ∧ ∃ v, e = .returned v ∧ PV w' u.heap.size v X) :
    Calls Tryz.prog 34 #[.string s] w fun e w' => ∃ v, e = .returned (.tuple #[v, .int .i64 0]) ∧ PV w' w.heap.size v X ∧ Q w w' := by
  have hmf := mk_fn
  have HR := Lib.hid hr
  clear hr
  go_enter_defers Tryz.func34, Tryz.ntmps34
  go_wp2_with fail
  refine (HR.out _ (((Q.refl w).alloc _).alloc _)).mono ?_
  rintro e w1 ⟨hq1, v, rfl, hv⟩
  obtain ⟨a, b, c, d, rfl, ha, hb, hc, hd⟩ := hv
  obtain ⟨l1, hl1⟩ : ∃ l, X.pre.length = l := ⟨_, rfl⟩
  obtain ⟨l2, hl2⟩ : ∃ l, X.suf.length = l := ⟨_, rfl⟩
  obtain ⟨l3, hl3⟩ : ∃ l, X.npre.length = l := ⟨_, rfl⟩
  obtain ⟨l4, hl4⟩ : ∃ l, X.nsuf.length = l := ⟨_, rfl⟩
  obtain ⟨a, a', rfl, _, _⟩ := ha.1.form0 hl1
  obtain ⟨b, b', rfl, _, _⟩ := hb.1.form0 hl2
  obtain ⟨c, c', rfl, _, _⟩ := hc.1.form0 hl3
  obtain ⟨d, d', rfl, _, _⟩ := hd.1.form0 hl4
  have hne : w.heap.size + 1 ≠ w.heap.size := by omega
  have HB := Lib.hid (((Bk.new w 78 [.slice none 0 0, .slice none 0 0, .slice none 0 0, .slice none 0 0, .int .i64 0, .int .i64 0, .int .i64 0, .int .i64 0, .int .i64 0]).q ((Q.refl _).alloc (.cells #[.int .i64 0] 67))).q hq1)
  have HE := Lib.hid ((show Bk ((w.alloc (.cells #[.slice none 0 0, .slice none 0 0, .slice none 0 0, .slice none 0 0, .int .i64 0, .int .i64 0, .int .i64 0, .int .i64 0, .int .i64 0] 78)).alloc (.cells #[.int .i64 0] 67)) (w.heap.size + 1) 67 [.int .i64 0] from heap_alloc2_new _ _ _).q hq1)
  have HQ := Lib.hid ((((Q.refl w).alloc (.cells #[.slice none 0 0, .slice none 0 0, .slice none 0 0, .slice none 0 0, .int .i64 0, .int .i64 0, .int .i64 0, .int .i64 0, .int .i64 0] 78)).alloc (.cells #[.int .i64 0] 67)).trans hq1)
  have hbig : w.heap.size + 2 ≤ ((w.alloc (.cells #[.slice none 0 0, .slice none 0 0, .slice none 0 0, .slice none 0 0, .int .i64 0, .int .i64 0, .int .i64 0, .int .i64 0, .int .i64 0] 78)).alloc (.cells #[.int .i64 0] 67)).heap.size := by rw [World.size_alloc, World.size_alloc]; omega
  have b0 := HB.out.cell 0 rfl
  have f0 := HB.out.free 0
  have b1 := HB.out.cell 1 rfl
  have f1 := HB.out.free 1
  have b2 := HB.out.cell 2 rfl
  have f2 := HB.out.free 2
  have b3 := HB.out.cell 3 rfl
  have f3 := HB.out.free 3
  have b4 := HB.out.cell 4 rfl
  have f4 := HB.out.free 4
  have b5 := HB.out.cell 5 rfl
  have f5 := HB.out.free 5
  have b6 := HB.out.cell 6 rfl
  have f6 := HB.out.free 6
  have b7 := HB.out.cell 7 rfl
  have f7 := HB.out.free 7
  have b8 := HB.out.cell 8 rfl
  have f8 := HB.out.free 8
  have e0 := HE.out.cell 0 rfl
  have g0 := HE.out.free 0
  have HB2 := Lib.hid ((Bk.past (((((((((HB.out.set 0 (.slice a l1 a')).set 1 (.slice b l2 b')).set 2 (.slice c l3 c')).set 3 (.slice d l4 d')).set 4 (.int .i64 X.pr)).set 5 (.int .i64 X.se)).set 6 (.int .i64 X.mi)).set 7 (.int .i64 X.mf)).set 8 (.int .i64 X.xf)) (g := w.heap.size + 1) (i := 0) hne (.int .i64 0)))
  have HE2 := Lib.hid (((Bk.past (Bk.past (Bk.past (Bk.past (Bk.past (Bk.past (Bk.past (Bk.past (Bk.past HE.out (g := w.heap.size) (i := 0) hne.symm (.slice a l1 a')) (g := w.heap.size) (i := 1) hne.symm (.slice b l2 b')) (g := w.heap.size) (i := 2) hne.symm (.slice c l3 c')) (g := w.heap.size) (i := 3) hne.symm (.slice d l4 d')) (g := w.heap.size) (i := 4) hne.symm (.int .i64 X.pr)) (g := w.heap.size) (i := 5) hne.symm (.int .i64 X.se)) (g := w.heap.size) (i := 6) hne.symm (.int .i64 X.mi)) (g := w.heap.size) (i := 7) hne.symm (.int .i64 X.mf)) (g := w.heap.size) (i := 8) hne.symm (.int .i64 X.xf)).set 0 (.int .i64 0)))
  have HQ2 := Lib.hid ((Q.setCell (Q.setCell (Q.setCell (Q.setCell (Q.setCell (Q.setCell (Q.setCell (Q.setCell (Q.setCell (Q.setCell HQ.out (ad := ⟨w.heap.size, 0, none⟩) (Nat.le_refl _) (.slice a l1 a')) (ad := ⟨w.heap.size, 1, none⟩) (Nat.le_refl _) (.slice b l2 b')) (ad := ⟨w.heap.size, 2, none⟩) (Nat.le_refl _) (.slice c l3 c')) (ad := ⟨w.heap.size, 3, none⟩) (Nat.le_refl _) (.slice d l4 d')) (ad := ⟨w.heap.size, 4, none⟩) (Nat.le_refl _) (.int .i64 X.pr)) (ad := ⟨w.heap.size, 5, none⟩) (Nat.le_refl _) (.int .i64 X.se)) (ad := ⟨w.heap.size, 6, none⟩) (Nat.le_refl _) (.int .i64 X.mi)) (ad := ⟨w.heap.size, 7, none⟩) (Nat.le_refl _) (.int .i64 X.mf)) (ad := ⟨w.heap.size, 8, none⟩) (Nat.le_refl _) (.int .i64 X.xf)) (ad := ⟨w.heap.size + 1, 0, none⟩) (Nat.le_succ _) (.int .i64 0)))
  have H1 := Lib.hid ((New.pastB (New.pastB (New.pastB (New.pastB (New.pastB (New.pastB (New.pastB (New.pastB (New.pastB (New.pastB (New.past0 ha hbig) (show w.heap.size < w.heap.size + 2 by omega) 0 (.slice a l1 a')) (show w.heap.size < w.heap.size + 2 by omega) 1 (.slice b l2 b')) (show w.heap.size < w.heap.size + 2 by omega) 2 (.slice c l3 c')) (show w.heap.size < w.heap.size + 2 by omega) 3 (.slice d l4 d')) (show w.heap.size < w.heap.size + 2 by omega) 4 (.int .i64 X.pr)) (show w.heap.size < w.heap.size + 2 by omega) 5 (.int .i64 X.se)) (show w.heap.size < w.heap.size + 2 by omega) 6 (.int .i64 X.mi)) (show w.heap.size < w.heap.size + 2 by omega) 7 (.int .i64 X.mf)) (show w.heap.size < w.heap.size + 2 by omega) 8 (.int .i64 X.xf)) (show w.heap.size + 1 < w.heap.size + 2 by omega) 0 (.int .i64 0)).mono (show w.heap.size ≤ w.heap.size + 2 by omega))
  have H2 := Lib.hid ((New.pastB (New.pastB (New.pastB (New.pastB (New.pastB (New.pastB (New.pastB (New.pastB (New.pastB (New.pastB (New.past0 hb hbig) (show w.heap.size < w.heap.size + 2 by omega) 0 (.slice a l1 a')) (show w.heap.size < w.heap.size + 2 by omega) 1 (.slice b l2 b')) (show w.heap.size < w.heap.size + 2 by omega) 2 (.slice c l3 c')) (show w.heap.size < w.heap.size + 2 by omega) 3 (.slice d l4 d')) (show w.heap.size < w.heap.size + 2 by omega) 4 (.int .i64 X.pr)) (show w.heap.size < w.heap.size + 2 by omega) 5 (.int .i64 X.se)) (show w.heap.size < w.heap.size + 2 by omega) 6 (.int .i64 X.mi)) (show w.heap.size < w.heap.size + 2 by omega) 7 (.int .i64 X.mf)) (show w.heap.size < w.heap.size + 2 by omega) 8 (.int .i64 X.xf)) (show w.heap.size + 1 < w.heap.size + 2 by omega) 0 (.int .i64 0)).mono (show w.heap.size ≤ w.heap.size + 2 by omega))
  have H3 := Lib.hid ((New.pastB (New.pastB (New.pastB (New.pastB (New.pastB (New.pastB (New.pastB (New.pastB (New.pastB (New.pastB (New.past0 hc hbig) (show w.heap.size < w.heap.size + 2 by omega) 0 (.slice a l1 a')) (show w.heap.size < w.heap.size + 2 by omega) 1 (.slice b l2 b')) (show w.heap.size < w.heap.size + 2 by omega) 2 (.slice c l3 c')) (show w.heap.size < w.heap.size + 2 by omega) 3 (.slice d l4 d')) (show w.heap.size < w.heap.size + 2 by omega) 4 (.int .i64 X.pr)) (show w.heap.size < w.heap.size + 2 by omega) 5 (.int .i64 X.se)) (show w.heap.size < w.heap.size + 2 by omega) 6 (.int .i64 X.mi)) (show w.heap.size < w.heap.size + 2 by omega) 7 (.int .i64 X.mf)) (show w.heap.size < w.heap.size + 2 by omega) 8 (.int .i64 X.xf)) (show w.heap.size + 1 < w.heap.size + 2 by omega) 0 (.int .i64 0)).mono (show w.heap.size ≤ w.heap.size + 2 by omega))
  have H4 := Lib.hid ((New.pastB (New.pastB (New.pastB (New.pastB (New.pastB (New.pastB (New.pastB (New.pastB (New.pastB (New.pastB (New.past0 hd hbig) (show w.heap.size < w.heap.size + 2 by omega) 0 (.slice a l1 a')) (show w.heap.size < w.heap.size + 2 by omega) 1 (.slice b l2 b')) (show w.heap.size < w.heap.size + 2 by omega) 2 (.slice c l3 c')) (show w.heap.size < w.heap.size + 2 by omega) 3 (.slice d l4 d')) (show w.heap.size < w.heap.size + 2 by omega) 4 (.int .i64 X.pr)) (show w.heap.size < w.heap.size + 2 by omega) 5 (.int .i64 X.se)) (show w.heap.size < w.heap.size + 2 by omega) 6 (.int .i64 X.mi)) (show w.heap.size < w.heap.size + 2 by omega) 7 (.int .i64 X.mf)) (show w.heap.size < w.heap.size + 2 by omega) 8 (.int .i64 X.xf)) (show w.heap.size + 1 < w.heap.size + 2 by omega) 0 (.int .i64 0)).mono (show w.heap.size ≤ w.heap.size + 2 by omega))
  go_wp2_with fail
  refine leaves_cons (f := 56 ) (args := #[.pointer (some ⟨w.heap.size, 0, none⟩), .pointer (some ⟨w.heap.size + 1, 0, none⟩)]) (by simp) (by simp [go_sem]) ?_
  refine (catch_idle _ _ _).mono ?_
  rintro e u' w2 ⟨rfl, rfl, rfl⟩
  exact ⟨_, res2 rfl rfl rfl rfl HB2.out HE2.out, _, rfl, ⟨_, _, _, _, rfl, H1.out, H2.out, H3.out, H4.out⟩, HQ2.out⟩
set_option maxHeartbeats 2000000 in
set_option maxRecDepth 100000 in
theorem parse_err (s : ByteArray) (w : World) (k : Int) (hr : ∀ u, Q w u → Calls Tryz.prog 57 #[.string s] u fun e w' => e = .panicked [{ v := .iface 67 (.int .i64 k), recovered := false }] ∧ Q u w') :
    Calls Tryz.prog 34 #[.string s] w fun e w' => ∃ v, e = .returned (.tuple #[v, .int .i64 k]) ∧ PV w' w.heap.size v pat0 ∧ Q w w' := by
  have hmf := mk_fn
  have HR := Lib.hid hr
  clear hr
  go_enter_defers Tryz.func34, Tryz.ntmps34
  go_wp2_with fail
  refine (HR.out _ (((Q.refl w).alloc _).alloc _)).mono ?_
  rintro e w1 ⟨rfl, hq1⟩
  have hne : w.heap.size ≠ w.heap.size + 1 := by omega
  have hb := ((Bk.new w 78 [.slice none 0 0, .slice none 0 0, .slice none 0 0, .slice none 0 0, .int .i64 0, .int .i64 0, .int .i64 0, .int .i64 0, .int .i64 0]).q ((Q.refl _).alloc (.cells #[.int .i64 0] 67))).q hq1
  have he := (show Bk ((w.alloc (.cells #[.slice none 0 0, .slice none 0 0, .slice none 0 0, .slice none 0 0, .int .i64 0, .int .i64 0, .int .i64 0, .int .i64 0, .int .i64 0] 78)).alloc (.cells #[.int .i64 0] 67)) (w.heap.size + 1) 67 [.int .i64 0] from heap_alloc2_new _ _ _).q hq1
  have HQ := Lib.hid ((((Q.refl w).alloc (.cells #[.slice none 0 0, .slice none 0 0, .slice none 0 0, .slice none 0 0, .int .i64 0, .int .i64 0, .int .i64 0, .int .i64 0, .int .i64 0] 78)).alloc (.cells #[.int .i64 0] 67)).trans hq1)
  have HB := Lib.hid hb
  have HE := Lib.hid he
  clear hb he hq1
  go_wp2_with fail
  refine leaves_cons (f := 56 ) (args := #[.pointer (some ⟨w.heap.size, 0, none⟩), .pointer (some ⟨w.heap.size + 1, 0, none⟩)]) (by simp) (by simp [go_sem]) ?_
  refine (catch_some k w.heap.size (w.heap.size + 1) w w1 HQ.out (Nat.le_refl _) (Nat.le_succ _) [.slice none 0 0, .slice none 0 0, .slice none 0 0, .slice none 0 0, .int .i64 0, .int .i64 0, .int .i64 0, .int .i64 0, .int .i64 0] ⟨_, _, _, _, _, _, _, _, _, rfl⟩ 0 HB.out HE.out hne).mono ?_
  rintro e u' w2 ⟨rfl, rfl, hb2, he2, hq2⟩
  exact ⟨_, res2 rfl rfl rfl rfl hb2 he2, _, rfl, ⟨_, _, _, _, rfl, ⟨.nil _ _ _ (by unfold maxLen; omega) (fun _ => rfl), fun a n c h => by cases h⟩, ⟨.nil _ _ _ (by unfold maxLen; omega) (fun _ => rfl), fun a n c h => by cases h⟩, ⟨.nil _ _ _ (by unfold maxLen; omega) (fun _ => rfl), fun a n c h => by cases h⟩, ⟨.nil _ _ _ (by unfold maxLen; omega) (fun _ => rfl), fun a n c h => by cases h⟩⟩, hq2⟩

end Pg
end Go.Proofs.YtglljkbpdbnhaaaGreatDoor

set_option linter.unusedVariables false
set_option linter.unusedSimpArgs false
namespace Go.Proofs.YtglljkbpdbnhaaaGreatDoor
open Go.RowKit
namespace Pg
open Pt Um

/-- The program counts a number's signs as the document does, and it is not too long. -/
def okPr (cs : List Int) : Bool := match num cs, prN (cs.flatMap encL) with
  | some n, some b => n.pr == b.p && n.se == b.s && n.mi == b.mi && n.mf == b.mf && n.xf == b.xf && decide (b.xi ≤ 64) && decide (b.xf ≤ 64) && !n.long
  | _, _ => false
theorem okPr_of {cs : List Int} (h : okPr cs = true) : ∃ (n : Nm) (b : Nb), num cs = some n ∧ prN (cs.flatMap encL) = some b ∧ n.long = false ∧ ¬ b.long ∧ n.pr = b.p ∧ n.se = b.s ∧ n.mi = b.mi ∧ n.mf = b.mf ∧ n.xf = b.xf := by
  unfold okPr at h
  split at h
  · rename_i n b h1 h2
    simp only [Bool.and_eq_true, beq_iff_eq, decide_eq_true_eq, Bool.not_eq_true'] at h
    obtain ⟨⟨⟨⟨⟨⟨⟨e1, e2⟩, e3⟩, e4⟩, e5⟩, e6⟩, e7⟩, e8⟩ := h
    exact ⟨n, b, h1, h2, e8, by unfold Nb.long; omega, e1, e2, e3, e4, e5⟩
  · cases h

theorem ah_app {f : Int × Int → Bool} {a b : List (Int × Int)} (ha : ∀ x ∈ a, f x = true) (hb : b = [] ∨ ∃ x r, b = x :: r ∧ f x = false) : ah f (a ++ b) = a.length := by
  have h := (Pt.tw_all (f := f) (b := b) ha).1
  unfold ah
  rw [h]
  rcases hb with rfl | ⟨x, r, rfl, hx⟩
  · simp
  · simp [List.takeWhile_cons, hx]
theorem ah_hv {P N S : List (Int × Int)} (h : Hv P N S) (hN : 1 ≤ N.length) : ah ntN (P ++ N ++ S) = P.length ∧ (P ++ N ++ S).drop P.length = N ++ S ∧ ah isN (N ++ S) = N.length := by
  have hNn : ∀ x ∈ N, isN x = true := fun x hx => by unfold isN; rw [h.n x hx]; rfl
  refine ⟨?_, by rw [List.append_assoc, List.drop_left], ?_⟩
  · rw [List.append_assoc]
    refine ah_app (fun x hx => by unfold ntN; rw [okT_isN h.p x hx]; rfl) (.inr ?_)
    cases N with
    | nil => simp at hN
    | cons x r => exact ⟨x, r ++ S, rfl, by unfold ntN; rw [hNn x List.mem_cons_self]; rfl⟩
  · refine ah_app hNn ?_
    cases S with
    | nil => exact .inl rfl
    | cons x r => exact .inr ⟨x, r, rfl, okT_isN h.s x List.mem_cons_self⟩
theorem hv_kinds {P N S : List (Int × Int)} (h : Hv P N S) : ∀ x ∈ P ++ N ++ S, x.1 ≤ 4 := by
  intro x hx
  rcases List.mem_append.1 hx with hx | hx
  · rcases List.mem_append.1 hx with hx | hx
    · have := h.p x hx; omega
    · have := h.n x hx; omega
  · have := h.s x hx; omega
theorem encL_ne {c : Int} (h : vld c = true) : encL c ≠ [] := by unfold encL; exact encB_some h
theorem out_vld (cs : List Int) : ∀ q p l q' p', Vl cs → outS q p cs = some (l, q', p') → ∀ x ∈ l, vld x.2 = true := by
  induction cs with
  | nil => intro q p l q' p' hv h; simp [outS] at h; obtain ⟨rfl, _⟩ := h; simp
  | cons c r ih =>
    intro q p l q' p' hv h
    have hr : Vl r := fun d hd => hv d (List.mem_cons_of_mem _ hd)
    have h39 : vld 39 = true := (vld_iff _).2 (by omega)
    have hc := hv c List.mem_cons_self
    rw [outS_cons] at h
    split at h
    · split at h
      · obtain ⟨⟨m, a, b⟩, hm, he⟩ := Option.map_eq_some_iff.1 h
        simp only [Prod.mk.injEq] at he
        obtain ⟨rfl, rfl, rfl⟩ := he
        intro x hx
        rcases List.mem_cons.1 hx with rfl | hx
        · exact h39
        · exact ih _ _ _ _ _ hr hm x hx
      · exact ih _ _ _ _ _ hr h
    · split at h
      · obtain ⟨⟨m, a, b⟩, hm, he⟩ := Option.map_eq_some_iff.1 h
        simp only [Prod.mk.injEq] at he
        obtain ⟨rfl, rfl, rfl⟩ := he
        intro x hx
        rcases List.mem_cons.1 hx with rfl | hx
        · exact hc
        · exact ih _ _ _ _ _ hr hm x hx
      · split at h
        · cases h
        · obtain ⟨⟨m, a, b⟩, hm, he⟩ := Option.map_eq_some_iff.1 h
          simp only [Prod.mk.injEq] at he
          obtain ⟨rfl, rfl, rfl⟩ := he
          intro x hx
          rcases List.mem_cons.1 hx with rfl | hx
          · exact hc
          · exact ih _ _ _ _ _ hr hm x hx
theorem hok_of {P N S : List (Int × Int)} (hch : ∀ x ∈ P ++ N ++ S, vld x.2 = true) (h : Hv P N S) (hN : 1 ≤ N.length) (h250 : N.length ≤ 250) (nb : Nb) (hnb : prN ((N.map (·.2)).flatMap encL) = some nb) :
    HalfOk (P ++ N ++ S) nb ∧ prP (P ++ N ++ S) = joinT [] P ∧ suP (P ++ N ++ S) = joinT [] S := by
  obtain ⟨e1, e2, e3⟩ := ah_hv h hN
  have e4 : (P ++ N ++ S).drop (P.length + N.length) = S := by
    rw [← List.drop_drop, e2, List.drop_left]
  refine ⟨⟨hv_kinds h, fun x hx => encL_ne (hch x hx), ?_, ?_, ?_, ?_⟩, ?_, ?_⟩
  · rw [e1]; simp; omega
  · rw [e1, e2, e3, e4, List.any_eq_false]
    intro x hx; rw [okT_isN h.s x hx]; simp
  · rw [e1, e2, e3, List.take_left, ← hnb, List.flatMap_map]
  · rw [e1, e2, e3]; exact h250
  · unfold prP; rw [e1, List.append_assoc, List.take_left]
  · unfold suP; rw [e1, e2, e3, e4]
theorem split_one {P N S : List (Int × Int)} (h : Hv P N S) : splitD (P ++ N ++ S) = [P ++ N ++ S] := by
  refine splitD_end _ ?_
  have := ah_app (f := ntD) (a := P ++ N ++ S) (b := []) (fun x hx => by unfold ntD; rw [h.noD x hx]; rfl) (.inl rfl)
  rwa [List.append_nil] at this
theorem split_two {P N S P' N' S' : List (Int × Int)} (h : Hv P N S) (h' : Hv P' N' S') : splitD (P ++ N ++ S ++ (5, 59) :: (P' ++ N' ++ S')) = [P ++ N ++ S, P' ++ N' ++ S'] := by
  have e := ah_app (f := ntD) (a := P ++ N ++ S) (b := (5, 59) :: (P' ++ N' ++ S')) (fun x hx => by unfold ntD; rw [h.noD x hx]; rfl) (.inr ⟨_, _, rfl, rfl⟩)
  have hc := splitD_cut (P ++ N ++ S ++ (5, 59) :: (P' ++ N' ++ S')) (by rw [e]; simp)
  rw [e, List.take_left, ← List.drop_drop, List.drop_left] at hc
  rw [hc]
  simp only [List.drop_succ_cons, List.drop_zero, split_one h']

/-- Parse of one half. -/
theorem parse1 {cs : List Int} (hv : Vl cs) (hz : cs.length ≤ 10000) {P N S : List (Int × Int)} {c : Bool} (ho : outS false false cs = some (P ++ N ++ S, c, c)) (h : Hv P N S) (hN : 1 ≤ N.length) (h250 : N.length ≤ 250) (hp : okPr (N.map (·.2)) = true) (w : World) :
    Calls Tryz.prog 34 #[.string ⟨(joinL cs).toArray⟩] w fun e w' => ∃ v, e = .returned (.tuple #[v, .int .i64 0]) ∧ PV w' w.heap.size v (parseC cs).1 ∧ Q w w' := by
  obtain ⟨n, b, h1, h2, h3, h4, h5, h6, h7, h8, h9⟩ := okPr_of hp
  obtain ⟨k1, k2, k3⟩ := hok_of (out_vld _ _ _ _ _ _ hv ho) h hN h250 b h2
  have ht : tkn cs = some (P ++ N ++ S) := by
    unfold tkn
    rw [tok_out, ho]
    simp
  have hpc : (parseC cs).1 = patOf [(P ++ N ++ S, b)] := by
    unfold parseC
    rw [ht]
    simp only [parse_one h hN h1 h3, patOf, k2, k3, mkP, h5, h6, h7, h8, h9]
  rw [hpc]
  refine parse_ok _ w _ fun u hu => ?_
  refine (read_any ⟨(joinL cs).toArray⟩ u ?_ (okL_join cs hv) (P ++ N ++ S) ?_ [(P ++ N ++ S, b)] (split_one h) (fun x hx => by rw [List.mem_singleton.1 hx]; exact k1) (by simp) (by simp)).mono ?_
  · have := joinL_length cs
    simp only [ByteArray.size, List.size_toArray]; omega
  · rw [allL_join cs hv]; exact tok_q _ _ _ _ ht
  · rintro e w' ⟨hq, ⟨⟨x, hx, hxl⟩, _⟩ | ⟨_, v, hv, hpv⟩⟩
    · rw [List.mem_singleton.1 hx] at hxl; exact absurd hxl h4
    · exact ⟨hq, v, hv, hpv⟩
/-- Parse of two halves. -/
theorem parse2 {cs : List Int} (hv : Vl cs) (hz : cs.length ≤ 10000) {P N S P' N' S' : List (Int × Int)} {c : Bool} (ho : outS false false cs = some (P ++ N ++ S ++ (5, 59) :: (P' ++ N' ++ S'), c, c)) (h : Hv P N S) (hN : 1 ≤ N.length) (h250 : N.length ≤ 250) (hp : okPr (N.map (·.2)) = true)
    (h' : Hv P' N' S') (hN' : 1 ≤ N'.length) (h250' : N'.length ≤ 250) (hp' : okPr (N'.map (·.2)) = true) (w : World) :
    Calls Tryz.prog 34 #[.string ⟨(joinL cs).toArray⟩] w fun e w' => ∃ v, e = .returned (.tuple #[v, .int .i64 0]) ∧ PV w' w.heap.size v (parseC cs).1 ∧ Q w w' := by
  obtain ⟨n, b, h1, h2, h3, h4, h5, h6, h7, h8, h9⟩ := okPr_of hp
  obtain ⟨n', b', h1', h2', h3', h4', _⟩ := okPr_of hp'
  have hch := out_vld _ _ _ _ _ _ hv ho
  obtain ⟨k1, k2, k3⟩ := hok_of (fun x hx => hch x (List.mem_append_left _ hx)) h hN h250 b h2
  obtain ⟨k1', k2', k3'⟩ := hok_of (fun x hx => hch x (List.mem_append_right _ (List.mem_cons_of_mem _ hx))) h' hN' h250' b' h2'
  have ht : tkn cs = some (P ++ N ++ S ++ (5, 59) :: (P' ++ N' ++ S')) := by
    unfold tkn
    rw [tok_out, ho]
    simp
  have hpc : (parseC cs).1 = patOf [(P ++ N ++ S, b), (P' ++ N' ++ S', b')] := by
    unfold parseC
    rw [ht]
    simp only [parse_two h hN h1 h3 h' hN' h1' h3', patOf, k2, k3, k2', k3', mkP, h5, h6, h7, h8, h9]
  rw [hpc]
  refine parse_ok _ w _ fun u hu => ?_
  refine (read_any ⟨(joinL cs).toArray⟩ u ?_ (okL_join cs hv) _ ?_ [(P ++ N ++ S, b), (P' ++ N' ++ S', b')] (split_two h h') (fun x hx => by
    rcases List.mem_cons.1 hx with rfl | hx
    · exact k1
    · rw [List.mem_singleton.1 hx]; exact k1') (by simp) (by simp)).mono ?_
  · have := joinL_length cs
    simp only [ByteArray.size, List.size_toArray]; omega
  · rw [allL_join cs hv]; exact tok_q _ _ _ _ ht
  · rintro e w' ⟨hq, ⟨⟨x, hx, hxl⟩, _⟩ | ⟨_, v, hv, hpv⟩⟩
    · simp at hx
      rcases hx with rfl | rfl
      · exact absurd hxl h4
      · exact absurd hxl h4'
    · exact ⟨hq, v, hv, hpv⟩
end Pg
end Go.Proofs.YtglljkbpdbnhaaaGreatDoor
