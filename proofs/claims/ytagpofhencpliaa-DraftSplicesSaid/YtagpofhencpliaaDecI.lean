/- What the program's Add of decimals comes to, by a walk through it. -/
import Derived.Test.YtagpofhencpliaaRows
import Derived.Test.YtagpofhencpliaaDigL
import Derived.Test.YtagpofhencpliaaDecM
import Derived.Test.YtagpofhencpliaaInts
import Derived.Test.YtagpofhencpliaaSto
import Derived.Test.YtagpofhencpliaaStoB
import Derived.Test.YtagpofhencpliaaDigW
import Derived.Test.YtagpofhencpliaaDigV
import Derived.Test.YtagpofhencpliaaDigX
import Derived.Test.YtagpofhencpliaaDigQ
import Derived.Test.YtagpofhencpliaaDecR
import Derived.Test.YtagpofhencpliaaDecS
import Derived.Test.YtagpofhencpliaaDecC
import Derived.Test.YtagpofhencpliaaDecP
import Derived.Test.YtagpofhencpliaaDecQ
import Derived.Test.YtagpofhencpliaaDecA
import Derived.Deep.QuietTactic
import Derived.Deep.RegionWith
import Derived.Deep.RegionHeld3
import Derived.BigQuiet
import Derived.Laws.ResultCell
set_option linter.unusedVariables false
set_option linter.unusedSimpArgs false
namespace Go.Proofs.Ytagpofhencpliaa
open Go.RowKit
namespace Ep
open Er (dv cellV LF LF.of LF.nil LF.mono LF.q LF.put LF.shape LF.lst block_cells some_cells block_set wrapI num_shl okD_shl)
/-- What stands while a function on two decimals calls others: its own copies, and the block for what it hands back. -/
def SE (w : World) (g : Bool) (v : Value) (s : Int) (h : Bool) (x : Value) (t : Int) (u : World) : Prop :=
  u.cell? ⟨w.heap.size, 0, none⟩ = some (.bool g) ∧ (u.cell? ⟨w.heap.size, 1, none⟩ = some (v) ∧ (u.cell? ⟨w.heap.size, 2, none⟩ = some (.int .i64 s) ∧ (u.cell? ⟨w.heap.size + 1, 0, none⟩ = some (.bool h) ∧ (u.cell? ⟨w.heap.size + 1, 1, none⟩ = some (x) ∧ (u.cell? ⟨w.heap.size + 1, 2, none⟩ = some (.int .i64 t) ∧ (u.cell? ⟨w.heap.size + 2, 0, none⟩ = some (cellV (w.heap.size + 2) 0 u) ∧ (u.cell? ⟨w.heap.size + 2, 1, none⟩ = some (cellV (w.heap.size + 2) 1 u) ∧ (u.cell? ⟨w.heap.size + 2, 2, none⟩ = some (cellV (w.heap.size + 2) 2 u) ∧ (u.frozen? ⟨w.heap.size + 2, 0, none⟩ = false ∧ (u.frozen? ⟨w.heap.size + 2, 1, none⟩ = false ∧ (u.frozen? ⟨w.heap.size + 2, 2, none⟩ = false ∧ (u.heap[w.heap.size]? = some (.cells #[.bool g, v, .int .i64 s] 41) ∧ (u.heap[w.heap.size + 1]? = some (.cells #[.bool h, x, .int .i64 t] 41) ∧ ((∃ x y z, u.heap[w.heap.size + 2]? = some (.cells #[x, y, z] 41)) ∧ Q w u))))))))))))))
theorem SE.of {w u : World} {g h : Bool} {v x : Value} {s t : Int} (h0 : u.heap[w.heap.size]? = some (.cells #[.bool g, v, .int .i64 s] 41)) (h1 : u.heap[w.heap.size + 1]? = some (.cells #[.bool h, x, .int .i64 t] 41)) (h2 : ∃ x y z, u.heap[w.heap.size + 2]? = some (.cells #[x, y, z] 41)) (hq : Q w u) : SE w g v s h x t u := by
  obtain ⟨a0, a1, a2, _, _, _⟩ := block_cells h0
  obtain ⟨b0, b1, b2, _, _, _⟩ := block_cells h1
  obtain ⟨p, q, r, h2⟩ := h2
  obtain ⟨c0, c1, c2, c3, c4, c5⟩ := some_cells h2
  exact ⟨a0, a1, a2, b0, b1, b2, c0, c1, c2, c3, c4, c5, h0, h1, ⟨p, q, r, h2⟩, hq⟩
theorem SE.q {w u u' : World} {g h : Bool} {v x : Value} {s t : Int} (k : SE w g v s h x t u) (hq : Q u u') : SE w g v s h x t u' := by
  obtain ⟨_, _, _, _, _, _, _, _, _, _, _, _, h0, h1, ⟨p, q, r, h2⟩, h3⟩ := k
  exact SE.of ((hq.block (lt_of_block h0)).trans h0) ((hq.block (lt_of_block h1)).trans h1) ⟨p, q, r, (hq.block (lt_of_block h2)).trans h2⟩ (h3.trans hq)
theorem SE.start (w : World) (g : Bool) (v : Value) (s : Int) (h : Bool) (x : Value) (t : Int) : SE w g v s h x t (((w.alloc (.cells #[.bool g, v, .int .i64 s] 41)).alloc (.cells #[.bool h, x, .int .i64 t] 41)).alloc (.cells #[.bool false, .slice none 0 0, .int .i64 0] 41)) := by
  have e : ((w.alloc (.cells #[.bool g, v, .int .i64 s] 41)).alloc (.cells #[.bool h, x, .int .i64 t] 41)).heap.size = w.heap.size + 2 := by simp
  refine SE.of ?_ ?_ ⟨.bool false, .slice none 0 0, .int .i64 0, ?_⟩ ((((Q.refl w).alloc _).alloc _).alloc _)
  · exact (heap_alloc_old _ _ (by rw [e]; omega)).trans (heap_alloc2_old _ _ _)
  · exact (heap_alloc_old _ _ (by rw [e]; omega)).trans (heap_alloc2_new _ _ _)
  · have := heap_alloc_new ((w.alloc (.cells #[.bool g, v, .int .i64 s] 41)).alloc (.cells #[.bool h, x, .int .i64 t] 41)) (.cells #[.bool false, .slice none 0 0, .int .i64 0] 41)
    rwa [e] at this
theorem SE.room {w u : World} {g h : Bool} {v x : Value} {s t : Int} (k : SE w g v s h x t u) : w.heap.size + 3 ≤ u.heap.size := by
  obtain ⟨_, _, _, _, _, _, _, _, _, _, _, _, _, _, ⟨p, q, r, h2⟩, _⟩ := k
  exact lt_of_block h2
theorem SE.put {w u : World} {g h : Bool} {v x : Value} {s t : Int} (k : SE w g v s h x t u) (p q r : Value) : SE w g v s h x t (((u.setCell ⟨w.heap.size + 2, 0, none⟩ p).setCell ⟨w.heap.size + 2, 1, none⟩ q).setCell ⟨w.heap.size + 2, 2, none⟩ r) ∧
    (((u.setCell ⟨w.heap.size + 2, 0, none⟩ p).setCell ⟨w.heap.size + 2, 1, none⟩ q).setCell ⟨w.heap.size + 2, 2, none⟩ r).heap[w.heap.size + 2]? = some (.cells #[p, q, r] 41) := by
  obtain ⟨_, _, _, _, _, _, _, _, _, _, _, _, h0, h1, ⟨p0, q0, r0, h2⟩, h3⟩ := k
  have hb := block_set (x' := p) (y' := q) (z' := r) h2
  refine ⟨SE.of ?_ ?_ ⟨p, q, r, hb⟩ (((h3.setCell (ad := ⟨w.heap.size + 2, 0, none⟩) (by show w.heap.size ≤ w.heap.size + 2; omega) p).setCell (ad := ⟨w.heap.size + 2, 1, none⟩) (by show w.heap.size ≤ w.heap.size + 2; omega) q).setCell (ad := ⟨w.heap.size + 2, 2, none⟩) (by show w.heap.size ≤ w.heap.size + 2; omega) r), hb⟩
  · rw [heap_setCell_other _ ⟨w.heap.size + 2, 2, none⟩ _ r (by simp), heap_setCell_other _ ⟨w.heap.size + 2, 1, none⟩ _ q (by simp), heap_setCell_other _ ⟨w.heap.size + 2, 0, none⟩ _ p (by simp)]
    exact h0
  · rw [heap_setCell_other _ ⟨w.heap.size + 2, 2, none⟩ _ r (by simp), heap_setCell_other _ ⟨w.heap.size + 2, 1, none⟩ _ q (by simp), heap_setCell_other _ ⟨w.heap.size + 2, 0, none⟩ _ p (by simp)]
    exact h1

theorem SE.here {w u : World} {g h : Bool} {v x : Value} {s t : Int} (k : SE w g v s h x t u) : Q w u := by
  obtain ⟨_, _, _, _, _, _, _, _, _, _, _, _, _, _, _, hq⟩ := k
  exact hq
end Ep
end Go.Proofs.Ytagpofhencpliaa
