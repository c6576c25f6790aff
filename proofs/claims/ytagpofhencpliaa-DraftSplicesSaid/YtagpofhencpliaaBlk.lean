/- A struct's block in memory, of however many cells. -/
import Derived.Test.YtagpofhencpliaaRows
import Derived.Test.YtagpofhencpliaaInts
import Derived.Test.YtagpofhencpliaaSto
import Derived.Test.YtagpofhencpliaaGap
import Derived.Lib.SmallJoins
import Derived.Lib.Builder
set_option linter.unusedVariables false
set_option linter.unusedSimpArgs false
namespace Go.Proofs.Ytagpofhencpliaa
open Go.RowKit

/-- The block b holds a struct of type T whose cells are l. -/
def Bk (w : World) (b : Nat) (T : TypeId) (l : List Value) : Prop := w.heap[b]? = some (.cells l.toArray T (0, 0))
theorem Bk.lt {w : World} {b : Nat} {T : TypeId} {l : List Value} (h : Bk w b T l) : b < w.heap.size := (Array.getElem?_eq_some_iff.1 h).1
theorem Bk.q {w w' : World} {b : Nat} {T : TypeId} {l : List Value} (h : Bk w b T l) (hq : Q w w') : Bk w' b T l := (hq.block h.lt).trans h
theorem Bk.cell {w : World} {b : Nat} {T : TypeId} {l : List Value} (h : Bk w b T l) (i : Nat) {v : Value} (hv : l[i]? = some v) : w.cell? ⟨b, i, none⟩ = some v := by
  rw [Lib.cell_of_heap h]; simpa using hv
theorem Bk.free {w : World} {b : Nat} {T : TypeId} {l : List Value} (h : Bk w b T l) (i : Nat) : w.frozen? ⟨b, i, none⟩ = false := Lib.frozen_of_heap h i
theorem Bk.set {w : World} {b : Nat} {T : TypeId} {l : List Value} (h : Bk w b T l) (i : Nat) (v : Value) : Bk (w.setCell ⟨b, i, none⟩ v) b T (l.set i v) := by
  have := Joins.block_setCell h v (i := i)
  unfold Bk
  rw [this, List.setIfInBounds_toArray]
theorem Bk.new (w : World) (T : TypeId) (l : List Value) : Bk (w.alloc (.cells l.toArray T)) w.heap.size T l := heap_alloc_new _ _
theorem Bk.past {w : World} {b g i : Nat} {T : TypeId} {l : List Value} (h : Bk w b T l) (hg : g ≠ b) (v : Value) : Bk (w.setCell ⟨g, i, none⟩ v) b T l := by
  exact ((Gap.setCell w g i v g (g + 1) (Nat.le_refl _) (Nat.lt_succ_self _)).block b h.lt (by omega)).trans h
theorem cell_past {w : World} {b g i o : Nat} {u : Value} (h : w.cell? ⟨b, o, none⟩ = some u) (hb : b < w.heap.size) (hg : g ≠ b) (v : Value) : (w.setCell ⟨g, i, none⟩ v).cell? ⟨b, o, none⟩ = some u :=
  (World.cell?_of_block (w := w) ((Gap.setCell w g i v g (g + 1) (Nat.le_refl _) (Nat.lt_succ_self _)).block b hb (by omega))).trans h
/-- What a function hands back that has its one result in a block. -/
theorem ret_bk {fn : Func} {p : Tmp} {T : TypeId} (h : fn.results = #[.cell p T]) {R : Ending → World → Prop} {a : Act} {w : World} {g : Nat} {l : List Value} {fs : _}
    (hu : Try.prog.underlying T = some (.struct fs)) (hi : (Try.prog.info? T).map (·.size) = some l.length)
    (hp : a.tmps.getD p undef = .pointer (some ⟨g, 0, none⟩)) (hg : Bk w g T l) (hdf : a.defers = []) (hR : R (.returned (.agg l.toArray)) w) : bodyPost Try.prog fn R .ret a w :=
  bodyPost_ret (results_cell_row h a.tmps w g T l.toArray (0, 0) _ hp hg hu rfl (by simpa using hi)) hdf hR
end Go.Proofs.Ytagpofhencpliaa
