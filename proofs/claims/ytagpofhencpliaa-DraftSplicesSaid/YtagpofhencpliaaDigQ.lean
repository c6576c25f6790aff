/- Sums of two lists, and the document's example. -/
import Derived.Test.YtagpofhencpliaaRows
import Derived.Test.YtagpofhencpliaaDigL
import Derived.Test.YtagpofhencpliaaInts
import Derived.Test.YtagpofhencpliaaSto
import Derived.Test.YtagpofhencpliaaDigX
import Derived.Test.YtagpofhencpliaaDigY
import Derived.Test.YtagpofhencpliaaUtfR
set_option linter.unusedVariables false
set_option linter.unusedSimpArgs false
namespace Go.Proofs.Ytagpofhencpliaa
open Go.RowKit
namespace Dw
theorem n99 : Dm.dg (Dm.num [9, 9] + Dm.num [1]) = [1, 0, 0] := by decide +kernel
theorem n1 : Dm.dg (Dm.num [1, 0, 0] - Dm.num [9, 9]) = [1] := by decide +kernel
theorem okA1 : Dm.okD [9, 9] := by intro d hd; simp at hd; omega
theorem okA2 : Dm.okD [1] := by intro d hd; simp at hd; omega
theorem okA3 : Dm.okD [1, 0, 0] := by intro d hd; simp at hd; omega

/-- Two lists that are written out in the text. -/
theorem lits (w : World) (xs ys : List Int) (n m : Nat) (hx : xs.length = n) (hy : ys.length = m) (hn : n ≤ maxLen) (hm : m ≤ maxLen) :
    Lst ((w.alloc (.cells (xs.map (Value.int .i64)).toArray 3)).alloc (.cells (ys.map (Value.int .i64)).toArray 3)) (.slice (some ⟨w.heap.size, 0, none⟩) n n) xs ∧
    Lst ((w.alloc (.cells (xs.map (Value.int .i64)).toArray 3)).alloc (.cells (ys.map (Value.int .i64)).toArray 3)) (.slice (some ⟨w.heap.size + 1, 0, none⟩) m m) ys := by
  refine ⟨(Lst.made w xs n hx hn).q ((Q.refl _).alloc _), ?_⟩
  have h := Lst.made (w.alloc (.cells (xs.map (Value.int .i64)).toArray 3)) ys m hy hm
  have e : (w.alloc (.cells (xs.map (Value.int .i64)).toArray 3)).heap.size = w.heap.size + 1 := by simp
  rw [e] at h
  exact h
theorem live_same (w : World) (v : Value) (xs : List Int) (n : Nat) (hv : Lst w v xs) (hn : xs.length = n) (hm : n < 1000000) :
    Calls Try.prog 15 #[v, .slice (some ⟨w.heap.size, 0, none⟩) n n] (w.alloc (.cells (xs.map (Value.int .i64)).toArray 3)) fun e w' => e = .returned (.bool true) ∧ Q w w' := by
  have h := Ur.same_any v _ xs xs _ (hv.q ((Q.refl w).alloc (.cells (xs.map (Value.int .i64)).toArray 3))) (Lst.made w xs n hn (by unfold maxLen; omega)) (by omega) (by omega)
  refine h.mono ?_
  rintro e w' ⟨rfl, hq⟩
  exact ⟨by simp, ((Q.refl w).alloc _).trans hq⟩

end Dw
end Go.Proofs.Ytagpofhencpliaa
