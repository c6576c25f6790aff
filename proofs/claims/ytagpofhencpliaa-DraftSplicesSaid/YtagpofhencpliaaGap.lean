/- Worlds that differ in some blocks alone, and what stands through it. -/
import Derived.Test.YtagpofhencpliaaRows
import Derived.Test.YtagpofhencpliaaInts
import Derived.RangeFuncBox
set_option linter.unusedVariables false
set_option linter.unusedSimpArgs false
namespace Go.Proofs.Ytagpofhencpliaa
open Go.RowKit

/-- Of what was there no block has changed, but those from lo on and below hi. -/
structure Gap (lo hi : Nat) (A A' : World) : Prop where
  os : A'.os = A.os
  tape : A'.tape = A.tape
  output : A'.output = A.output
  size : A.heap.size ≤ A'.heap.size
  block : ∀ k, k < A.heap.size → (k < lo ∨ hi ≤ k) → A'.heap[k]? = A.heap[k]?
theorem Gap.refl (lo hi : Nat) (A : World) : Gap lo hi A A := ⟨rfl, rfl, rfl, Nat.le_refl _, fun _ _ _ => rfl⟩
theorem Gap.trans {lo hi : Nat} {A B C : World} (h : Gap lo hi A B) (k : Gap lo hi B C) : Gap lo hi A C :=
  ⟨k.os.trans h.os, k.tape.trans h.tape, k.output.trans h.output, Nat.le_trans h.size k.size, fun i hi' ho => (k.block i (Nat.lt_of_lt_of_le hi' h.size) ho).trans (h.block i hi' ho)⟩
theorem Gap.mono {lo hi lo' hi' : Nat} {A B : World} (h : Gap lo hi A B) (h1 : lo' ≤ lo) (h2 : hi ≤ hi') : Gap lo' hi' A B :=
  ⟨h.os, h.tape, h.output, h.size, fun k hk ho => h.block k hk (by omega)⟩
theorem Q.gap {A B : World} (h : Q A B) (lo hi : Nat) : Gap lo hi A B := ⟨h.os, h.tape, h.output, h.size, fun k hk _ => h.block hk⟩
/-- Nothing that was there has changed, but what lies in the gap: what lay below the gap stands. -/
theorem Gap.below {lo hi : Nat} {A B : World} (h : Gap lo hi A B) (hl : lo ≤ A.heap.size) : Below lo A B :=
  ⟨h.os, h.tape, h.output, h.size, fun k hk => h.block k (Nat.lt_of_lt_of_le hk hl) (.inl hk)⟩
theorem Gap.setCell (A : World) (b o : Nat) (v : Value) (lo hi : Nat) (h1 : lo ≤ b) (h2 : b < hi) : Gap lo hi A (A.setCell ⟨b, o, none⟩ v) :=
  ⟨rfl, rfl, rfl, by simp [World.setCell], fun k _ ho => Below.heap_setCell _ _ _ _ (by show k ≠ b; omega)⟩
theorem Gap.alloc (A : World) (o : Obj) (lo hi : Nat) : Gap lo hi A (A.alloc o) := ((Q.refl A).alloc o).gap lo hi
theorem Gap.grown {A B : World} {row : Option Nat} (lo hi : Nat) (hg : A.grownBy B row) (hr : ∀ k, row = some k → lo ≤ k ∧ k < hi) : Gap lo hi A B :=
  ⟨hg.os, hg.tape, hg.output, hg.size, fun k hk ho => hg.block k hk (fun e => by have := hr k e.symm; omega)⟩
theorem Gap.putObj (A : World) (l : Nat) (o : Obj) (lo hi : Nat) (h1 : lo ≤ l) (h2 : l < hi) : Gap lo hi A (A.putObj l o) :=
  .grown lo hi (grownBy_putObj' A l o) (fun k e => by cases e; exact ⟨h1, h2⟩)

theorem bx_q {w w' : World} {B : Nat} {t : TypeId} {v : Value} (h : Boxed w B t v) (hq : Q w w') : Boxed w' B t v := (hq.block h.lt).trans h
theorem bx_gap {w w' : World} {lo hi B : Nat} {t : TypeId} {v : Value} (h : Boxed w B t v) (hg : Gap lo hi w w') (ho : B < lo ∨ hi ≤ B) : Boxed w' B t v := (hg.block B h.lt ho).trans h
theorem bx_past {w : World} {B : Nat} {t : TypeId} {v : Value} (h : Boxed w B t v) (b o : Nat) (u : Value) (hb : b ≠ B) : Boxed (w.setCell ⟨b, o, none⟩ u) B t v :=
  (Below.heap_setCell w ⟨b, o, none⟩ u B (Ne.symm hb)).trans h
theorem Own.gap {w w' : World} {B lo hi : Nat} {v : Value} {zs : List Int} (h : Own w B v zs) (hg : Gap lo hi w w') (ho : ∀ g, v.ownBlock = some g → g < lo ∨ hi ≤ g) : Own w' B v zs :=
  h.same fun g hv => hg.block g (h.lt g hv).2 (ho g hv)
theorem Lst.gap {w w' : World} {lo hi : Nat} {v : Value} {zs : List Int} (h : Lst w v zs) (hg : Gap lo hi w w') (ho : ∀ g o c, v = .slice (some ⟨g, o, none⟩) zs.length c → g < lo ∨ hi ≤ g) : Lst w' v zs := by
  rcases h with h | ⟨g, off, cap, hv, hl, h1, h2, hc⟩
  · exact .inl h
  · refine .inr ⟨g, off, cap, hv, Nat.lt_of_lt_of_le hl hg.size, h1, h2, fun i hi => ?_⟩
    rw [World.cell?_of_block (w := w) (hg.block g hl (ho g off cap hv))]
    exact hc i hi

end Go.Proofs.Ytagpofhencpliaa
