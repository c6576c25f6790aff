/- Rows of pairs and of triples in memory. -/
import Derived.Test.YtmobljfpkdjnpaaRows
import Derived.Test.YtmobljfpkdjnpaaClsM
import Derived.Test.YtmobljfpkdjnpaaInts
set_option linter.unusedVariables false
set_option linter.unusedSimpArgs false
namespace Go.Proofs.Ytmobljfpkdjnpaa
open Go.RowKit Cm

/-- Pairs as cells. -/
def flat2 (l : List (Int × Int)) : List Value := l.flatMap fun r => [.int .i64 r.1, .int .i64 r.2]
theorem flat2_get (l : List (Int × Int)) (i : Nat) (h : i < l.length) :
    (flat2 l)[i * 2]? = some (.int .i64 (l.getD i (0, 0)).1) ∧ (flat2 l)[i * 2 + 1]? = some (.int .i64 (l.getD i (0, 0)).2) := by
  induction l generalizing i with
  | nil => simp at h
  | cons r l ih =>
    cases i with
    | zero => simp [flat2]
    | succ i =>
      have := ih i (by simpa using h)
      have e : flat2 (r :: l) = .int .i64 r.1 :: .int .i64 r.2 :: flat2 l := by simp [flat2]
      rw [e, show (i + 1) * 2 = i * 2 + 1 + 1 from by omega]
      simpa using this
/-- A value that reads as a list of pairs. -/
def PRow (w : World) (v : Value) (l : List (Int × Int)) : Prop :=
  ∃ a, v = .slice a l.length l.length ∧ ∀ i, i < l.length → ∃ g, a = some ⟨g, 0, none⟩ ∧ g < w.heap.size ∧ w.cell? ⟨g, i * 2, none⟩ = some (.int .i64 (l.getD i (0, 0)).1) ∧ w.cell? ⟨g, i * 2 + 1, none⟩ = some (.int .i64 (l.getD i (0, 0)).2)
theorem PRow.q {w w' : World} {v : Value} {l : List (Int × Int)} (h : PRow w v l) (hq : Q w w') : PRow w' v l := by
  obtain ⟨a, hv, hc⟩ := h
  refine ⟨a, hv, fun i hi => ?_⟩
  obtain ⟨g, ha, hg, h1, h2⟩ := hc i hi
  refine ⟨g, ha, Nat.lt_of_lt_of_le hg hq.le, ?_, ?_⟩
  · rw [World.cell?_of_block (w := w) (hq.block hg)]; exact h1
  · rw [World.cell?_of_block (w := w) (hq.block hg)]; exact h2
theorem PRow.nil (w : World) : PRow w (.slice none 0 0) [] := ⟨none, rfl, fun i h => by simp at h⟩
theorem PRow.made (w : World) (l : List (Int × Int)) (n : Nat) (hn : l.length = n) (t : TypeId) (cs : Array Value) (hcs : cs = (flat2 l).toArray) :
    PRow (w.alloc (.cells cs t)) (.slice (some ⟨w.heap.size, 0, none⟩) n n) l := by
  subst hn hcs
  refine ⟨_, rfl, fun i hi => ⟨w.heap.size, rfl, by simp, ?_, ?_⟩⟩
  · rw [World.cell?_alloc_at _ _ _ _ rfl]; simpa using (flat2_get l i hi).1
  · rw [World.cell?_alloc_at _ _ _ _ rfl]; simpa using (flat2_get l i hi).2

/-- Triples as cells. -/
def flat3 (l : List (Int × Int × Int)) : List Value := l.flatMap fun r => [.int .i64 r.1, .int .i64 r.2.1, .int .i64 r.2.2]
theorem flat3_get (l : List (Int × Int × Int)) (i : Nat) (h : i < l.length) :
    (flat3 l)[i * 3]? = some (.int .i64 (l.getD i (0, 0, 0)).1) ∧ (flat3 l)[i * 3 + 1]? = some (.int .i64 (l.getD i (0, 0, 0)).2.1) ∧ (flat3 l)[i * 3 + 2]? = some (.int .i64 (l.getD i (0, 0, 0)).2.2) := by
  induction l generalizing i with
  | nil => simp at h
  | cons r l ih =>
    cases i with
    | zero => simp [flat3]
    | succ i =>
      have := ih i (by simpa using h)
      have e : flat3 (r :: l) = .int .i64 r.1 :: .int .i64 r.2.1 :: .int .i64 r.2.2 :: flat3 l := by simp [flat3]
      rw [e, show (i + 1) * 3 = i * 3 + 1 + 1 + 1 from by omega]
      simpa using this
/-- A value that reads as a list of triples: its block is g. -/
def TRow (w : World) (g : Nat) (l : List (Int × Int × Int)) : Prop :=
  g < w.heap.size ∧ ∀ i, i < l.length → w.cell? ⟨g, i * 3, none⟩ = some (.int .i64 (l.getD i (0, 0, 0)).1) ∧ w.cell? ⟨g, i * 3 + 1, none⟩ = some (.int .i64 (l.getD i (0, 0, 0)).2.1) ∧ w.cell? ⟨g, i * 3 + 2, none⟩ = some (.int .i64 (l.getD i (0, 0, 0)).2.2)
theorem TRow.q {w w' : World} {g : Nat} {l : List (Int × Int × Int)} (h : TRow w g l) (hq : Q w w') : TRow w' g l := by
  obtain ⟨hg, hc⟩ := h
  refine ⟨Nat.lt_of_lt_of_le hg hq.le, fun i hi => ?_⟩
  obtain ⟨h1, h2, h3⟩ := hc i hi
  exact ⟨(World.cell?_of_block (w := w) (hq.block hg)).trans h1, (World.cell?_of_block (w := w) (hq.block hg)).trans h2, (World.cell?_of_block (w := w) (hq.block hg)).trans h3⟩
theorem TRow.made (w : World) (l : List (Int × Int × Int)) (t : TypeId) (cs : Array Value) (hcs : cs = (flat3 l).toArray) :
    TRow (w.alloc (.cells cs t)) w.heap.size l := by
  subst hcs
  refine ⟨by simp, fun i hi => ⟨?_, ?_, ?_⟩⟩
  · rw [World.cell?_alloc_at _ _ _ _ rfl]; simpa using (flat3_get l i hi).1
  · rw [World.cell?_alloc_at _ _ _ _ rfl]; simpa using (flat3_get l i hi).2.1
  · rw [World.cell?_alloc_at _ _ _ _ rfl]; simpa using (flat3_get l i hi).2.2

end Go.Proofs.Ytmobljfpkdjnpaa
