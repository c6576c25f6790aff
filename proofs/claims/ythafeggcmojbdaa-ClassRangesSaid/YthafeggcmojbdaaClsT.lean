/- Lists of triples of the call's own. -/
import Derived.Test.YthafeggcmojbdaaRows
import Derived.Test.YthafeggcmojbdaaClsM
import Derived.Test.YthafeggcmojbdaaInts
import Derived.Test.YthafeggcmojbdaaPairs
import Derived.Deep.QuietTactic
import Derived.Deep.CutRange
import Derived.Deep.CutBlock
import Derived.Deep.DeepCutAuto
import Derived.BigQuiet
import Derived.OneCell
set_option linter.unusedVariables false
set_option linter.unusedSimpArgs false
namespace Go.Proofs.Ythafeggcmojbdaa
open Go.RowKit Cm

/-- A list of triples of the call's own, from block B on. -/
def OwnT (w : World) (B : Nat) (v : Value) (l : List (Int × Int × Int)) : Prop := w.ownsRow B 31 3 v l.length (flat3 l)
theorem flat3_len (l : List (Int × Int × Int)) : (flat3 l).length = l.length * 3 := by
  induction l with
  | nil => rfl
  | cons r l ih =>
    have e : flat3 (r :: l) = .int .i64 r.1 :: .int .i64 r.2.1 :: .int .i64 r.2.2 :: flat3 l := by simp [flat3]
    rw [e]; simp [ih]; omega
theorem flat3_app (a b : List (Int × Int × Int)) : flat3 (a ++ b) = flat3 a ++ flat3 b := by simp [flat3]
theorem OwnT.nil (w : World) (B : Nat) : OwnT w B (.slice none 0 0) [] := World.ownsRow_nil w B 31 3
theorem OwnT.same {w w' : World} {B : Nat} {v : Value} {l : List (Int × Int × Int)} (h : OwnT w B v l) (hs : ∀ g, v.ownBlock = some g → w'.heap[g]? = w.heap[g]?) : OwnT w' B v l := by
  obtain ⟨h1, h2⟩ := h
  refine ⟨h1, ?_⟩
  rcases h2 with h2 | ⟨g, cap, cur, hv, hg, hh, r⟩
  · exact .inl h2
  · exact .inr ⟨g, cap, cur, hv, hg, by rw [hs g (by rw [hv]; rfl)]; exact hh, r⟩
theorem OwnT.lt {w : World} {B : Nat} {v : Value} {l : List (Int × Int × Int)} (h : OwnT w B v l) : ∀ g, v.ownBlock = some g → B ≤ g ∧ g < w.heap.size := World.ownsRow.lt h
theorem OwnT.alloc {w : World} {B : Nat} {v : Value} {l : List (Int × Int × Int)} (h : OwnT w B v l) (o : Obj) : OwnT (w.alloc o) B v l := World.ownsRow.alloc h o
theorem OwnT.q {w w' : World} {B : Nat} {v : Value} {l : List (Int × Int × Int)} (h : OwnT w B v l) (hq : Q w w') : OwnT w' B v l := h.same fun g hg => hq.block (h.lt g hg).2
theorem OwnT.triples {w : World} {B : Nat} {v : Value} {l : List (Int × Int × Int)} (h : OwnT w B v l) :
    ∃ a c, v = .slice a l.length c ∧ l.length ≤ c ∧ c ≤ maxLen ∧ ∀ i, i < l.length → ∃ g, a = some ⟨g, 0, none⟩ ∧ g < w.heap.size ∧ w.cell? ⟨g, i * 3, none⟩ = some (.int .i64 (l.getD i (0, 0, 0)).1) ∧ w.cell? ⟨g, i * 3 + 1, none⟩ = some (.int .i64 (l.getD i (0, 0, 0)).2.1) := by
  rcases h.2 with ⟨hv, hn⟩ | ⟨g, cap, cur, hv, _, hh, hnc, hcm, hcs, ht⟩
  · have : l = [] := List.eq_nil_of_length_eq_zero hn
    subst this; subst hv
    exact ⟨none, 0, rfl, by simp, by unfold maxLen; omega, fun i hi => by simp at hi⟩
  · refine ⟨_, cap, hv, hnc, hcm, fun i hi => ⟨g, rfl, (Array.getElem?_eq_some_iff.1 hh).1, ?_, ?_⟩⟩
    · rw [cell_of_row w g (i * 3) cur 31 (0, 0) hh]
      have h1 := congrArg (fun x => x[i * 3]?) ht
      rw [List.getElem?_take, if_pos (by omega), (flat3_get l i hi).1] at h1
      rw [← Array.getElem?_toList, h1]
    · rw [cell_of_row w g (i * 3 + 1) cur 31 (0, 0) hh]
      have h1 := congrArg (fun x => x[i * 3 + 1]?) ht
      rw [List.getElem?_take, if_pos (by omega), (flat3_get l i hi).2.1] at h1
      rw [← Array.getElem?_toList, h1]

theorem infoTriple : (Try.prog.info? 31).map (fun i => (i.zero, i.size, i.bytes)) = some (some (.agg #[.int .i64 0, .int .i64 0, .int .i64 0]), 3, 24) := by kernel_rfl

/-- One pair more behind a list of the call's own. -/
theorem push_triple {w : World} {B : Nat} {v : Value} {l : List (Int × Int × Int)} (hown : OwnT w B v l) {ops : Array Oper} {rest : List Oper} {o : Oper} {a : Act} {R : Exit → Act → World → Prop} (hgd : o.guard = none) (s x : Operand)
    (ho : o.op = .call { callee := .builtin .append, args := #[s, x], argTypes := #[29, 29] })
    (p q r : Int) (hs : a.eval s = v) (hx : a.eval x = .slice (some ⟨w.heap.size, 0, none⟩) 1 1) (hlen : l.length < 1073741824) (hB : B ≤ w.heap.size)
    (h : ∀ v' w', OwnT w' B v' (l ++ [(p, q, r)]) → w.grownBy w' v.ownBlock → (v'.ownBlock = v.ownBlock ∨ v'.ownBlock = some (w.heap.size + 1)) → wpList Try.prog ops R rest (a.put o.dst v') w') :
    wpList Try.prog ops R (o :: rest) a (w.alloc (.cells #[.int .i64 p, .int .i64 q, .int .i64 r] 31)) := by
  obtain ⟨i0, hi, hz0, hz1, hz2⟩ := info_parts infoTriple
  refine wpList_append_own_at _ hgd s x 29 ho B 31 i0 (.agg #[.int .i64 0, .int .i64 0, .int .i64 0]) 3 24 Try.underlying29 hi hz0 hz1 hz2 rfl (by decide) v l.length _ hs (World.ownsRow.alloc hown _)
    ⟨w.heap.size, 0, none⟩ 1 1 [.int .i64 p, .int .i64 q, .int .i64 r] hx rfl ?_ ?_ ?_ ?_ ?_ ?_
  · intro j u hj
    match j, hj with
    | 0, hj => simp at hj; subst hj; show World.cell? _ ⟨w.heap.size, 0 + 0, none⟩ = _; rw [World.cell?_alloc_at _ _ _ _ rfl]; rfl
    | 1, hj => simp at hj; subst hj; show World.cell? _ ⟨w.heap.size, 0 + 1, none⟩ = _; rw [World.cell?_alloc_at _ _ _ _ rfl]; rfl
    | 2, hj => simp at hj; subst hj; show World.cell? _ ⟨w.heap.size, 0 + 2, none⟩ = _; rw [World.cell?_alloc_at _ _ _ _ rfl]; rfl
  · intro u hu; simp at hu; rcases hu with rfl | rfl | rfl <;> rfl
  · unfold maxLen; omega
  · omega
  · simp; omega
  · intro v' w' hown' hg _ hat
    refine h v' w' ?_ ?_ ?_
    · unfold OwnT
      rw [List.length_append, flat3_app]
      exact hown'
    · exact (World.grownBy_alloc w _ _).trans hg
    · simpa using hat

end Go.Proofs.Ythafeggcmojbdaa
