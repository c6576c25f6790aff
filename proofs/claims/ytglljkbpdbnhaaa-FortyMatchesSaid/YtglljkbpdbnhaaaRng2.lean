/- A range over a function, where a round begins with a box of its own. -/
import Derived.Test.YtglljkbpdbnhaaaRows
import Derived.Test.YtglljkbpdbnhaaaInts
import Derived.Test.YtglljkbpdbnhaaaGap
import Derived.Test.YtglljkbpdbnhaaaRng
import Derived.RangeFuncNested
import Derived.RangeFuncCalls
import Derived.RangeFuncLeaves
import Derived.Shelf.Abstract
import Derived.OwnWalkIn
import Derived.Maps.AppendAt
set_option linter.unusedVariables false
set_option linter.unusedSimpArgs false
namespace Go.Proofs.Ytglljkbpdbnhaaa
open Go.RowKit Go.Shelf

/-- The law for the one who ranges, where a round begins with a box of its own. -/
theorem range_any2 {α : Type} {g : Operand} {ps : Array Tmp} {assign body : Code} {R : Exit → Act → World → Prop} {a : Act} {w : World}
    {gf : Nat} {lb : Array Value} (hg : a.eval g = .func (.func gf) #[] lb) (eg : ∀ args w, (callFunc gf args).run Try.prog w = .ok (.enter gf args) w)
    {encs : α → Array Value} (hps : ∀ x, (encs x).size = ps.size) {hi : Nat} {S : Nat → Prop} {Pre All : List α → Prop}
    (hit : Iter gf lb encs (w.heap.size + 1 + 1) hi S Pre All w) (hS : ¬ S (w.heap.size + 1)) (hhi : w.heap.size + 1 < hi)
    (I : List α → World → Prop) (Ix : Code → List α → World → Prop)
    (hI : ∀ s A A', I s A → Gap w.heap.size hi A A' → I s A') (hIx : ∀ c s A A', Ix c s A → Gap w.heap.size hi A A' → Ix c s A') (h0 : I [] w) (As : α → Act → World → Prop) (hAs : ∀ x b A A', As x b A → Gap w.heap.size hi A A' → As x b A')
    (hassign : ∀ (l : Nat) (x : α) (W : World) (K : Act → World → Prop), hi ≤ W.heap.size → (∀ a₁ W', Q W W' → As x a₁ W' → K a₁ W') →
      assign.wpIn (Fence.wide.inRound l) 0 Try.prog (Exit.then K (fun _ _ _ => False)) { tmps := (ps.zip (encs x)).foldl (fun t (p, v) => t.setIfInBounds p v) a.tmps, defers := [] } W)
    (hbody : ∀ (l : Nat) (pre : List α) (x : α) (a₁ : Act) (W : World), I pre W → As x a₁ W → hi ≤ W.heap.size → Pre (pre ++ [x]) →
      body.wpIn (Fence.wide.inRound l) 0 Try.prog (roundPost2 (fun k => S k ∨ k = w.heap.size ∨ k = w.heap.size + 1) I Ix (pre ++ [x]) W) a₁ W)
    (hdone : ∀ (xs : List α) (W : World), All xs → I xs W → W.heap[w.heap.size]? = some (.deferred (some [])) → R .normal { a with defers := { target := .collected w.heap.size, args := #[] } :: a.defers } W)
    (hstop : ∀ (c : Code) (pre : List α) (W : World), Pre pre → Ix c pre W → W.heap[w.heap.size]? = some (.deferred (some [])) → c.wpIn Fence.wide 0 Try.prog R { a with defers := { target := .collected w.heap.size, args := #[] } :: a.defers } W) :
    (Code.rangeFunc g ps assign body).wpIn Fence.wide 0 Try.prog R a w := by
  refine wpIn_rangeFunc fun fn _ => ?_
  obtain ⟨rec, hrec⟩ : ∃ rec : LoopState → Option Code → Obj, rec = fun st pe => .loop { state := st, pending := pe, fn, tmps := a.tmps, params := ps, assign, body, defers := w.heap.size } := ⟨_, rfl⟩
  have hout := run_enterLoop_outer (P := Try.prog) (w := w) fn a.tmps ps assign body
  obtain ⟨W1, hW1⟩ : ∃ W1, W1 = (w.alloc (.deferred (some []))).alloc (rec .ready none) := ⟨_, rfl⟩
  have hq1 : Q w W1 := by rw [hW1]; exact ((Q.refl w).alloc _).alloc _
  have hz1 : W1.heap.size = w.heap.size + 1 + 1 := by rw [hW1]; simp
  have hl1 : W1.heap[w.heap.size + 1]? = some (rec .ready none) := by
    rw [hW1]; have := World.alloc_heap_new (w.alloc (.deferred (some []))) (rec .ready none); rwa [World.size_alloc] at this
  have hd1 : W1.heap[w.heap.size]? = some (.deferred (some [])) := by
    rw [hW1]; exact (Below.heap_alloc _ _ _ (by simp)).trans (World.alloc_heap_new w _)
  have turn : ∀ (A : World) (o : Obj), Gap w.heap.size hi A (A.putObj (w.heap.size + 1) o) := fun A o => Gap.putObj A _ o _ _ (by omega) hhi
  refine ⟨w.heap.size + 1, [{ target := .collected w.heap.size, args := #[] }], W1, { target := .fn (.func gf) lb, args := #[.func (.yield (w.heap.size + 1)) #[] #[]] }, W1, gf,
    #[.func (.yield (w.heap.size + 1)) #[] #[]] ++ lb, W1, ?_, ?_, (fun _ _ => trivial), ?_, (fun h => nomatch h), ?_⟩
  · rw [hW1, hrec]; exact hout
  · simp only [resolve, hg]
    simp [go_sem]
  · simp [invoke, go_sem, eg]
  · refine (hit (w.heap.size + 1)
      (fun pre W => I pre W ∧ W.heap[w.heap.size + 1]? = some (rec .ready none) ∧ W.heap[w.heap.size]? = some (.deferred (some [])))
      (fun pre W => ∃ c, Ix c pre W ∧ W.heap[w.heap.size + 1]? = some (rec .done (some c)) ∧ W.heap[w.heap.size]? = some (.deferred (some [])))
      W1 hz1 hq1 ?_ ?_ ⟨hI _ _ _ h0 (hq1.gap _ _), hl1, hd1⟩).mono ?_
    · rintro s A A' ⟨h1, h2, h3⟩ hgap
      exact ⟨hI _ _ _ h1 (hgap.mono (by omega) (Nat.le_refl _)), (hgap.block _ (Array.getElem?_eq_some_iff.1 h2).1 (.inl (by omega))).trans h2, (hgap.block _ (Array.getElem?_eq_some_iff.1 h3).1 (.inl (by omega))).trans h3⟩
    · rintro pre x A0 ⟨h1, h2, h3⟩ hz hpre
      have hlt := (Array.getElem?_eq_some_iff.1 h2).1
      rw [hrec] at h2
      have hy := run_yield (P := Try.prog) (args := encs x) h2 (hps x)
      refine ⟨fn, _, assign, body, hy, roundIn_of_wpIn trivial (hassign _ x A0 _ hz fun a₁ A hqA hasA => ?_)⟩
      have h2 : A.heap[w.heap.size + 1]? = _ := (hqA.block hlt).trans h2
      have h3 := (hqA.block (Array.getElem?_eq_some_iff.1 h3).1).trans h3
      have h1 := hI _ _ _ h1 (hqA.gap _ _)
      have hz := Nat.le_trans hz hqA.size
      have hlt := (Array.getElem?_eq_some_iff.1 h2).1
      refine ⟨_, run_beginRound h2 rfl, ?_⟩
      have h4 := World.putObj_heap_same (w := A) (o := rec .busy none) hlt
      have h5 : (A.putObj (w.heap.size + 1) (rec .busy none)).heap[w.heap.size]? = some (.deferred (some [])) := (World.putObj_heap_other (by omega)).trans h3
      have hs := (hqA.stand S).trans (Stand.putObj S A (w.heap.size + 1) (rec .busy none) hS)
      rw [hrec] at h4 h5 hs
      have hb := hbody (w.heap.size + 1) pre x a₁ _ (hI _ _ _ h1 (turn A (rec .busy none))) (hAs _ _ _ _ hasA (turn A (rec .busy none))) (by simpa using hz) hpre
      rw [hrec] at hb
      refine wpIn_mono hb ?_
      have fin : ∀ (jump : Option Code) (W3 : World), Stand (fun k => S k ∨ k = w.heap.size ∨ k = w.heap.size + 1) (A.putObj (w.heap.size + 1) (rec .busy none)) W3 →
          (Instr.endRound (w.heap.size + 1) jump).run Try.prog W3 = .ok (.bool jump.isNone) (W3.putObj (w.heap.size + 1) (rec (if jump.isNone then .ready else .done) jump)) ∧
          (W3.putObj (w.heap.size + 1) (rec (if jump.isNone then .ready else .done) jump)).heap[w.heap.size + 1]? = some (rec (if jump.isNone then .ready else .done) jump) ∧
          (W3.putObj (w.heap.size + 1) (rec (if jump.isNone then .ready else .done) jump)).heap[w.heap.size]? = some (.deferred (some [])) ∧
          Stand S A0 (W3.putObj (w.heap.size + 1) (rec (if jump.isNone then .ready else .done) jump)) := by
        intro jump W3 hk
        rw [hrec] at hk ⊢
        have h6 := hk.heap (.inr (.inr rfl)) h4
        have h7 := hk.heap (.inr (.inl rfl)) h5
        exact ⟨run_endRound (P := Try.prog) jump h6, World.putObj_heap_same (Array.getElem?_eq_some_iff.1 h6).1, (World.putObj_heap_other (by omega)).trans h7,
          (hs.trans (hk.mono fun k h => .inl h)).trans (Stand.putObj S _ _ _ hS)⟩
      rw [hrec] at fin
      rw [hrec]
      intro e a3 W3 hp
      cases e with
      | normal =>
        obtain ⟨hk, hi3⟩ := hp
        obtain ⟨f1, f2, f3, f4⟩ := fin none W3 hk
        exact ⟨_, _, f1, .inl ⟨rfl, ⟨hI _ _ _ hi3 (turn _ _), f2, f3⟩, f4⟩⟩
      | ret =>
        obtain ⟨hk, hi3⟩ := hp
        obtain ⟨f1, f2, f3, f4⟩ := fin (some .ret) W3 hk
        exact ⟨_, _, f1, .inr ⟨rfl, _, hIx _ _ _ _ hi3 (turn _ _), f2, f3⟩⟩
      | exit id =>
        obtain ⟨hk, hi3⟩ := hp
        obtain ⟨f1, f2, f3, f4⟩ := fin (some (.exit id)) W3 hk
        exact ⟨_, _, f1, .inr ⟨rfl, _, hIx _ _ _ _ hi3 (turn _ _), f2, f3⟩⟩
      | goto t =>
        obtain ⟨hk, hi3⟩ := hp
        obtain ⟨f1, f2, f3, f4⟩ := fin (some (.goto t)) W3 hk
        exact ⟨_, _, f1, .inr ⟨rfl, _, hIx _ _ _ _ hi3 (turn _ _), f2, f3⟩⟩
      | panic ch => exact hp.elim
      | outgrown => exact hp.elim
    · rw [hrec]
      rintro e W2 ⟨⟨v, rfl⟩, (⟨xs, hall, h1, h2, h3⟩ | ⟨pre, hpre, c, h1, h2, h3⟩)⟩
      · exact ⟨none, _, run_endLoop (P := Try.prog) h2 (by simp), hdone xs _ hall (hI _ _ _ h1 (turn _ _)) ((World.putObj_heap_other (by omega)).trans h3)⟩
      · exact ⟨some c, _, run_endLoop (P := Try.prog) h2 (by simp), hstop c pre _ hpre (hIx _ _ _ _ h1 (turn _ _)) ((World.putObj_heap_other (by omega)).trans h3)⟩


end Go.Proofs.Ytglljkbpdbnhaaa
