/- A range over a function whose value keeps what it knows in blocks of its own: one law for those that range over it. The iterator's blocks lie between the loop's record and 'hi'; what the loop's body owns lies elsewhere. -/
import Derived.Test.YtglljkbpdbnhaaaRows
import Derived.Test.YtglljkbpdbnhaaaInts
import Derived.Test.YtglljkbpdbnhaaaGap
import Derived.RangeFuncNested
import Derived.RangeFuncCalls
import Derived.RangeFuncLeaves
import Derived.Shelf.Abstract
import Derived.OwnWalkIn
import Derived.Maps.AppendAt
set_option linter.unusedVariables false
set_option linter.unusedSimpArgs false
namespace Go.Proofs.Ytglljkbpdbnhaaa
open Go.RowKit Go.Shelf

/-- The blocks of a set stand. -/
structure Stand (S : Nat → Prop) (A A' : World) : Prop where
  size : A.heap.size ≤ A'.heap.size
  block : ∀ k, k < A.heap.size → S k → A'.heap[k]? = A.heap[k]?
theorem Stand.refl (S : Nat → Prop) (A : World) : Stand S A A := ⟨Nat.le_refl _, fun _ _ _ => rfl⟩
theorem Stand.trans {S : Nat → Prop} {A B C : World} (h : Stand S A B) (k : Stand S B C) : Stand S A C :=
  ⟨Nat.le_trans h.size k.size, fun i hi hs => (k.block i (Nat.lt_of_lt_of_le hi h.size) hs).trans (h.block i hi hs)⟩
theorem Stand.mono {S T : Nat → Prop} {A B : World} (h : Stand S A B) (ht : ∀ k, T k → S k) : Stand T A B := ⟨h.size, fun k hk hs => h.block k hk (ht k hs)⟩
theorem Q.stand {A B : World} (h : Q A B) (S : Nat → Prop) : Stand S A B := ⟨h.size, fun k hk _ => h.block hk⟩
theorem Stand.putObj (S : Nat → Prop) (A : World) (l : Nat) (o : Obj) (hl : ¬ S l) : Stand S A (A.putObj l o) :=
  ⟨by simp, fun k hk hs => World.putObj_heap_other (fun e => hl (e ▸ hs))⟩
theorem Stand.setCell (S : Nat → Prop) (A : World) (b o : Nat) (v : Value) (hb : ¬ S b) : Stand S A (A.setCell ⟨b, o, none⟩ v) :=
  ⟨by simp [World.setCell], fun k hk hs => Below.heap_setCell _ _ _ _ (by show k ≠ b; intro e; exact hb (e ▸ hs))⟩
theorem Stand.grown {S : Nat → Prop} {A B : World} {row : Option Nat} (hg : A.grownBy B row) (hr : ∀ k, row = some k → ¬ S k) : Stand S A B :=
  ⟨hg.size, fun k hk hs => hg.block k hk (fun e => hr k e.symm hs)⟩
theorem Stand.heap {S : Nat → Prop} {A B : World} (h : Stand S A B) {k : Nat} {o : Obj} (hs : S k) (ho : A.heap[k]? = some o) : B.heap[k]? = some o :=
  (h.block k (Array.getElem?_eq_some_iff.1 ho).1 hs).trans ho

/-- How a round's body may be left. -/
def roundPost2 {α : Type} (S : Nat → Prop) (I : List α → World → Prop) (Ix : Code → List α → World → Prop) (xs : List α) (W : World) : Exit → Act → World → Prop
  | .normal, _, W' => Stand S W W' ∧ I xs W'
  | .ret, _, W' => Stand S W W' ∧ Ix .ret xs W'
  | .exit id, _, W' => Stand S W W' ∧ Ix (.exit id) xs W'
  | .goto t, _, W' => Stand S W W' ∧ Ix (.goto t) xs W'
  | .panic _, _, _ => False
  | .outgrown, _, _ => False

/-- What an iterator's value does with whatever body: it is called in W, whose size is 'lo'; its own blocks are those from lo on and below hi; the set S is what a round must leave as it is. -/
def Iter {α : Type} (g : Nat) (lb : Array Value) (encs : α → Array Value) (lo hi : Nat) (S : Nat → Prop) (Pre All : List α → Prop) (W0 : World) : Prop :=
  ∀ (l : Nat) (J Jx : List α → World → Prop) (W : World), W.heap.size = lo → Q W0 W →
    (∀ s A A', J s A → Gap lo hi A A' → J s A') →
    (∀ pre x A, J pre A → hi ≤ A.heap.size → Pre (pre ++ [x]) → YieldAt Fence.wide 0 Try.prog l (encs x) A fun e A' =>
      (e = .returned (.bool true) ∧ J (pre ++ [x]) A' ∧ Stand S A A') ∨ (e = .returned (.bool false) ∧ Jx (pre ++ [x]) A')) →
    J [] W →
    CallsIn Fence.wide 0 Try.prog g (#[.func (.yield l) #[] #[]] ++ lb) W fun e W' => (∃ v, e = .returned v) ∧ ((∃ xs, All xs ∧ J xs W') ∨ (∃ pre, Pre pre ∧ Jx pre W'))

/-- The law for the one who ranges. -/
theorem range_any {α : Type} {g : Operand} {ps : Array Tmp} {assign body : Code} {R : Exit → Act → World → Prop} {a : Act} {w : World}
    {gf : Nat} {lb : Array Value} (hg : a.eval g = .func (.func gf) #[] lb) (eg : ∀ args w, (callFunc gf args).run Try.prog w = .ok (.enter gf args) w)
    {encs : α → Array Value} (hps : ∀ x, (encs x).size = ps.size) {hi : Nat} {S : Nat → Prop} {Pre All : List α → Prop}
    (hit : Iter gf lb encs (w.heap.size + 1 + 1) hi S Pre All w) (hS : ¬ S (w.heap.size + 1)) (hhi : w.heap.size + 1 < hi)
    (I : List α → World → Prop) (Ix : Code → List α → World → Prop)
    (hI : ∀ s A A', I s A → Gap w.heap.size hi A A' → I s A') (hIx : ∀ c s A A', Ix c s A → Gap w.heap.size hi A A' → Ix c s A') (h0 : I [] w) (a₁ : α → Act)
    (hassign : ∀ (l : Nat) (x : α) (W : World) (K : Act → World → Prop), K (a₁ x) W →
      assign.wpIn (Fence.wide.inRound l) 0 Try.prog (Exit.then K (fun _ _ _ => False)) { tmps := (ps.zip (encs x)).foldl (fun t (p, v) => t.setIfInBounds p v) a.tmps, defers := [] } W)
    (hbody : ∀ (l : Nat) (pre : List α) (x : α) (W : World), I pre W → hi ≤ W.heap.size → Pre (pre ++ [x]) →
      body.wpIn (Fence.wide.inRound l) 0 Try.prog (roundPost2 (fun k => S k ∨ k = w.heap.size ∨ k = w.heap.size + 1) I Ix (pre ++ [x]) W) (a₁ x) W)
    (hdone : ∀ (xs : List α) (W : World), All xs → I xs W → W.heap[w.heap.size]? = some (.deferred (some [])) → R .normal { a with defers := { target := .collected w.heap.size, args := #[] } :: a.defers } W)
    (hstop : ∀ (c : Code) (pre : List α) (W : World), Pre pre → Ix c pre W → W.heap[w.heap.size]? = some (.deferred (some [])) → c.wpIn Fence.wide 0 Try.prog R { a with defers := { target := .collected w.heap.size, args := #[] } :: a.defers } W) :
    (Code.rangeFunc g ps assign body).wpIn Fence.wide 0 Try.prog R a w := by
  refine wpIn_rangeFunc fun fn _ => ?_
  obtain ⟨rec, hrec⟩ : ∃ rec : LoopState → Option Code → Obj, rec = fun st pe => .loop { state := st, pending := pe, fn, tmps := a.tmps, params := ps, assign, body, defers := w.heap.size } := ⟨_, rfl⟩
  have hout := run_enterLoop_outer (P := Try.prog) (w := w) fn a.tmps ps assign body
  obtain ⟨W1, hW1⟩ : ∃ W1, W1 = (w.alloc (.deferred (some []))).alloc (rec .ready none) := ⟨_, rfl⟩
  have hq1 : Q w W1 := by rw [hW1]; exact ((Q.refl w).alloc _).alloc _
  have hz1 : W1.heap.size = w.heap.size + 1 + 1 := by rw [hW1]; simp
  have hl1 : W1.heap[w.heap.size + 1]? = some (rec .ready none) := by
    rw [hW1]; have := World.alloc_heap_new (w.alloc (.deferred (some []))) (rec .ready none); rwa [World.size_alloc] at this
  have hd1 : W1.heap[w.heap.size]? = some (.deferred (some [])) := by
    rw [hW1]; exact (Below.heap_alloc _ _ _ (by simp)).trans (World.alloc_heap_new w _)
  have turn : ∀ (A : World) (o : Obj), Gap w.heap.size hi A (A.putObj (w.heap.size + 1) o) := fun A o => Gap.putObj A _ o _ _ (by omega) hhi
  refine ⟨w.heap.size + 1, [{ target := .collected w.heap.size, args := #[] }], W1, { target := .fn (.func gf) lb, args := #[.func (.yield (w.heap.size + 1)) #[] #[]] }, W1, gf,
    #[.func (.yield (w.heap.size + 1)) #[] #[]] ++ lb, W1, ?_, ?_, (fun _ _ => trivial), ?_, (fun h => nomatch h), ?_⟩
  · rw [hW1, hrec]; exact hout
  · simp only [resolve, hg]
    simp [go_sem]
  · simp [invoke, go_sem, eg]
  · refine (hit (w.heap.size + 1)
      (fun pre W => I pre W ∧ W.heap[w.heap.size + 1]? = some (rec .ready none) ∧ W.heap[w.heap.size]? = some (.deferred (some [])))
      (fun pre W => ∃ c, Ix c pre W ∧ W.heap[w.heap.size + 1]? = some (rec .done (some c)) ∧ W.heap[w.heap.size]? = some (.deferred (some [])))
      W1 hz1 hq1 ?_ ?_ ⟨hI _ _ _ h0 (hq1.gap _ _), hl1, hd1⟩).mono ?_
    · rintro s A A' ⟨h1, h2, h3⟩ hgap
      exact ⟨hI _ _ _ h1 (hgap.mono (by omega) (Nat.le_refl _)), (hgap.block _ (Array.getElem?_eq_some_iff.1 h2).1 (.inl (by omega))).trans h2, (hgap.block _ (Array.getElem?_eq_some_iff.1 h3).1 (.inl (by omega))).trans h3⟩
    · rintro pre x A ⟨h1, h2, h3⟩ hz hpre
      have hlt := (Array.getElem?_eq_some_iff.1 h2).1
      rw [hrec] at h2
      have hy := run_yield (P := Try.prog) (args := encs x) h2 (hps x)
      refine ⟨fn, _, assign, body, hy, roundIn_of_wpIn trivial (hassign _ x A _ ⟨_, run_beginRound h2 rfl, ?_⟩)⟩
      have h4 := World.putObj_heap_same (w := A) (o := rec .busy none) hlt
      have h5 : (A.putObj (w.heap.size + 1) (rec .busy none)).heap[w.heap.size]? = some (.deferred (some [])) := (World.putObj_heap_other (by omega)).trans h3
      have hs := Stand.putObj S A (w.heap.size + 1) (rec .busy none) hS
      rw [hrec] at h4 h5 hs
      have hb := hbody (w.heap.size + 1) pre x _ (hI _ _ _ h1 (turn A (rec .busy none))) (by simpa using hz) hpre
      rw [hrec] at hb
      refine wpIn_mono hb ?_
      have fin : ∀ (jump : Option Code) (W3 : World), Stand (fun k => S k ∨ k = w.heap.size ∨ k = w.heap.size + 1) (A.putObj (w.heap.size + 1) (rec .busy none)) W3 →
          (Instr.endRound (w.heap.size + 1) jump).run Try.prog W3 = .ok (.bool jump.isNone) (W3.putObj (w.heap.size + 1) (rec (if jump.isNone then .ready else .done) jump)) ∧
          (W3.putObj (w.heap.size + 1) (rec (if jump.isNone then .ready else .done) jump)).heap[w.heap.size + 1]? = some (rec (if jump.isNone then .ready else .done) jump) ∧
          (W3.putObj (w.heap.size + 1) (rec (if jump.isNone then .ready else .done) jump)).heap[w.heap.size]? = some (.deferred (some [])) ∧
          Stand S A (W3.putObj (w.heap.size + 1) (rec (if jump.isNone then .ready else .done) jump)) := by
        intro jump W3 hk
        rw [hrec] at hk ⊢
        have h6 := hk.heap (.inr (.inr rfl)) h4
        have h7 := hk.heap (.inr (.inl rfl)) h5
        exact ⟨run_endRound (P := Try.prog) jump h6, World.putObj_heap_same (Array.getElem?_eq_some_iff.1 h6).1, (World.putObj_heap_other (by omega)).trans h7,
          (hs.trans (hk.mono fun k h => .inl h)).trans (Stand.putObj S _ _ _ hS)⟩
      rw [hrec] at fin
      rw [hrec]
      intro e a3 W3 hp
      cases e with
      | normal =>
        obtain ⟨hk, hi3⟩ := hp
        obtain ⟨f1, f2, f3, f4⟩ := fin none W3 hk
        exact ⟨_, _, f1, .inl ⟨rfl, ⟨hI _ _ _ hi3 (turn _ _), f2, f3⟩, f4⟩⟩
      | ret =>
        obtain ⟨hk, hi3⟩ := hp
        obtain ⟨f1, f2, f3, f4⟩ := fin (some .ret) W3 hk
        exact ⟨_, _, f1, .inr ⟨rfl, _, hIx _ _ _ _ hi3 (turn _ _), f2, f3⟩⟩
      | exit id =>
        obtain ⟨hk, hi3⟩ := hp
        obtain ⟨f1, f2, f3, f4⟩ := fin (some (.exit id)) W3 hk
        exact ⟨_, _, f1, .inr ⟨rfl, _, hIx _ _ _ _ hi3 (turn _ _), f2, f3⟩⟩
      | goto t =>
        obtain ⟨hk, hi3⟩ := hp
        obtain ⟨f1, f2, f3, f4⟩ := fin (some (.goto t)) W3 hk
        exact ⟨_, _, f1, .inr ⟨rfl, _, hIx _ _ _ _ hi3 (turn _ _), f2, f3⟩⟩
      | panic ch => exact hp.elim
      | outgrown => exact hp.elim
    · rw [hrec]
      rintro e W2 ⟨⟨v, rfl⟩, (⟨xs, hall, h1, h2, h3⟩ | ⟨pre, hpre, c, h1, h2, h3⟩)⟩
      · exact ⟨none, _, run_endLoop (P := Try.prog) h2 (by simp), hdone xs _ hall (hI _ _ _ h1 (turn _ _)) ((World.putObj_heap_other (by omega)).trans h3)⟩
      · exact ⟨some c, _, run_endLoop (P := Try.prog) h2 (by simp), hstop c pre _ hpre (hIx _ _ _ _ h1 (turn _ _)) ((World.putObj_heap_other (by omega)).trans h3)⟩

/-- What was there stands, where the gap begins behind it. -/
theorem Q.gapped {a A B : World} {lo hi : Nat} (h : Q a A) (hg : Gap lo hi A B) (hl : a.heap.size ≤ lo) : Q a B :=
  Below.trans h ⟨hg.os, hg.tape, hg.output, hg.size, fun k hk => hg.block k (Nat.lt_of_lt_of_le hk h.size) (.inl (by omega))⟩
theorem Own.base {w : World} {B : Nat} {v : Value} {zs : List Int} (h : Own w B v zs) {lo hi : Nat} (hb : hi ≤ B) : ∀ g, v.ownBlock = some g → g < lo ∨ hi ≤ g := fun g hg => .inr (Nat.le_trans hb (h.lt g hg).1)
theorem box_not_own {W : World} {B b : Nat} {t : TypeId} {u v : Value} {zs : List Int} (h : Boxed W b t u) (ho : Own W B v zs) (ht : t ≠ 3) : some b ≠ v.ownBlock := by
  intro e
  obtain ⟨cur, hc⟩ := ho.cells b e.symm
  have := (show W.heap[b]? = _ from h).symm.trans hc
  simp at this
  exact ht this.2

end Go.Proofs.Ytglljkbpdbnhaaa
