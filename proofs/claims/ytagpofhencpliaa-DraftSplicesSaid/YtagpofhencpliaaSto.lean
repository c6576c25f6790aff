/- Lists of the call's own that are written in place; lists that are made empty or full; a list's rest; a list of lists. -/
import Derived.Test.YtagpofhencpliaaRows
import Derived.Test.YtagpofhencpliaaInts
import Derived.Test.YtagpofhencpliaaEls
import Derived.Laws.OwnMore
import Derived.OwnWalk
import Derived.Laws.CopyOwn
set_option linter.unusedVariables false
set_option linter.unusedSimpArgs false
namespace Go.Proofs.Ytagpofhencpliaa
open Go.RowKit

theorem GOwn.cellAt {α : Type} {T : TypeId} {en : α → Value} {w : World} {B g n cap : Nat} {zs : List α} (h : GOwn T en w B (.slice (some ⟨g, 0, none⟩) n cap) zs) (hn : zs.length = n) {k : Nat} {x : α} (hk : zs[k]? = some x) : w.cell? ⟨g, k, none⟩ = some (en x) := by
  subst hn
  have hl := (List.getElem?_eq_some_iff.1 hk).1
  rw [World.ownsRow.cellAt h k (by omega), List.getElem?_map, hk]; rfl
theorem GOwn.freeAt {α : Type} {T : TypeId} {en : α → Value} {w : World} {B g n cap : Nat} {zs : List α} (h : GOwn T en w B (.slice (some ⟨g, 0, none⟩) n cap) zs) (hn : zs.length = n) (k : Nat) : w.frozen? ⟨g, k, none⟩ = false := by
  subst hn
  exact World.ownsRow.frozenAt h k
theorem GOwn.stored {α : Type} {T : TypeId} {en : α → Value} {w : World} {B g n cap : Nat} {zs : List α} (h : GOwn T en w B (.slice (some ⟨g, 0, none⟩) n cap) zs) (hn : zs.length = n) (k : Nat) (x : α) : GOwn T en (w.setCell ⟨g, k, none⟩ (en x)) B (.slice (some ⟨g, 0, none⟩) n cap) (zs.set k x) := by
  subst hn
  have := (World.ownsRow.stored h k (en x)).1
  unfold GOwn
  rw [List.length_set, List.map_set]
  exact this
theorem Own.cellAt {w : World} {B g n cap : Nat} {zs : List Int} (h : Own w B (.slice (some ⟨g, 0, none⟩) n cap) zs) (hn : zs.length = n) {k : Nat} (hk : k < n) : w.cell? ⟨g, k, none⟩ = some (.int .i64 (zs.getD k 0)) := by
  refine GOwn.cellAt (T := 3) (en := Value.int .i64) h hn ?_
  rw [List.getD_eq_getElem?_getD, List.getElem?_eq_getElem (by omega)]; rfl
theorem Own.freeAt {w : World} {B g n cap : Nat} {zs : List Int} (h : Own w B (.slice (some ⟨g, 0, none⟩) n cap) zs) (hn : zs.length = n) (k : Nat) : w.frozen? ⟨g, k, none⟩ = false :=
  GOwn.freeAt (T := 3) (en := Value.int .i64) h hn k
theorem Own.stored {w : World} {B g n cap : Nat} {zs : List Int} (h : Own w B (.slice (some ⟨g, 0, none⟩) n cap) zs) (hn : zs.length = n) (k : Nat) (x : Int) : Own (w.setCell ⟨g, k, none⟩ (.int .i64 x)) B (.slice (some ⟨g, 0, none⟩) n cap) (zs.set k x) :=
  GOwn.stored (T := 3) (en := Value.int .i64) h hn k x
/-- One that is not empty lies at the head of a block of its own. -/
theorem Own.head {w : World} {B n : Nat} {v : Value} {zs : List Int} (h : Own w B v zs) (hn : zs.length = n) (h0 : 0 < n) : ∃ g cap, v = .slice (some ⟨g, 0, none⟩) n cap ∧ B ≤ g ∧ g < w.heap.size ∧ n ≤ cap ∧ cap ≤ maxLen := by
  rcases h.2 with ⟨_, hz⟩ | ⟨g, cap, cur, hv, hg, hh, hnc, hcm, _⟩
  · omega
  · rw [hn] at hv hnc
    exact ⟨g, cap, hv, hg, (Array.getElem?_eq_some_iff.1 hh).1, hnc, hcm⟩
theorem Q.setCell {a w : World} (h : Q a w) {ad : Addr} (hg : a.heap.size ≤ ad.block) (u : Value) : Q a (w.setCell ad u) :=
  Below.trans h ⟨rfl, rfl, rfl, by simp, fun k hk => heap_setCell_other w ad k u (by omega)⟩
/-- A list stands while a cell of another block is written. -/
theorem Lst.setCell {w : World} {v : Value} {zs : List Int} (h : Lst w v zs) {ad : Addr} (u : Value) (ho : ∀ a n c, v = .slice (some a) n c → n ≠ 0 → a.block ≠ ad.block) : Lst (w.setCell ad u) v zs := by
  rcases h with h | ⟨g, off, cap, hv, hg, h1, h2, hc⟩
  · exact .inl h
  · by_cases h0 : zs.length = 0
    · have : zs = [] := List.eq_nil_of_length_eq_zero h0
      subst this
      exact .inl ⟨rfl, _, _, hv, h2, fun h => by cases h⟩
    · refine .inr ⟨g, off, cap, hv, by simpa using hg, h1, h2, fun i hi => ?_⟩
      rw [World.cell?_of_block (w := w) (heap_setCell_other w ad g u (fun e => ho _ _ _ hv h0 e))]
      exact hc i hi
/-- It lies below a block that came later. -/
theorem Lst.old {w : World} {v : Value} {zs : List Int} (h : Lst w v zs) : ∀ a n c, v = .slice (some a) n c → n ≠ 0 → a.block < w.heap.size := by
  rintro a n c rfl hn
  rcases h with ⟨rfl, _, _, hv, _⟩ | ⟨g, off, cap, hv, hg, _⟩
  · cases hv; exact absurd rfl hn
  · cases hv; exact hg

/-- A list of noughts that the call makes. -/
theorem make_ints {w : World} {B : Nat} {ops : Array Oper} {rest : List Oper} {o : Oper} {a : Act} {R : Exit → Act → World → Prop} (hgd : o.guard = none) (l c : Operand)
    (ho : o.op = .makeSlice 22 l c) (n : Nat) (L : Int) (hl : a.eval l = .int .i64 L) (hc : a.eval c = .int .i64 L) (hL : L = (n : Int)) (hn : n < 1099511627776) (hB : B ≤ w.heap.size)
    (h : ∀ w', Own w' B (.slice (some ⟨w.heap.size, 0, none⟩) n n) (List.replicate n 0) → Q w w' → w.heap.size < w'.heap.size → wpList Try.prog ops R rest (a.put o.dst (.slice (some ⟨w.heap.size, 0, none⟩) n n)) w') :
    wpList Try.prog ops R (o :: rest) a w := by
  obtain ⟨i0, hi, hz0, hz1, hz2⟩ := info_parts infoInt
  refine wpList_make_full w hgd l c _ ho B 3 i0 (.int .i64 0) 1 Try.underlying22 hi hz0 hz1 .i64 .i64 L L n hl hc hL hL (by rw [hz2]; omega) (by unfold maxLen; omega) hB ?_
  intro w' hown hg
  have hown2 : Own w' B (.slice (some ⟨w.heap.size, 0, none⟩) n n) (List.replicate n 0) := by
    unfold Own
    rw [List.length_replicate, List.map_replicate]
    have e : (madeCells (Value.cells (.int .i64 0)) (n * 1)).toList = List.replicate n (Value.int .i64 0) := by
      rw [Nat.mul_one]; exact toList_madeCells_one _ _
    rw [e] at hown
    exact hown
  refine h w' hown2 ((Q.refl w).grown hg (fun k hk => by cases hk)) ?_
  rcases hown.2 with ⟨h1, _⟩ | ⟨g, cap, cur, hv, _, hh, _⟩
  · cases h1
  · cases hv
    exact (Array.getElem?_eq_some_iff.1 hh).1

/-- What is left of a list behind its first k numbers: as the walk spells a cut at its beginning. -/
theorem Lst.drop {w : World} {g off n c k : Nat} {zs : List Int} (h : Lst w (.slice (some ⟨g, off, none⟩) n c) zs) (hn : zs.length = n) (hk : k < n) : Lst w (.slice (some ⟨g, off + k, none⟩) (n - k) (c - k)) (zs.drop k) := by
  rcases h with ⟨rfl, _⟩ | ⟨g', off', cap, hv, hg, h1, h2, hc⟩
  · simp at hn; omega
  · cases hv
    have hl : (zs.drop k).length = zs.length - k := by simp
    refine .inr ⟨g, off + k, c - k, by rw [hl], hg, by omega, by unfold maxLen at *; omega, fun i hi => ?_⟩
    rw [hl] at hi
    rw [Nat.add_assoc, hc (k + i) (by omega), List.getD_eq_getElem?_getD, List.getD_eq_getElem?_getD, List.getElem?_drop]

/-- A slice of numbers: where it begins, how many it has, its room, the numbers. -/
structure Sl where
  a : Option Addr
  n : Nat
  c : Nat
  zs : List Int
def Sl.v (s : Sl) : Value := .slice s.a s.n s.c
theorem Sl.one (s : Sl) : (Sl.v s).oneCell' = true := rfl
def Sl.ok (w : World) (s : Sl) : Prop := Lst w s.v s.zs ∧ s.zs.length = s.n
theorem Sl.ok.q {w w' : World} {s : Sl} (h : s.ok w) (hq : Q w w') : s.ok w' := ⟨h.1.q hq, h.2⟩
theorem Lst.sl {w : World} {v : Value} {zs : List Int} (h : Lst w v zs) : ∃ s : Sl, v = s.v ∧ s.zs = zs ∧ s.ok w := by
  obtain ⟨a, c, rfl⟩ := h.shape
  exact ⟨⟨a, zs.length, c, zs⟩, rfl, rfl, h, rfl⟩
theorem elemI : Elem 22 49 (.slice none 0 0) 24 := ⟨by kernel_rfl, Try.underlying49, rfl, by omega⟩
/-- A list of lists in memory. -/
def LL (w : World) (v : Value) (ls : List Sl) : Prop := GLst Sl.v w v ls ∧ ∀ s ∈ ls, s.ok w
theorem LL.q {w w' : World} {v : Value} {ls : List Sl} (h : LL w v ls) (hq : Q w w') : LL w' v ls := ⟨h.1.q hq, fun s hs => (h.2 s hs).q hq⟩
/-- A list of lists of the call's own. -/
def LO (w : World) (B : Nat) (v : Value) (ls : List Sl) : Prop := GOwn 22 Sl.v w B v ls ∧ ∀ s ∈ ls, s.ok w
theorem LO.q {w w' : World} {B : Nat} {v : Value} {ls : List Sl} (h : LO w B v ls) (hq : Q w w') : LO w' B v ls := ⟨h.1.q hq, fun s hs => (h.2 s hs).q hq⟩
theorem LO.ll {w : World} {B : Nat} {v : Value} {ls : List Sl} (h : LO w B v ls) : LL w v ls := ⟨h.1.lst, h.2⟩
/-- The three ways in which a list's rest may lie. -/
theorem Lst.rest {w : World} {a : Option Addr} {n c z : Nat} {zs : List Int} (h : Lst w (.slice a n c) zs) (hn : zs.length = n) (hz : z ≤ n) :
    (∃ g off, a = some ⟨g, off, none⟩ ∧ z < n ∧ n ≤ c ∧ c ≤ 9223372036854775807 ∧ Lst w (.slice (some ⟨g, off + z, none⟩) (n - z) (c - z)) (zs.drop z)) ∨
    (z = n ∧ c = n ∧ zs.drop z = []) ∨ (∃ ad, a = some ad ∧ z = n ∧ n < c ∧ c ≤ 9223372036854775807 ∧ zs.drop z = []) := by
  by_cases hlt : z < n
  · obtain ⟨g, off, cap, hv, hg, h1, h2, _⟩ := h.cellOf hn hlt
    cases hv
    exact .inl ⟨g, off, rfl, hlt, h1, by unfold maxLen at h2; omega, h.drop hn hlt⟩
  · have he : zs.drop z = [] := List.drop_eq_nil_of_le (by omega)
    have hc := h.form0 hn
    obtain ⟨_, _, hv, h1, h2⟩ := hc
    cases hv
    unfold maxLen at h2
    by_cases hcn : c = n
    · exact .inr (.inl ⟨by omega, hcn, he⟩)
    · refine .inr (.inr ?_)
      cases a with
      | some ad => exact ⟨ad, rfl, by omega, by omega, by omega, he⟩
      | none =>
        rcases h with ⟨rfl, _, _, hv2, _, hn2⟩ | ⟨_, _, _, hv2, _⟩
        · cases hv2
          have := hn2 rfl
          omega
        · cases hv2
end Go.Proofs.Ytagpofhencpliaa
