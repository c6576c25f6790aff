/- Lists of numbers in memory: what a list that came in, or that a call has made, reads as, and what becomes of it. Worlds that differ in some blocks alone, and what stands through it. Lists in memory whose elements take one cell each, of whatever type; texts among them. Lists of the call's own that are written in place; lists that are made empty or full; a list's rest; a list of lists. A struct's block in memory, of however many cells. Lists of a number and a text each, in memory. Lists of a truth and a text each, in memory. A range over a function whose value keeps what it knows in blocks of its own: one law for those that range over it. The iterator's blocks lie between the loop's record and 'hi'; what the loop's body owns lies elsewhere. Lists of two numbers each, in memory. A function whose text is two regions of plain operations and a return, run by the kernel. Whether the document's own answer holds lists of texts for the same. Arguments opened: a struct of ten fields, a slice of pieces. Our own work. -/
import Derived.Test.YtglljkbpdbnhaaaGreatDoorRows
import Derived.WalkKit
import Derived.WalkSpells
import Derived.WalkSmall
import Derived.WalkLawsBesides
import Derived.Maps.AppendAt
import Derived.Laws.AppendOwnNone
import Derived.Lib.OthersKept
import Derived.Lib.Hide
import Derived.OpenShut
import Derived.RangeFuncBox
import Derived.Laws.OwnMore
import Derived.OwnWalk
import Derived.Laws.CopyOwn
import Derived.Lib.SmallJoins
import Derived.Lib.Builder
import Derived.RangeFuncNested
import Derived.RangeFuncCalls
import Derived.RangeFuncLeaves
import Derived.Shelf.Abstract
import Derived.OwnWalkIn
import Derived.Deep.QuietTactic
import Derived.Deep.RegionHeld3
import Derived.Deep.AppendLies
import Derived.Deep.DrawnRows
import Derived.BigQuiet
import Derived.IntWalk
import Derived.ChangeOld
import Derived.Below
import Derived.Deep.SlicePairs
set_option linter.unusedVariables false
set_option linter.unusedSimpArgs false
namespace Go.Proofs.YtglljkbpdbnhaaaGreatDoor
open Go.RowKit

theorem retB {a b : Bool} (h : a = b) : Ending.returned (.bool a) = .returned (.bool b) := by rw [h]
theorem retI {k : IntKind} {a b : Int} (h : a = b) : Ending.returned (.int k a) = .returned (.int k b) := by rw [h]
theorem retS {a b : ByteArray} (h : a = b) : Ending.returned (.string a) = .returned (.string b) := by rw [h]

/-- Nothing that was there has changed. -/
def Q (w w' : World) : Prop := Below w.heap.size w w'
theorem Q.refl (w : World) : Q w w := Below.refl _ _
theorem Q.trans {a b c : World} (h : Q a b) (k : Q b c) : Q a c := Below.trans h (Below.mono k h.size)
theorem Q.alloc {a w : World} (h : Q a w) (o : Obj) : Q a (w.alloc o) := Below.alloc h h.size o
theorem Q.drew {a w : World} (h : Q a w) : Q a w.drew := Below.drew h
theorem Q.drewN {a w : World} (h : Q a w) (n : Nat) : Q a (w.drewN n) := below_drewN h n
theorem Q.below {a w : World} (h : Q a w) : Below a.heap.size a w := h
theorem Q.block {a w : World} (h : Q a w) {k : Nat} (hk : k < a.heap.size) : w.heap[k]? = a.heap[k]? := Below.block h k hk
theorem Q.le {a w : World} (h : Q a w) : a.heap.size ≤ w.heap.size := Below.size h
theorem Q.iterAt {a w : World} (h : Q a w) {k : Nat} (hk : a.heap.size ≤ k) (s : ByteArray) (p : Nat) : Q a (w.iterAt k s p) := Lib.below_iterAt h hk s p
theorem Q.grown {a w w' : World} {row : Option Nat} (h : Q a w) (hg : w.grownBy w' row) (hr : ∀ k, row = some k → a.heap.size ≤ k) : Q a w' := Below.grown h hg h.size hr

/-- A value that reads as a list of numbers. -/
def Lst (w : World) (v : Value) (zs : List Int) : Prop :=
  (zs = [] ∧ ∃ a c, v = .slice a 0 c ∧ c ≤ maxLen ∧ (a = none → c = 0)) ∨
  ∃ g off cap, v = .slice (some ⟨g, off, none⟩) zs.length cap ∧ g < w.heap.size ∧ zs.length ≤ cap ∧ cap ≤ maxLen ∧ ∀ i, i < zs.length → w.cell? ⟨g, off + i, none⟩ = some (.int .i64 (zs.getD i 0))
theorem Lst.nil (w : World) (a : Option Addr) (c : Nat) (hc : c ≤ maxLen) (hn : a = none → c = 0) : Lst w (.slice a 0 c) [] := .inl ⟨rfl, a, c, rfl, hc, hn⟩
theorem Lst.q {w w' : World} {v : Value} {zs : List Int} (h : Lst w v zs) (hq : Q w w') : Lst w' v zs := by
  rcases h with h | ⟨g, off, cap, hv, hg, h1, h2, hc⟩
  · exact .inl h
  · refine .inr ⟨g, off, cap, hv, Nat.lt_of_lt_of_le hg hq.le, h1, h2, fun i hi => ?_⟩
    rw [World.cell?_of_block (w := w) (hq.block hg)]
    exact hc i hi
theorem Lst.shape2 {w : World} {v : Value} {zs : List Int} (h : Lst w v zs) : ∃ a c, v = .slice a zs.length c ∧ zs.length ≤ c ∧ c ≤ maxLen := by
  rcases h with ⟨rfl, a, c, rfl, hc, _⟩ | ⟨g, off, cap, hv, _, h1, h2, _⟩
  · exact ⟨a, c, rfl, Nat.zero_le _, hc⟩
  · exact ⟨_, _, hv, h1, h2⟩
theorem Lst.shape {w : World} {v : Value} {zs : List Int} (h : Lst w v zs) : ∃ a c, v = .slice a zs.length c := by
  obtain ⟨a, c, hv, _⟩ := h.shape2
  exact ⟨a, c, hv⟩
/-- One that is not empty, its length named. -/
theorem Lst.form {w : World} {v : Value} {zs : List Int} {n : Nat} (h : Lst w v zs) (hn : zs.length = n + 1) :
    ∃ g off cap, v = .slice (some ⟨g, off, none⟩) (n + 1) cap ∧ g < w.heap.size ∧ n + 1 ≤ cap ∧ cap ≤ maxLen ∧ ∀ i, i < n + 1 → w.cell? ⟨g, off + i, none⟩ = some (.int .i64 (zs.getD i 0)) := by
  rcases h with ⟨rfl, _⟩ | ⟨g, off, cap, hv, hg, h1, h2, hc⟩
  · simp at hn
  · rw [hn] at hv h1 hc
    exact ⟨g, off, cap, hv, hg, h1, h2, hc⟩
theorem Lst.cellOf {w : World} {v : Value} {zs : List Int} {n k : Nat} (h : Lst w v zs) (hn : zs.length = n) (hk : k < n) :
    ∃ g off cap, v = .slice (some ⟨g, off, none⟩) n cap ∧ g < w.heap.size ∧ n ≤ cap ∧ cap ≤ maxLen ∧ w.cell? ⟨g, off + k, none⟩ = some (.int .i64 (zs.getD k 0)) := by
  rcases h with ⟨rfl, _⟩ | ⟨g, off, cap, hv, hg, h1, h2, hc⟩
  · simp at hn; omega
  · rw [hn] at hv h1 hc
    exact ⟨g, off, cap, hv, hg, h1, h2, hc k hk⟩
theorem Lst.form0 {w : World} {v : Value} {zs : List Int} {n : Nat} (h : Lst w v zs) (hn : zs.length = n) : ∃ a c, v = .slice a n c ∧ n ≤ c ∧ c ≤ maxLen := by
  subst hn; exact h.shape2
/-- Its first k numbers. -/
theorem Lst.take {w : World} {a : Option Addr} {n c : Nat} {zs : List Int} (h : Lst w (.slice a n c) zs) (k : Nat) (hk : k ≤ zs.length) : Lst w (.slice a k c) (zs.take k) := by
  rcases h with ⟨rfl, a, c, hv, hc, hn⟩ | ⟨g, off, cap, hv, hg, h1, h2, hcell⟩
  · cases hv
    have : k = 0 := by simpa using hk
    subst this
    exact .nil _ _ _ hc hn
  · cases hv
    have hl : (zs.take k).length = k := by simp; omega
    refine .inr ⟨g, off, c, by rw [hl], hg, by omega, h2, fun i hi => ?_⟩
    rw [hl] at hi
    rw [hcell i (by omega)]
    simp only [List.getD_eq_getElem?_getD]
    rw [List.getElem?_take, if_pos hi]

/-- A list of numbers that the call itself has made, from block B on. -/
def Own (w : World) (B : Nat) (v : Value) (zs : List Int) : Prop := w.ownsRow B 3 1 v zs.length (zs.map (Value.int .i64))
theorem Own.nil (w : World) (B : Nat) : Own w B (.slice none 0 0) [] := World.ownsRow_nil w B 3 1
theorem Own.mono {w : World} {B B' : Nat} {v : Value} {zs : List Int} (h : Own w B v zs) (hB : B' ≤ B) : Own w B' v zs := by
  obtain ⟨h1, h2⟩ := h
  refine ⟨h1, ?_⟩
  rcases h2 with h2 | ⟨g, cap, cur, hv, hg, r⟩
  · exact .inl h2
  · exact .inr ⟨g, cap, cur, hv, by omega, r⟩
/-- It stands while its own block stands. -/
theorem Own.same {w w' : World} {B : Nat} {v : Value} {zs : List Int} (h : Own w B v zs) (hs : ∀ g, v.ownBlock = some g → w'.heap[g]? = w.heap[g]?) : Own w' B v zs := by
  obtain ⟨h1, h2⟩ := h
  refine ⟨h1, ?_⟩
  rcases h2 with h2 | ⟨g, cap, cur, hv, hg, hh, r⟩
  · exact .inl h2
  · exact .inr ⟨g, cap, cur, hv, hg, by rw [hs g (by rw [hv]; rfl)]; exact hh, r⟩
theorem Own.lt {w : World} {B : Nat} {v : Value} {zs : List Int} (h : Own w B v zs) : ∀ g, v.ownBlock = some g → B ≤ g ∧ g < w.heap.size := World.ownsRow.lt h
theorem Own.q {w w' : World} {B : Nat} {v : Value} {zs : List Int} (h : Own w B v zs) (hq : Q w w') : Own w' B v zs := h.same fun g hg => hq.block (h.lt g hg).2
theorem Own.cells {w : World} {B : Nat} {v : Value} {zs : List Int} (h : Own w B v zs) : ∀ g, v.ownBlock = some g → ∃ cur, w.heap[g]? = some (.cells cur 3 (0, 0)) := by
  intro g hg
  rcases h.2 with ⟨rfl, _⟩ | ⟨g', cap, cur, rfl, _, hh, _⟩
  · cases hg
  · cases hg; exact ⟨cur, hh⟩
theorem Own.iterAt {w : World} {B : Nat} {v : Value} {zs : List Int} (h : Own w B v zs) {k : Nat} {s : ByteArray} {pos : Nat} (hk : w.heap[k]? = some (.stringIter s pos)) (p : Nat) : Own (w.iterAt k s p) B v zs := by
  refine h.same fun g hg => ?_
  obtain ⟨cur, hc⟩ := h.cells g hg
  refine Lib.iterAt_other w k g s p ?_
  rintro rfl
  rw [hk] at hc; cases hc
theorem Own.lst {w : World} {B : Nat} {v : Value} {zs : List Int} (h : Own w B v zs) : Lst w v zs := by
  rcases h.2 with ⟨hv, hn⟩ | ⟨g, cap, cur, hv, _, hh, hnc, hcm, hcs, ht⟩
  · have : zs = [] := List.eq_nil_of_length_eq_zero hn
    subst this; subst hv
    exact .nil _ _ _ (by unfold maxLen; omega) (fun _ => rfl)
  · refine .inr ⟨g, 0, cap, hv, (Array.getElem?_eq_some_iff.1 hh).1, hnc, hcm, fun i hi => ?_⟩
    rw [cell_of_row w g (0 + i) cur 3 (0, 0) hh]
    have h1 := congrArg (fun l => l[i]?) ht
    simp only [List.getElem?_map, Nat.mul_one] at h1
    rw [List.getElem?_take, if_pos hi] at h1
    rw [Nat.zero_add, ← Array.getElem?_toList, h1, List.getD_eq_getElem?_getD]
    rw [List.getElem?_eq_getElem hi]; rfl
theorem Own.shape {w : World} {B : Nat} {v : Value} {zs : List Int} (h : Own w B v zs) : ∃ a c, v = .slice a zs.length c := h.lst.shape

/-- A list that is written out in the text. -/
theorem Lst.made (w : World) (zs : List Int) (n : Nat) (hn : zs.length = n) (hm : n ≤ maxLen) : Lst (w.alloc (.cells (zs.map (Value.int .i64)).toArray 3)) (.slice (some ⟨w.heap.size, 0, none⟩) n n) zs := by
  subst hn
  refine .inr ⟨w.heap.size, 0, zs.length, rfl, by simp, Nat.le_refl _, hm, fun i hi => ?_⟩
  rw [World.cell?_alloc_at _ _ _ _ rfl, Nat.zero_add]
  simp only [List.getElem?_toArray, List.getElem?_map, List.getD_eq_getElem?_getD]
  rw [List.getElem?_eq_getElem hi]; rfl

/-- A list of numbers that came in, as the row's frame tells it. -/
def IsRow (k : IntKind) (w : World) (a : Option Addr) (len cap : Nat) (zs : List Int) : Prop :=
  (a = none ∧ len = 0 ∧ cap = 0 ∧ zs = []) ∨
  ∃ x, a = some x ∧ len ≤ cap ∧ cap ≤ maxLen ∧ zs.length = cap ∧ (∀ i, i < zs.length → w.cell? (x.add i) = some (.int k (zs.getD i 0))) ∧ ∀ n ∈ zs, (Lit.int k n).wf = true
theorem IsRow.lst {w : World} {a : Option Addr} {len cap : Nat} {zs : List Int} (h : IsRow .i64 w a len cap zs) :
    ∃ xs, Lst w (.slice a len cap) xs ∧ xs.length = len ∧ ∀ n ∈ xs, -9223372036854775808 ≤ n ∧ n ≤ 9223372036854775807 := by
  rcases h with ⟨rfl, rfl, rfl, rfl⟩ | ⟨x, rfl, h1, h2, h3, hc, hw⟩
  · exact ⟨[], .nil _ _ _ (by unfold maxLen; omega) (fun _ => rfl), rfl, by simp⟩
  · by_cases h0 : len = 0
    · subst h0
      exact ⟨[], .nil _ _ _ h2 (fun h => by cases h), rfl, by simp⟩
    · obtain ⟨b, off, rfl, hcc⟩ := ints_at hc (by omega)
      have hl : (zs.take len).length = len := by simp; omega
      refine ⟨zs.take len, .inr ⟨b, off, cap, by rw [hl], ?_, by omega, h2, fun i hi => ?_⟩, hl, fun n hn => ?_⟩
      · have := hcc 0 (by omega)
        exact World.block_lt_of_cell? _ _ this
      · rw [hl] at hi
        rw [hcc i (by omega)]
        simp only [List.getD_eq_getElem?_getD]
        rw [List.getElem?_take, if_pos hi]
      · have := hw n (List.mem_of_mem_take hn)
        exact bounds_i64 this

theorem infoInt : (Tryz.prog.info? 3).map (fun i => (i.zero, i.size, i.bytes)) = some (some (.int .i64 0), 1, 8) := by kernel_rfl

/-- One number more behind a list of the call's own. -/
theorem push_int {w : World} {B : Nat} {v : Value} {zs : List Int} (hown : Own w B v zs) {ops : Array Oper} {rest : List Oper} {o : Oper} {a : Act} {R : Exit → Act → World → Prop} (hgd : o.guard = none) (s x : Operand)
    (ho : o.op = .call { callee := .builtin .append, args := #[s, x], argTypes := #[127, 127] })
    (n : Int) (hs : a.eval s = v) (hx : a.eval x = .slice (some ⟨w.heap.size, 0, none⟩) 1 1) (hlen : zs.length < 1099511627776) (hB : B ≤ w.heap.size)
    (h : ∀ v' w', Own w' B v' (zs ++ [n]) → w.grownBy w' v.ownBlock → (v'.ownBlock = v.ownBlock ∨ v'.ownBlock = some (w.heap.size + 1)) → wpList Tryz.prog ops R rest (a.put o.dst v') w') :
    wpList Tryz.prog ops R (o :: rest) a (w.alloc (.cells #[.int .i64 n] 3)) := by
  obtain ⟨i0, hi, hz0, hz1, hz2⟩ := info_parts infoInt
  refine wpList_append_own_at _ hgd s x 127 ho B 3 i0 (.int .i64 0) 1 8 Tryz.underlying127 hi hz0 hz1 hz2 rfl (by decide) v zs.length _ hs (World.ownsRow.alloc hown _)
    ⟨w.heap.size, 0, none⟩ 1 1 [.int .i64 n] hx rfl (cell_one_new _ _ _) ?_ ?_ ?_ ?_ ?_
  · intro u hu; simp at hu; subst hu; rfl
  · unfold maxLen; omega
  · omega
  · simp; omega
  · intro v' w' hown' hg _ hat
    refine h v' w' ?_ ?_ ?_
    · have e1 : (zs ++ [n]).length = zs.length + 1 := by simp
      unfold Own
      rw [e1, List.map_append]
      exact hown'
    · exact (World.grownBy_alloc w _ _).trans hg
    · simpa using hat

/-- A list behind a list of the call's own. -/
theorem push_list {w : World} {B : Nat} {v u : Value} {zs ys : List Int} (hown : Own w B v zs) (hu : Lst w u ys) {ops : Array Oper} {rest : List Oper} {o : Oper} {a : Act} {R : Exit → Act → World → Prop} (hgd : o.guard = none) (s x : Operand)
    (ho : o.op = .call { callee := .builtin .append, args := #[s, x], argTypes := #[127, 127] })
    (hs : a.eval s = v) (hx : a.eval x = u) (hlen : zs.length + ys.length < 1099511627776) (hB : B ≤ w.heap.size)
    (h : ∀ v' w', Own w' B v' (zs ++ ys) → w.grownBy w' v.ownBlock → (v'.ownBlock = v.ownBlock ∨ v'.ownBlock = some w.heap.size) → wpList Tryz.prog ops R rest (a.put o.dst v') w') :
    wpList Tryz.prog ops R (o :: rest) a w := by
  obtain ⟨i0, hi, hz0, hz1, hz2⟩ := info_parts infoInt
  have key : ∀ (ad : Addr) (m c : Nat), u = .slice (some ad) m c → ys.length = m → (∀ j x, (ys.map (Value.int .i64))[j]? = some x → w.cell? (ad.add j) = some x) → wpList Tryz.prog ops R (o :: rest) a w := by
    intro ad m c hu hm hc
    subst hu; subst hm
    refine wpList_append_own_at _ hgd s x 127 ho B 3 i0 (.int .i64 0) 1 8 Tryz.underlying127 hi hz0 hz1 hz2 rfl (by decide) v zs.length _ hs hown
      ad ys.length c (ys.map (Value.int .i64)) hx (by simp) hc ?_ ?_ ?_ hB ?_
    · intro u hu
      obtain ⟨_, _, rfl⟩ := List.mem_map.1 hu
      rfl
    · unfold maxLen; omega
    · omega
    · intro v' w' hown' hg _ hat
      refine h v' w' ?_ hg hat
      have e1 : (zs ++ ys).length = zs.length + ys.length := by simp
      unfold Own
      rw [e1, List.map_append]
      exact hown'
  rcases hu with ⟨rfl, ad, c, rfl, hc, hn⟩ | ⟨g, off, cap, hv, hg, h1, h2, hc⟩
  · cases ad with
    | none =>
      obtain rfl := hn rfl
      refine wpList_append_own_none hgd s x 127 ho B 3 i0 1 Tryz.underlying127 hi v zs.length _ hs hown hx ?_
      exact h v w (by rw [List.append_nil]; exact hown) ⟨rfl, rfl, rfl, Nat.le_refl _, fun _ _ _ => rfl⟩ (.inl rfl)
    | some ad => exact key ad 0 c rfl rfl (by simp)
  · refine key ⟨g, off, none⟩ ys.length cap hv rfl fun j x hj => ?_
    have hjl : j < ys.length := by
      have := (List.getElem?_eq_some_iff.1 hj).1
      simpa using this
    have hadd : (⟨g, off, none⟩ : Addr).add j = ⟨g, off + j, none⟩ := by unfold Addr.add; split <;> simp_all
    rw [hadd, hc j hjl]
    rw [List.getElem?_map, List.getElem?_eq_getElem hjl] at hj
    rw [List.getD_eq_getElem?_getD, List.getElem?_eq_getElem hjl]
    simpa using hj

/-- Two lists of the call's own, in blocks of their own. -/
def Apart (v u : Value) : Prop := ∀ g, v.ownBlock = some g → u.ownBlock ≠ some g
theorem Apart.nilL (u : Value) : Apart (.slice none 0 0) u := fun g h => by cases h
theorem Apart.nilR (v : Value) : Apart v (.slice none 0 0) := fun g _ h => by cases h
theorem Apart.symm {v u : Value} (h : Apart v u) : Apart u v := fun g h1 h2 => h g h2 h1
/-- The other list stands while one is written, and stays apart. -/
theorem Own.other {w w' : World} {B : Nat} {v u : Value} {zs : List Int} (h : Own w B u zs) (hg : w.grownBy w' v.ownBlock) (ha : Apart v u) : Own w' B u zs :=
  h.same fun g hu => hg.block g (h.lt g hu).2 (fun e => ha g e.symm hu)
theorem Apart.push {w : World} {B : Nat} {v v' u : Value} {zs : List Int} (h : Own w B u zs) (ha : Apart v u) (hat : v'.ownBlock = v.ownBlock ∨ v'.ownBlock = some (w.heap.size + 1)) : Apart v' u := by
  intro g hv hu
  rcases hat with e | e
  · exact ha g (e ▸ hv) hu
  · rw [e] at hv
    have := (h.lt g hu).2
    cases hv; omega
/-- An iterator stands while a list is written. -/
theorem iter_grown {w w' : World} {B : Nat} {v : Value} {zs : List Int} (h : Own w B v zs) (hg : w.grownBy w' v.ownBlock) {k : Nat} {s : ByteArray} {pos : Nat} (hk : w.heap[k]? = some (.stringIter s pos)) : w'.heap[k]? = some (.stringIter s pos) := by
  have hlt : k < w.heap.size := (Array.getElem?_eq_some_iff.1 hk).1
  rw [hg.block k hlt ?_]; exact hk
  intro e
  obtain ⟨cur, hc⟩ := h.cells k e.symm
  rw [hk] at hc; cases hc
theorem iter_q {w w' : World} (hq : Q w w') {k : Nat} {s : ByteArray} {pos : Nat} (hk : w.heap[k]? = some (.stringIter s pos)) : w'.heap[k]? = some (.stringIter s pos) := by
  rw [hq.block (Array.getElem?_eq_some_iff.1 hk).1]; exact hk

end Go.Proofs.YtglljkbpdbnhaaaGreatDoor

set_option linter.unusedVariables false
set_option linter.unusedSimpArgs false
namespace Go.Proofs.YtglljkbpdbnhaaaGreatDoor
open Go.RowKit

/-- Of what was there no block has changed, but those from lo on and below hi. -/
structure Gap (lo hi : Nat) (A A' : World) : Prop where
  os : A'.os = A.os
  tape : A'.tape = A.tape
  output : A'.output = A.output
  size : A.heap.size ≤ A'.heap.size
  block : ∀ k, k < A.heap.size → (k < lo ∨ hi ≤ k) → A'.heap[k]? = A.heap[k]?
theorem Gap.refl (lo hi : Nat) (A : World) : Gap lo hi A A := ⟨rfl, rfl, rfl, Nat.le_refl _, fun _ _ _ => rfl⟩
theorem Gap.trans {lo hi : Nat} {A B C : World} (h : Gap lo hi A B) (k : Gap lo hi B C) : Gap lo hi A C :=
  ⟨k.os.trans h.os, k.tape.trans h.tape, k.output.trans h.output, Nat.le_trans h.size k.size, fun i hi' ho => (k.block i (Nat.lt_of_lt_of_le hi' h.size) ho).trans (h.block i hi' ho)⟩
theorem Gap.mono {lo hi lo' hi' : Nat} {A B : World} (h : Gap lo hi A B) (h1 : lo' ≤ lo) (h2 : hi ≤ hi') : Gap lo' hi' A B :=
  ⟨h.os, h.tape, h.output, h.size, fun k hk ho => h.block k hk (by omega)⟩
theorem Q.gap {A B : World} (h : Q A B) (lo hi : Nat) : Gap lo hi A B := ⟨h.os, h.tape, h.output, h.size, fun k hk _ => h.block hk⟩
/-- Nothing that was there has changed, but what lies in the gap: what lay below the gap stands. -/
theorem Gap.below {lo hi : Nat} {A B : World} (h : Gap lo hi A B) (hl : lo ≤ A.heap.size) : Below lo A B :=
  ⟨h.os, h.tape, h.output, h.size, fun k hk => h.block k (Nat.lt_of_lt_of_le hk hl) (.inl hk)⟩
theorem Gap.setCell (A : World) (b o : Nat) (v : Value) (lo hi : Nat) (h1 : lo ≤ b) (h2 : b < hi) : Gap lo hi A (A.setCell ⟨b, o, none⟩ v) :=
  ⟨rfl, rfl, rfl, by simp [World.setCell], fun k _ ho => Below.heap_setCell _ _ _ _ (by show k ≠ b; omega)⟩
theorem Gap.alloc (A : World) (o : Obj) (lo hi : Nat) : Gap lo hi A (A.alloc o) := ((Q.refl A).alloc o).gap lo hi
theorem Gap.grown {A B : World} {row : Option Nat} (lo hi : Nat) (hg : A.grownBy B row) (hr : ∀ k, row = some k → lo ≤ k ∧ k < hi) : Gap lo hi A B :=
  ⟨hg.os, hg.tape, hg.output, hg.size, fun k hk ho => hg.block k hk (fun e => by have := hr k e.symm; omega)⟩
theorem Gap.putObj (A : World) (l : Nat) (o : Obj) (lo hi : Nat) (h1 : lo ≤ l) (h2 : l < hi) : Gap lo hi A (A.putObj l o) :=
  .grown lo hi (grownBy_putObj' A l o) (fun k e => by cases e; exact ⟨h1, h2⟩)

theorem bx_q {w w' : World} {B : Nat} {t : TypeId} {v : Value} (h : Boxed w B t v) (hq : Q w w') : Boxed w' B t v := (hq.block h.lt).trans h
theorem bx_gap {w w' : World} {lo hi B : Nat} {t : TypeId} {v : Value} (h : Boxed w B t v) (hg : Gap lo hi w w') (ho : B < lo ∨ hi ≤ B) : Boxed w' B t v := (hg.block B h.lt ho).trans h
theorem bx_past {w : World} {B : Nat} {t : TypeId} {v : Value} (h : Boxed w B t v) (b o : Nat) (u : Value) (hb : b ≠ B) : Boxed (w.setCell ⟨b, o, none⟩ u) B t v :=
  (Below.heap_setCell w ⟨b, o, none⟩ u B (Ne.symm hb)).trans h
theorem Own.gap {w w' : World} {B lo hi : Nat} {v : Value} {zs : List Int} (h : Own w B v zs) (hg : Gap lo hi w w') (ho : ∀ g, v.ownBlock = some g → g < lo ∨ hi ≤ g) : Own w' B v zs :=
  h.same fun g hv => hg.block g (h.lt g hv).2 (ho g hv)
theorem Lst.gap {w w' : World} {lo hi : Nat} {v : Value} {zs : List Int} (h : Lst w v zs) (hg : Gap lo hi w w') (ho : ∀ g o c, v = .slice (some ⟨g, o, none⟩) zs.length c → g < lo ∨ hi ≤ g) : Lst w' v zs := by
  rcases h with h | ⟨g, off, cap, hv, hl, h1, h2, hc⟩
  · exact .inl h
  · refine .inr ⟨g, off, cap, hv, Nat.lt_of_lt_of_le hl hg.size, h1, h2, fun i hi => ?_⟩
    rw [World.cell?_of_block (w := w) (hg.block g hl (ho g off cap hv))]
    exact hc i hi

end Go.Proofs.YtglljkbpdbnhaaaGreatDoor

set_option linter.unusedVariables false
set_option linter.unusedSimpArgs false
namespace Go.Proofs.YtglljkbpdbnhaaaGreatDoor
open Go.RowKit

/-- A value that reads as a list. -/
def GLst {α : Type} (en : α → Value) (w : World) (v : Value) (zs : List α) : Prop :=
  (zs = [] ∧ ∃ a c, v = .slice a 0 c ∧ c ≤ maxLen ∧ (a = none → c = 0)) ∨
  ∃ g off cap, v = .slice (some ⟨g, off, none⟩) zs.length cap ∧ g < w.heap.size ∧ zs.length ≤ cap ∧ cap ≤ maxLen ∧ ∀ i x, zs[i]? = some x → w.cell? ⟨g, off + i, none⟩ = some (en x)
theorem GLst.nil {α : Type} (en : α → Value) (w : World) (a : Option Addr) (c : Nat) (hc : c ≤ maxLen) (hn : a = none → c = 0) : GLst en w (.slice a 0 c) [] := .inl ⟨rfl, a, c, rfl, hc, hn⟩
theorem GLst.q {α : Type} {en : α → Value} {w w' : World} {v : Value} {zs : List α} (h : GLst en w v zs) (hq : Q w w') : GLst en w' v zs := by
  rcases h with h | ⟨g, off, cap, hv, hg, h1, h2, hc⟩
  · exact .inl h
  · refine .inr ⟨g, off, cap, hv, Nat.lt_of_lt_of_le hg hq.le, h1, h2, fun i x hi => ?_⟩
    rw [World.cell?_of_block (w := w) (hq.block hg)]
    exact hc i x hi
theorem GLst.shape2 {α : Type} {en : α → Value} {w : World} {v : Value} {zs : List α} (h : GLst en w v zs) : ∃ a c, v = .slice a zs.length c ∧ zs.length ≤ c ∧ c ≤ maxLen := by
  rcases h with ⟨rfl, a, c, rfl, hc, _⟩ | ⟨g, off, cap, hv, _, h1, h2, _⟩
  · exact ⟨a, c, rfl, Nat.zero_le _, hc⟩
  · exact ⟨_, _, hv, h1, h2⟩
theorem GLst.shape {α : Type} {en : α → Value} {w : World} {v : Value} {zs : List α} (h : GLst en w v zs) : ∃ a c, v = .slice a zs.length c := by
  obtain ⟨a, c, hv, _⟩ := h.shape2
  exact ⟨a, c, hv⟩
theorem GLst.form0 {α : Type} {en : α → Value} {w : World} {v : Value} {zs : List α} {n : Nat} (h : GLst en w v zs) (hn : zs.length = n) : ∃ a c, v = .slice a n c ∧ n ≤ c ∧ c ≤ maxLen := by
  subst hn; exact h.shape2
theorem GLst.cellOf {α : Type} {en : α → Value} {w : World} {v : Value} {zs : List α} {n k : Nat} {x : α} (h : GLst en w v zs) (hn : zs.length = n) (hk : zs[k]? = some x) :
    ∃ g off cap, v = .slice (some ⟨g, off, none⟩) n cap ∧ g < w.heap.size ∧ n ≤ cap ∧ cap ≤ maxLen ∧ w.cell? ⟨g, off + k, none⟩ = some (en x) := by
  rcases h with ⟨rfl, _⟩ | ⟨g, off, cap, hv, hg, h1, h2, hc⟩
  · simp at hk
  · rw [hn] at hv h1
    exact ⟨g, off, cap, hv, hg, h1, h2, hc k x hk⟩

/-- A list that the call itself has made, from block B on. -/
def GOwn {α : Type} (T : TypeId) (en : α → Value) (w : World) (B : Nat) (v : Value) (zs : List α) : Prop := w.ownsRow B T 1 v zs.length (zs.map en)
theorem GOwn.nil {α : Type} (T : TypeId) (en : α → Value) (w : World) (B : Nat) : GOwn T en w B (.slice none 0 0) [] := World.ownsRow_nil w B T 1
theorem GOwn.mono {α : Type} {T : TypeId} {en : α → Value} {w : World} {B B' : Nat} {v : Value} {zs : List α} (h : GOwn T en w B v zs) (hB : B' ≤ B) : GOwn T en w B' v zs := by
  obtain ⟨h1, h2⟩ := h
  refine ⟨h1, ?_⟩
  rcases h2 with h2 | ⟨g, cap, cur, hv, hg, r⟩
  · exact .inl h2
  · exact .inr ⟨g, cap, cur, hv, by omega, r⟩
theorem GOwn.same {α : Type} {T : TypeId} {en : α → Value} {w w' : World} {B : Nat} {v : Value} {zs : List α} (h : GOwn T en w B v zs) (hs : ∀ g, v.ownBlock = some g → w'.heap[g]? = w.heap[g]?) : GOwn T en w' B v zs := by
  obtain ⟨h1, h2⟩ := h
  refine ⟨h1, ?_⟩
  rcases h2 with h2 | ⟨g, cap, cur, hv, hg, hh, r⟩
  · exact .inl h2
  · exact .inr ⟨g, cap, cur, hv, hg, by rw [hs g (by rw [hv]; rfl)]; exact hh, r⟩
theorem GOwn.lt {α : Type} {T : TypeId} {en : α → Value} {w : World} {B : Nat} {v : Value} {zs : List α} (h : GOwn T en w B v zs) : ∀ g, v.ownBlock = some g → B ≤ g ∧ g < w.heap.size := World.ownsRow.lt h
theorem GOwn.q {α : Type} {T : TypeId} {en : α → Value} {w w' : World} {B : Nat} {v : Value} {zs : List α} (h : GOwn T en w B v zs) (hq : Q w w') : GOwn T en w' B v zs := h.same fun g hg => hq.block (h.lt g hg).2
theorem GOwn.gap {α : Type} {T : TypeId} {en : α → Value} {w w' : World} {B lo hi : Nat} {v : Value} {zs : List α} (h : GOwn T en w B v zs) (hg : Gap lo hi w w') (ho : ∀ g, v.ownBlock = some g → g < lo ∨ hi ≤ g) : GOwn T en w' B v zs :=
  h.same fun g hv => hg.block g (h.lt g hv).2 (ho g hv)
theorem GOwn.cells {α : Type} {T : TypeId} {en : α → Value} {w : World} {B : Nat} {v : Value} {zs : List α} (h : GOwn T en w B v zs) : ∀ g, v.ownBlock = some g → ∃ cur, w.heap[g]? = some (.cells cur T (0, 0)) := by
  intro g hg
  rcases h.2 with ⟨rfl, _⟩ | ⟨g', cap, cur, rfl, _, hh, _⟩
  · cases hg
  · cases hg; exact ⟨cur, hh⟩
theorem GOwn.lst {α : Type} {T : TypeId} {en : α → Value} {w : World} {B : Nat} {v : Value} {zs : List α} (h : GOwn T en w B v zs) : GLst en w v zs := by
  rcases h.2 with ⟨hv, hn⟩ | ⟨g, cap, cur, hv, _, hh, hnc, hcm, hcs, ht⟩
  · have : zs = [] := List.eq_nil_of_length_eq_zero hn
    subst this; subst hv
    exact .nil _ _ _ _ (by unfold maxLen; omega) (fun _ => rfl)
  · refine .inr ⟨g, 0, cap, hv, (Array.getElem?_eq_some_iff.1 hh).1, hnc, hcm, fun i x hx => ?_⟩
    have hi : i < zs.length := (List.getElem?_eq_some_iff.1 hx).1
    rw [cell_of_row w g (0 + i) cur T (0, 0) hh]
    have h1 := congrArg (fun l => l[i]?) ht
    simp only [List.getElem?_map, Nat.mul_one] at h1
    rw [List.getElem?_take, if_pos hi, hx] at h1
    rw [Nat.zero_add, ← Array.getElem?_toList, h1]; rfl
theorem GOwn.shape {α : Type} {T : TypeId} {en : α → Value} {w : World} {B : Nat} {v : Value} {zs : List α} (h : GOwn T en w B v zs) : ∃ a c, v = .slice a zs.length c := h.lst.shape
/-- Lists of unlike elements lie in unlike blocks. -/
theorem GOwn.not_int {α : Type} {T : TypeId} {en : α → Value} {w : World} {B B' : Nat} {v u : Value} {zs : List α} {ys : List Int} (h : GOwn T en w B v zs) (k : Own w B' u ys) (ht : T ≠ 3) : ∀ g, v.ownBlock = some g → u.ownBlock ≠ some g := by
  intro g hg hu
  obtain ⟨c1, h1⟩ := h.cells g hg
  obtain ⟨c2, h2⟩ := k.cells g hu
  rw [h1] at h2
  simp at h2
  exact ht h2.2

/-- A list that is written out in the text. -/
theorem GLst.made {α : Type} (en : α → Value) (T : TypeId) (w : World) (zs : List α) (n : Nat) (hn : zs.length = n) (hm : n ≤ maxLen) : GLst en (w.alloc (.cells (zs.map en).toArray T)) (.slice (some ⟨w.heap.size, 0, none⟩) n n) zs := by
  subst hn
  refine .inr ⟨w.heap.size, 0, zs.length, rfl, by simp, Nat.le_refl _, hm, fun i x hi => ?_⟩
  rw [World.cell?_alloc_at _ _ _ _ rfl, Nat.zero_add]
  simp only [List.getElem?_toArray, List.getElem?_map, hi]; rfl

/-- What a type of elements of one cell tells. -/
structure Elem (T ST : TypeId) (z : Value) (bytes : Nat) : Prop where
  info : (Tryz.prog.info? T).map (fun i => (i.zero, i.size, i.bytes)) = some (some z, 1, bytes)
  under : Tryz.prog.underlying ST = some (.slice T)
  one : z.cells.size = 1
  small : bytes ≤ 64

/-- One element more behind a list of the call's own. -/
theorem gpush {α : Type} {T ST : TypeId} {z : Value} {bytes : Nat} (he : Elem T ST z bytes) {en : α → Value} {w : World} {B : Nat} {v : Value} {zs : List α} (hown : GOwn T en w B v zs) {ops : Array Oper} {rest : List Oper} {o : Oper} {a : Act} {R : Exit → Act → World → Prop} (hgd : o.guard = none) (s x : Operand)
    (ho : o.op = .call { callee := .builtin .append, args := #[s, x], argTypes := #[ST, ST] })
    (y : α) (h1c : (en y).oneCell' = true) (hs : a.eval s = v) (hx : a.eval x = .slice (some ⟨w.heap.size, 0, none⟩) 1 1) (hlen : zs.length < 1099511627776) (hB : B ≤ w.heap.size)
    (h : ∀ v' w', GOwn T en w' B v' (zs ++ [y]) → w.grownBy w' v.ownBlock → (v'.ownBlock = v.ownBlock ∨ v'.ownBlock = some (w.heap.size + 1)) → wpList Tryz.prog ops R rest (a.put o.dst v') w') :
    wpList Tryz.prog ops R (o :: rest) a (w.alloc (.cells #[en y] T)) := by
  obtain ⟨i0, hi, hz0, hz1, hz2⟩ := info_parts he.info
  refine wpList_append_own_at _ hgd s x ST ho B T i0 z 1 bytes he.under hi hz0 hz1 hz2 he.one (by decide) v zs.length _ hs (World.ownsRow.alloc hown _)
    ⟨w.heap.size, 0, none⟩ 1 1 [en y] hx rfl (cell_one_new _ _ _) ?_ ?_ ?_ ?_ ?_
  · intro u hu; simp at hu; subst hu; exact h1c
  · unfold maxLen; omega
  · have h1 : (zs.length + 1) * bytes ≤ (zs.length + 1) * 64 := Nat.mul_le_mul_left _ he.small
    omega
  · simp; omega
  · intro v' w' hown' hg _ hat
    refine h v' w' ?_ ?_ ?_
    · have e1 : (zs ++ [y]).length = zs.length + 1 := by simp
      unfold GOwn
      rw [e1, List.map_append]
      exact hown'
    · exact (World.grownBy_alloc w _ _).trans hg
    · simpa using hat

/-- A list behind a list of the call's own. -/
theorem gpushl {α : Type} {T ST : TypeId} {z : Value} {bytes : Nat} (he : Elem T ST z bytes) {en : α → Value} (h1c : ∀ y, (en y).oneCell' = true) {w : World} {B : Nat} {v u : Value} {zs ys : List α} (hown : GOwn T en w B v zs) (hu : GLst en w u ys) {ops : Array Oper} {rest : List Oper} {o : Oper} {a : Act} {R : Exit → Act → World → Prop} (hgd : o.guard = none) (s x : Operand)
    (ho : o.op = .call { callee := .builtin .append, args := #[s, x], argTypes := #[ST, ST] })
    (hs : a.eval s = v) (hx : a.eval x = u) (hlen : zs.length + ys.length < 1099511627776) (hB : B ≤ w.heap.size)
    (h : ∀ v' w', GOwn T en w' B v' (zs ++ ys) → w.grownBy w' v.ownBlock → (v'.ownBlock = v.ownBlock ∨ v'.ownBlock = some w.heap.size) → wpList Tryz.prog ops R rest (a.put o.dst v') w') :
    wpList Tryz.prog ops R (o :: rest) a w := by
  obtain ⟨i0, hi, hz0, hz1, hz2⟩ := info_parts he.info
  have key : ∀ (ad : Addr) (m c : Nat), u = .slice (some ad) m c → ys.length = m → (∀ j x, (ys.map en)[j]? = some x → w.cell? (ad.add j) = some x) → wpList Tryz.prog ops R (o :: rest) a w := by
    intro ad m c hu hm hc
    subst hu; subst hm
    refine wpList_append_own_at _ hgd s x ST ho B T i0 z 1 bytes he.under hi hz0 hz1 hz2 he.one (by decide) v zs.length _ hs hown
      ad ys.length c (ys.map en) hx (by simp) hc ?_ ?_ ?_ hB ?_
    · intro u hu
      obtain ⟨y, _, rfl⟩ := List.mem_map.1 hu
      exact h1c y
    · unfold maxLen; omega
    · have h1 : (zs.length + ys.length) * bytes ≤ (zs.length + ys.length) * 64 := Nat.mul_le_mul_left _ he.small
      omega
    · intro v' w' hown' hg _ hat
      refine h v' w' ?_ hg hat
      have e1 : (zs ++ ys).length = zs.length + ys.length := by simp
      unfold GOwn
      rw [e1, List.map_append]
      exact hown'
  rcases hu with ⟨rfl, ad, c, rfl, hc, hn⟩ | ⟨g, off, cap, hv, hg, h1, h2, hc⟩
  · cases ad with
    | none =>
      obtain rfl := hn rfl
      refine wpList_append_own_none hgd s x ST ho B T i0 1 he.under hi v zs.length _ hs hown hx ?_
      exact h v w (by rw [List.append_nil]; exact hown) ⟨rfl, rfl, rfl, Nat.le_refl _, fun _ _ _ => rfl⟩ (.inl rfl)
    | some ad => exact key ad 0 c rfl rfl (by simp)
  · refine key ⟨g, off, none⟩ ys.length cap hv rfl fun j x hj => ?_
    have hadd : (⟨g, off, none⟩ : Addr).add j = ⟨g, off + j, none⟩ := by unfold Addr.add; split <;> simp_all
    rw [List.getElem?_map] at hj
    obtain ⟨y, hy, rfl⟩ := Option.map_eq_some_iff.1 hj
    rw [hadd, hc j y hy]

/-- Texts. -/
abbrev SLst (w : World) (v : Value) (zs : List ByteArray) : Prop := GLst Value.string w v zs
abbrev SOwn (w : World) (B : Nat) (v : Value) (zs : List ByteArray) : Prop := GOwn 9 Value.string w B v zs
theorem elemS : Elem 9 60 (.string ByteArray.empty) 16 := ⟨by kernel_rfl, Tryz.underlying60, rfl, by omega⟩
theorem str_ne {p q : ByteArray} (h : p ≠ q) : (p.toList == q.toList) = false := by
  rw [beq_eq_false_iff_ne, ByteArray.toList_eq, ByteArray.toList_eq]
  intro e
  apply h
  cases p with | mk x => cases q with | mk y =>
    rw [ByteArray.mk.injEq]
    exact Array.toList_inj.1 e
theorem oneS (s : ByteArray) : (Value.string s).oneCell' = true := rfl

end Go.Proofs.YtglljkbpdbnhaaaGreatDoor

set_option linter.unusedVariables false
set_option linter.unusedSimpArgs false
namespace Go.Proofs.YtglljkbpdbnhaaaGreatDoor
open Go.RowKit

theorem GOwn.cellAt {α : Type} {T : TypeId} {en : α → Value} {w : World} {B g n cap : Nat} {zs : List α} (h : GOwn T en w B (.slice (some ⟨g, 0, none⟩) n cap) zs) (hn : zs.length = n) {k : Nat} {x : α} (hk : zs[k]? = some x) : w.cell? ⟨g, k, none⟩ = some (en x) := by
  subst hn
  have hl := (List.getElem?_eq_some_iff.1 hk).1
  rw [World.ownsRow.cellAt h k (by omega), List.getElem?_map, hk]; rfl
theorem GOwn.freeAt {α : Type} {T : TypeId} {en : α → Value} {w : World} {B g n cap : Nat} {zs : List α} (h : GOwn T en w B (.slice (some ⟨g, 0, none⟩) n cap) zs) (hn : zs.length = n) (k : Nat) : w.frozen? ⟨g, k, none⟩ = false := by
  subst hn
  exact World.ownsRow.frozenAt h k
theorem GOwn.stored {α : Type} {T : TypeId} {en : α → Value} {w : World} {B g n cap : Nat} {zs : List α} (h : GOwn T en w B (.slice (some ⟨g, 0, none⟩) n cap) zs) (hn : zs.length = n) (k : Nat) (x : α) : GOwn T en (w.setCell ⟨g, k, none⟩ (en x)) B (.slice (some ⟨g, 0, none⟩) n cap) (zs.set k x) := by
  subst hn
  have := (World.ownsRow.stored h k (en x)).1
  unfold GOwn
  rw [List.length_set, List.map_set]
  exact this
theorem Own.cellAt {w : World} {B g n cap : Nat} {zs : List Int} (h : Own w B (.slice (some ⟨g, 0, none⟩) n cap) zs) (hn : zs.length = n) {k : Nat} (hk : k < n) : w.cell? ⟨g, k, none⟩ = some (.int .i64 (zs.getD k 0)) := by
  refine GOwn.cellAt (T := 3) (en := Value.int .i64) h hn ?_
  rw [List.getD_eq_getElem?_getD, List.getElem?_eq_getElem (by omega)]; rfl
theorem Own.freeAt {w : World} {B g n cap : Nat} {zs : List Int} (h : Own w B (.slice (some ⟨g, 0, none⟩) n cap) zs) (hn : zs.length = n) (k : Nat) : w.frozen? ⟨g, k, none⟩ = false :=
  GOwn.freeAt (T := 3) (en := Value.int .i64) h hn k
theorem Own.stored {w : World} {B g n cap : Nat} {zs : List Int} (h : Own w B (.slice (some ⟨g, 0, none⟩) n cap) zs) (hn : zs.length = n) (k : Nat) (x : Int) : Own (w.setCell ⟨g, k, none⟩ (.int .i64 x)) B (.slice (some ⟨g, 0, none⟩) n cap) (zs.set k x) :=
  GOwn.stored (T := 3) (en := Value.int .i64) h hn k x
/-- One that is not empty lies at the head of a block of its own. -/
theorem Own.head {w : World} {B n : Nat} {v : Value} {zs : List Int} (h : Own w B v zs) (hn : zs.length = n) (h0 : 0 < n) : ∃ g cap, v = .slice (some ⟨g, 0, none⟩) n cap ∧ B ≤ g ∧ g < w.heap.size ∧ n ≤ cap ∧ cap ≤ maxLen := by
  rcases h.2 with ⟨_, hz⟩ | ⟨g, cap, cur, hv, hg, hh, hnc, hcm, _⟩
  · omega
  · rw [hn] at hv hnc
    exact ⟨g, cap, hv, hg, (Array.getElem?_eq_some_iff.1 hh).1, hnc, hcm⟩
theorem Q.setCell {a w : World} (h : Q a w) {ad : Addr} (hg : a.heap.size ≤ ad.block) (u : Value) : Q a (w.setCell ad u) :=
  Below.trans h ⟨rfl, rfl, rfl, by simp, fun k hk => heap_setCell_other w ad k u (by omega)⟩
/-- A list stands while a cell of another block is written. -/
theorem Lst.setCell {w : World} {v : Value} {zs : List Int} (h : Lst w v zs) {ad : Addr} (u : Value) (ho : ∀ a n c, v = .slice (some a) n c → n ≠ 0 → a.block ≠ ad.block) : Lst (w.setCell ad u) v zs := by
  rcases h with h | ⟨g, off, cap, hv, hg, h1, h2, hc⟩
  · exact .inl h
  · by_cases h0 : zs.length = 0
    · have : zs = [] := List.eq_nil_of_length_eq_zero h0
      subst this
      exact .inl ⟨rfl, _, _, hv, h2, fun h => by cases h⟩
    · refine .inr ⟨g, off, cap, hv, by simpa using hg, h1, h2, fun i hi => ?_⟩
      rw [World.cell?_of_block (w := w) (heap_setCell_other w ad g u (fun e => ho _ _ _ hv h0 e))]
      exact hc i hi
/-- It lies below a block that came later. -/
theorem Lst.old {w : World} {v : Value} {zs : List Int} (h : Lst w v zs) : ∀ a n c, v = .slice (some a) n c → n ≠ 0 → a.block < w.heap.size := by
  rintro a n c rfl hn
  rcases h with ⟨rfl, _, _, hv, _⟩ | ⟨g, off, cap, hv, hg, _⟩
  · cases hv; exact absurd rfl hn
  · cases hv; exact hg

/-- A list of noughts that the call makes. -/
theorem make_ints {w : World} {B : Nat} {ops : Array Oper} {rest : List Oper} {o : Oper} {a : Act} {R : Exit → Act → World → Prop} (hgd : o.guard = none) (l c : Operand)
    (ho : o.op = .makeSlice 127 l c) (n : Nat) (L : Int) (hl : a.eval l = .int .i64 L) (hc : a.eval c = .int .i64 L) (hL : L = (n : Int)) (hn : n < 1099511627776) (hB : B ≤ w.heap.size)
    (h : ∀ w', Own w' B (.slice (some ⟨w.heap.size, 0, none⟩) n n) (List.replicate n 0) → Q w w' → w.heap.size < w'.heap.size → wpList Tryz.prog ops R rest (a.put o.dst (.slice (some ⟨w.heap.size, 0, none⟩) n n)) w') :
    wpList Tryz.prog ops R (o :: rest) a w := by
  obtain ⟨i0, hi, hz0, hz1, hz2⟩ := info_parts infoInt
  refine wpList_make_full w hgd l c _ ho B 3 i0 (.int .i64 0) 1 Tryz.underlying127 hi hz0 hz1 .i64 .i64 L L n hl hc hL hL (by rw [hz2]; omega) (by unfold maxLen; omega) hB ?_
  intro w' hown hg
  have hown2 : Own w' B (.slice (some ⟨w.heap.size, 0, none⟩) n n) (List.replicate n 0) := by
    unfold Own
    rw [List.length_replicate, List.map_replicate]
    have e : (madeCells (Value.cells (.int .i64 0)) (n * 1)).toList = List.replicate n (Value.int .i64 0) := by
      rw [Nat.mul_one]; exact toList_madeCells_one _ _
    rw [e] at hown
    exact hown
  refine h w' hown2 ((Q.refl w).grown hg (fun k hk => by cases hk)) ?_
  rcases hown.2 with ⟨h1, _⟩ | ⟨g, cap, cur, hv, _, hh, _⟩
  · cases h1
  · cases hv
    exact (Array.getElem?_eq_some_iff.1 hh).1

/-- What is left of a list behind its first k numbers: as the walk spells a cut at its beginning. -/
theorem Lst.drop {w : World} {g off n c k : Nat} {zs : List Int} (h : Lst w (.slice (some ⟨g, off, none⟩) n c) zs) (hn : zs.length = n) (hk : k < n) : Lst w (.slice (some ⟨g, off + k, none⟩) (n - k) (c - k)) (zs.drop k) := by
  rcases h with ⟨rfl, _⟩ | ⟨g', off', cap, hv, hg, h1, h2, hc⟩
  · simp at hn; omega
  · cases hv
    have hl : (zs.drop k).length = zs.length - k := by simp
    refine .inr ⟨g, off + k, c - k, by rw [hl], hg, by omega, by unfold maxLen at *; omega, fun i hi => ?_⟩
    rw [hl] at hi
    rw [Nat.add_assoc, hc (k + i) (by omega), List.getD_eq_getElem?_getD, List.getD_eq_getElem?_getD, List.getElem?_drop]

/-- A slice of numbers: where it begins, how many it has, its room, the numbers. -/
structure Sl where
  a : Option Addr
  n : Nat
  c : Nat
  zs : List Int
def Sl.v (s : Sl) : Value := .slice s.a s.n s.c
theorem Sl.one (s : Sl) : (Sl.v s).oneCell' = true := rfl
def Sl.ok (w : World) (s : Sl) : Prop := Lst w s.v s.zs ∧ s.zs.length = s.n
theorem Sl.ok.q {w w' : World} {s : Sl} (h : s.ok w) (hq : Q w w') : s.ok w' := ⟨h.1.q hq, h.2⟩
theorem Lst.sl {w : World} {v : Value} {zs : List Int} (h : Lst w v zs) : ∃ s : Sl, v = s.v ∧ s.zs = zs ∧ s.ok w := by
  obtain ⟨a, c, rfl⟩ := h.shape
  exact ⟨⟨a, zs.length, c, zs⟩, rfl, rfl, h, rfl⟩
/-- A list of lists in memory. -/
def LL (w : World) (v : Value) (ls : List Sl) : Prop := GLst Sl.v w v ls ∧ ∀ s ∈ ls, s.ok w
theorem LL.q {w w' : World} {v : Value} {ls : List Sl} (h : LL w v ls) (hq : Q w w') : LL w' v ls := ⟨h.1.q hq, fun s hs => (h.2 s hs).q hq⟩
/-- A list of lists of the call's own. -/
def LO (w : World) (B : Nat) (v : Value) (ls : List Sl) : Prop := GOwn 127 Sl.v w B v ls ∧ ∀ s ∈ ls, s.ok w
theorem LO.q {w w' : World} {B : Nat} {v : Value} {ls : List Sl} (h : LO w B v ls) (hq : Q w w') : LO w' B v ls := ⟨h.1.q hq, fun s hs => (h.2 s hs).q hq⟩
theorem LO.ll {w : World} {B : Nat} {v : Value} {ls : List Sl} (h : LO w B v ls) : LL w v ls := ⟨h.1.lst, h.2⟩
/-- The three ways in which a list's rest may lie. -/
theorem Lst.rest {w : World} {a : Option Addr} {n c z : Nat} {zs : List Int} (h : Lst w (.slice a n c) zs) (hn : zs.length = n) (hz : z ≤ n) :
    (∃ g off, a = some ⟨g, off, none⟩ ∧ z < n ∧ n ≤ c ∧ c ≤ 9223372036854775807 ∧ Lst w (.slice (some ⟨g, off + z, none⟩) (n - z) (c - z)) (zs.drop z)) ∨
    (z = n ∧ c = n ∧ zs.drop z = []) ∨ (∃ ad, a = some ad ∧ z = n ∧ n < c ∧ c ≤ 9223372036854775807 ∧ zs.drop z = []) := by
  by_cases hlt : z < n
  · obtain ⟨g, off, cap, hv, hg, h1, h2, _⟩ := h.cellOf hn hlt
    cases hv
    exact .inl ⟨g, off, rfl, hlt, h1, by unfold maxLen at h2; omega, h.drop hn hlt⟩
  · have he : zs.drop z = [] := List.drop_eq_nil_of_le (by omega)
    have hc := h.form0 hn
    obtain ⟨_, _, hv, h1, h2⟩ := hc
    cases hv
    unfold maxLen at h2
    by_cases hcn : c = n
    · exact .inr (.inl ⟨by omega, hcn, he⟩)
    · refine .inr (.inr ?_)
      cases a with
      | some ad => exact ⟨ad, rfl, by omega, by omega, by omega, he⟩
      | none =>
        rcases h with ⟨rfl, _, _, hv2, _, hn2⟩ | ⟨_, _, _, hv2, _⟩
        · cases hv2
          have := hn2 rfl
          omega
        · cases hv2
end Go.Proofs.YtglljkbpdbnhaaaGreatDoor

set_option linter.unusedVariables false
set_option linter.unusedSimpArgs false
namespace Go.Proofs.YtglljkbpdbnhaaaGreatDoor
open Go.RowKit

/-- The block b holds a struct of type T whose cells are l. -/
def Bk (w : World) (b : Nat) (T : TypeId) (l : List Value) : Prop := w.heap[b]? = some (.cells l.toArray T (0, 0))
theorem Bk.lt {w : World} {b : Nat} {T : TypeId} {l : List Value} (h : Bk w b T l) : b < w.heap.size := (Array.getElem?_eq_some_iff.1 h).1
theorem Bk.q {w w' : World} {b : Nat} {T : TypeId} {l : List Value} (h : Bk w b T l) (hq : Q w w') : Bk w' b T l := (hq.block h.lt).trans h
theorem Bk.cell {w : World} {b : Nat} {T : TypeId} {l : List Value} (h : Bk w b T l) (i : Nat) {v : Value} (hv : l[i]? = some v) : w.cell? ⟨b, i, none⟩ = some v := by
  rw [Lib.cell_of_heap h]; simpa using hv
theorem Bk.free {w : World} {b : Nat} {T : TypeId} {l : List Value} (h : Bk w b T l) (i : Nat) : w.frozen? ⟨b, i, none⟩ = false := Lib.frozen_of_heap h i
theorem Bk.set {w : World} {b : Nat} {T : TypeId} {l : List Value} (h : Bk w b T l) (i : Nat) (v : Value) : Bk (w.setCell ⟨b, i, none⟩ v) b T (l.set i v) := by
  have := Joins.block_setCell h v (i := i)
  unfold Bk
  rw [this, List.setIfInBounds_toArray]
theorem Bk.new (w : World) (T : TypeId) (l : List Value) : Bk (w.alloc (.cells l.toArray T)) w.heap.size T l := heap_alloc_new _ _
theorem Bk.past {w : World} {b g i : Nat} {T : TypeId} {l : List Value} (h : Bk w b T l) (hg : g ≠ b) (v : Value) : Bk (w.setCell ⟨g, i, none⟩ v) b T l := by
  exact ((Gap.setCell w g i v g (g + 1) (Nat.le_refl _) (Nat.lt_succ_self _)).block b h.lt (by omega)).trans h
theorem cell_past {w : World} {b g i o : Nat} {u : Value} (h : w.cell? ⟨b, o, none⟩ = some u) (hb : b < w.heap.size) (hg : g ≠ b) (v : Value) : (w.setCell ⟨g, i, none⟩ v).cell? ⟨b, o, none⟩ = some u :=
  (World.cell?_of_block (w := w) ((Gap.setCell w g i v g (g + 1) (Nat.le_refl _) (Nat.lt_succ_self _)).block b hb (by omega))).trans h
/-- What a function hands back that has its one result in a block. -/
theorem ret_bk {fn : Func} {p : Tmp} {T : TypeId} (h : fn.results = #[.cell p T]) {R : Ending → World → Prop} {a : Act} {w : World} {g : Nat} {l : List Value} {fs : _}
    (hu : Tryz.prog.underlying T = some (.struct fs)) (hi : (Tryz.prog.info? T).map (·.size) = some l.length)
    (hp : a.tmps.getD p undef = .pointer (some ⟨g, 0, none⟩)) (hg : Bk w g T l) (hdf : a.defers = []) (hR : R (.returned (.agg l.toArray)) w) : bodyPost Tryz.prog fn R .ret a w :=
  bodyPost_ret (results_cell_row h a.tmps w g T l.toArray (0, 0) _ hp hg hu rfl (by simpa using hi)) hdf hR
end Go.Proofs.YtglljkbpdbnhaaaGreatDoor

set_option linter.unusedVariables false
set_option linter.unusedSimpArgs false
namespace Go.Proofs.YtglljkbpdbnhaaaGreatDoor
open Go.RowKit
namespace Pc

/-- A number and a text's bytes. -/
abbrev E := Int × List UInt8
def txt (l : List UInt8) : Value := .string ⟨l.toArray⟩
def flat (l : List E) : List Value := l.flatMap fun p => [.int .i64 p.1, txt p.2]
theorem flat_cons (p : E) (l : List E) : flat (p :: l) = .int .i64 p.1 :: txt p.2 :: flat l := by simp [flat]
theorem flat_len (l : List E) : (flat l).length = l.length * 2 := by
  induction l with
  | nil => rfl
  | cons p l ih => rw [flat_cons]; simp [ih]; omega
theorem flat_app (a b : List E) : flat (a ++ b) = flat a ++ flat b := by simp [flat]
theorem flat_get (l : List E) (i : Nat) (h : i < l.length) : (flat l)[i * 2]? = some (.int .i64 (l.getD i (0, [])).1) ∧ (flat l)[i * 2 + 1]? = some (txt (l.getD i (0, [])).2) := by
  induction l generalizing i with
  | nil => simp at h
  | cons p l ih =>
    cases i with
    | zero => rw [flat_cons]; simp
    | succ i =>
      have := ih i (by simpa using h)
      rw [flat_cons, show (i + 1) * 2 = i * 2 + 1 + 1 from by omega]
      simpa using this
theorem flat_one (l : List E) : ∀ u ∈ flat l, u.oneCell' = true := by
  intro u hu
  obtain ⟨p, _, hp⟩ := List.mem_flatMap.1 hu
  simp only [List.mem_cons, List.not_mem_nil, or_false] at hp
  rcases hp with rfl | rfl <;> rfl

/-- A value that reads as such a list. -/
def LstP (w : World) (v : Value) (l : List E) : Prop :=
  (l = [] ∧ ∃ a c, v = .slice a 0 c ∧ c ≤ maxLen ∧ (a = none → c = 0)) ∨
  ∃ g off cap, v = .slice (some ⟨g, off, none⟩) l.length cap ∧ g < w.heap.size ∧ l.length ≤ cap ∧ cap ≤ maxLen ∧ ∀ i, i < l.length → w.cell? ⟨g, off + i * 2, none⟩ = some (.int .i64 (l.getD i (0, [])).1) ∧ w.cell? ⟨g, off + i * 2 + 1, none⟩ = some (txt (l.getD i (0, [])).2)
theorem LstP.nil (w : World) (a : Option Addr) (c : Nat) (hc : c ≤ maxLen) (hn : a = none → c = 0) : LstP w (.slice a 0 c) [] := .inl ⟨rfl, a, c, rfl, hc, hn⟩
theorem LstP.q {w w' : World} {v : Value} {l : List E} (h : LstP w v l) (hq : Q w w') : LstP w' v l := by
  rcases h with h | ⟨g, off, cap, hv, hg, h1, h2, hc⟩
  · exact .inl h
  · refine .inr ⟨g, off, cap, hv, Nat.lt_of_lt_of_le hg hq.le, h1, h2, fun i hi => ?_⟩
    obtain ⟨c1, c2⟩ := hc i hi
    exact ⟨(World.cell?_of_block (w := w) (hq.block hg)).trans c1, (World.cell?_of_block (w := w) (hq.block hg)).trans c2⟩
theorem LstP.shape2 {w : World} {v : Value} {l : List E} (h : LstP w v l) : ∃ a c, v = .slice a l.length c ∧ l.length ≤ c ∧ c ≤ maxLen := by
  rcases h with ⟨rfl, a, c, rfl, hc, _⟩ | ⟨g, off, cap, hv, _, h1, h2, _⟩
  · exact ⟨a, c, rfl, Nat.zero_le _, hc⟩
  · exact ⟨_, _, hv, h1, h2⟩
theorem LstP.form0 {w : World} {v : Value} {l : List E} {n : Nat} (h : LstP w v l) (hn : l.length = n) : ∃ a c, v = .slice a n c ∧ n ≤ c ∧ c ≤ maxLen := by
  subst hn; exact h.shape2
theorem LstP.shape {w : World} {v : Value} {l : List E} (h : LstP w v l) : ∃ a c, v = .slice a l.length c := by
  obtain ⟨a, c, hv, _⟩ := h.shape2
  exact ⟨a, c, hv⟩
theorem LstP.cellOf {w : World} {v : Value} {l : List E} {n k : Nat} (h : LstP w v l) (hn : l.length = n) (hk : k < n) :
    ∃ g off cap, v = .slice (some ⟨g, off, none⟩) n cap ∧ g < w.heap.size ∧ n ≤ cap ∧ cap ≤ maxLen ∧ w.cell? ⟨g, off + k * 2, none⟩ = some (.int .i64 (l.getD k (0, [])).1) ∧ w.cell? ⟨g, off + k * 2 + 1, none⟩ = some (txt (l.getD k (0, [])).2) := by
  rcases h with ⟨rfl, _⟩ | ⟨g, off, cap, hv, hg, h1, h2, hc⟩
  · simp at hn; omega
  · rw [hn] at hv h1 hc
    exact ⟨g, off, cap, hv, hg, h1, h2, (hc k hk).1, (hc k hk).2⟩
theorem LstP.take {w : World} {a : Option Addr} {n c : Nat} {l : List E} (h : LstP w (.slice a n c) l) (k : Nat) (hk : k ≤ l.length) : LstP w (.slice a k c) (l.take k) := by
  rcases h with ⟨rfl, a, c, hv, hc, hn⟩ | ⟨g, off, cap, hv, hg, h1, h2, hcell⟩
  · cases hv
    have : k = 0 := by simpa using hk
    subst this
    exact .nil _ _ _ hc hn
  · cases hv
    have hl : (l.take k).length = k := by simp; omega
    refine .inr ⟨g, off, c, by rw [hl], hg, by omega, h2, fun i hi => ?_⟩
    rw [hl] at hi
    have e : (l.take k).getD i (0, []) = l.getD i (0, []) := by
      simp only [List.getD_eq_getElem?_getD]
      rw [List.getElem?_take, if_pos hi]
    rw [e]
    exact hcell i (by omega)
theorem LstP.drop {w : World} {g off n c k : Nat} {l : List E} (h : LstP w (.slice (some ⟨g, off, none⟩) n c) l) (hn : l.length = n) (hk : k < n) : LstP w (.slice (some ⟨g, off + k * 2, none⟩) (n - k) (c - k)) (l.drop k) := by
  rcases h with ⟨rfl, _⟩ | ⟨g', off', cap, hv, hg, h1, h2, hc⟩
  · simp at hn; omega
  · cases hv
    have hl : (l.drop k).length = l.length - k := by simp
    refine .inr ⟨g, off + k * 2, c - k, by rw [hl], hg, by omega, by unfold maxLen at *; omega, fun i hi => ?_⟩
    rw [hl] at hi
    have e : (l.drop k).getD i (0, []) = l.getD (k + i) (0, []) := by
      simp only [List.getD_eq_getElem?_getD, List.getElem?_drop]
    rw [e, show off + k * 2 + i * 2 = off + (k + i) * 2 from by omega]
    exact hc (k + i) (by omega)
/-- The three ways in which a list's rest may lie. -/
theorem LstP.rest {w : World} {a : Option Addr} {n c z : Nat} {l : List E} (h : LstP w (.slice a n c) l) (hn : l.length = n) (hz : z ≤ n) :
    (∃ g off, a = some ⟨g, off, none⟩ ∧ z < n ∧ n ≤ c ∧ c ≤ 9223372036854775807 ∧ LstP w (.slice (some ⟨g, off + z * 2, none⟩) (n - z) (c - z)) (l.drop z)) ∨
    (z = n ∧ c = n ∧ l.drop z = []) ∨ (∃ ad, a = some ad ∧ z = n ∧ n < c ∧ c ≤ 9223372036854775807 ∧ l.drop z = []) := by
  by_cases hlt : z < n
  · obtain ⟨g, off, cap, hv, hg, h1, h2, _⟩ := h.cellOf hn hlt
    cases hv
    exact .inl ⟨g, off, rfl, hlt, h1, by unfold maxLen at h2; omega, h.drop hn hlt⟩
  · have he : l.drop z = [] := List.drop_eq_nil_of_le (by omega)
    have hc := h.form0 hn
    obtain ⟨_, _, hv, h1, h2⟩ := hc
    cases hv
    unfold maxLen at h2
    by_cases hcn : c = n
    · exact .inr (.inl ⟨by omega, hcn, he⟩)
    · refine .inr (.inr ?_)
      cases a with
      | some ad => exact ⟨ad, rfl, by omega, by omega, by omega, he⟩
      | none =>
        rcases h with ⟨rfl, _, _, hv2, _, hn2⟩ | ⟨_, _, _, hv2, _⟩
        · cases hv2
          have := hn2 rfl
          omega
        · cases hv2

/-- Such a list that the call itself has made, from block B on. -/
def OwnE (T : TypeId) (w : World) (B : Nat) (v : Value) (l : List E) : Prop := w.ownsRow B T 2 v l.length (flat l)
theorem OwnE.nil (T : TypeId) (w : World) (B : Nat) : OwnE T w B (.slice none 0 0) [] := World.ownsRow_nil w B T 2
theorem OwnE.mono {T : TypeId} {w : World} {B B' : Nat} {v : Value} {l : List E} (h : OwnE T w B v l) (hB : B' ≤ B) : OwnE T w B' v l := by
  obtain ⟨h1, h2⟩ := h
  refine ⟨h1, ?_⟩
  rcases h2 with h2 | ⟨g, cap, cur, hv, hg, r⟩
  · exact .inl h2
  · exact .inr ⟨g, cap, cur, hv, by omega, r⟩
theorem OwnE.same {T : TypeId} {w w' : World} {B : Nat} {v : Value} {l : List E} (h : OwnE T w B v l) (hs : ∀ g, v.ownBlock = some g → w'.heap[g]? = w.heap[g]?) : OwnE T w' B v l := by
  obtain ⟨h1, h2⟩ := h
  refine ⟨h1, ?_⟩
  rcases h2 with h2 | ⟨g, cap, cur, hv, hg, hh, r⟩
  · exact .inl h2
  · exact .inr ⟨g, cap, cur, hv, hg, by rw [hs g (by rw [hv]; rfl)]; exact hh, r⟩
theorem OwnE.lt {T : TypeId} {w : World} {B : Nat} {v : Value} {l : List E} (h : OwnE T w B v l) : ∀ g, v.ownBlock = some g → B ≤ g ∧ g < w.heap.size := World.ownsRow.lt h
theorem OwnE.q {T : TypeId} {w w' : World} {B : Nat} {v : Value} {l : List E} (h : OwnE T w B v l) (hq : Q w w') : OwnE T w' B v l := h.same fun g hg => hq.block (h.lt g hg).2
theorem OwnE.lst {T : TypeId} {w : World} {B : Nat} {v : Value} {l : List E} (h : OwnE T w B v l) : LstP w v l := by
  rcases h.2 with ⟨hv, hn⟩ | ⟨g, cap, cur, hv, _, hh, hnc, hcm, hcs, ht⟩
  · have : l = [] := List.eq_nil_of_length_eq_zero hn
    subst this; subst hv
    exact .nil _ _ _ (by unfold maxLen; omega) (fun _ => rfl)
  · refine .inr ⟨g, 0, cap, hv, (Array.getElem?_eq_some_iff.1 hh).1, hnc, hcm, fun i hi => ⟨?_, ?_⟩⟩
    · rw [cell_of_row w g (0 + i * 2) cur T (0, 0) hh]
      have h1 := congrArg (fun x => x[i * 2]?) ht
      rw [List.getElem?_take, if_pos (by omega), (flat_get l i hi).1] at h1
      rw [Nat.zero_add, ← Array.getElem?_toList, h1]
    · rw [cell_of_row w g (0 + i * 2 + 1) cur T (0, 0) hh]
      have h1 := congrArg (fun x => x[i * 2 + 1]?) ht
      rw [List.getElem?_take, if_pos (by omega), (flat_get l i hi).2] at h1
      rw [Nat.zero_add, ← Array.getElem?_toList, h1]
/-- A list in the call's own blocks, wherever it lies there. -/
def New (w : World) (B : Nat) (v : Value) (l : List E) : Prop := LstP w v l ∧ ∀ a n c, v = .slice (some a) n c → n ≠ 0 → B ≤ a.block
theorem New.q {w w' : World} {B : Nat} {v : Value} {l : List E} (h : New w B v l) (hq : Q w w') : New w' B v l := ⟨h.1.q hq, h.2⟩
theorem New.mono {w : World} {B B' : Nat} {v : Value} {l : List E} (h : New w B v l) (hB : B' ≤ B) : New w B' v l := ⟨h.1, fun a n c e k => Nat.le_trans hB (h.2 a n c e k)⟩
theorem OwnE.new {T : TypeId} {w : World} {B : Nat} {v : Value} {l : List E} (h : OwnE T w B v l) : New w B v l := by
  refine ⟨h.lst, fun a n c e _ => ?_⟩
  rcases h.2 with ⟨hv, _⟩ | ⟨g, cap, cur, hv, hg, _⟩
  · rw [hv] at e; cases e
  · rw [hv] at e; cases e; exact hg

/-- What the elements' type tells. -/
structure El (T ST : TypeId) : Prop where
  info : (Tryz.prog.info? T).map (fun i => (i.zero, i.size, i.bytes)) = some (some (.agg #[.int .i64 0, .string ByteArray.empty]), 2, 24)
  under : Tryz.prog.underlying ST = some (.slice T)

/-- One element more. -/
theorem push {T ST : TypeId} (he : El T ST) {w : World} {B : Nat} {v : Value} {l : List E} (hown : OwnE T w B v l) {ops : Array Oper} {rest : List Oper} {o : Oper} {a : Act} {R : Exit → Act → World → Prop} (hgd : o.guard = none) (s x : Operand)
    (ho : o.op = .call { callee := .builtin .append, args := #[s, x], argTypes := #[ST, ST] })
    (p : Int) (t : ByteArray) (hs : a.eval s = v) (hx : a.eval x = .slice (some ⟨w.heap.size, 0, none⟩) 1 1) (hlen : l.length < 1073741824) (hB : B ≤ w.heap.size)
    (h : ∀ v' w', OwnE T w' B v' (l ++ [(p, t.data.toList)]) → w.grownBy w' v.ownBlock → (v'.ownBlock = v.ownBlock ∨ v'.ownBlock = some (w.heap.size + 1)) → wpList Tryz.prog ops R rest (a.put o.dst v') w') :
    wpList Tryz.prog ops R (o :: rest) a (w.alloc (.cells #[.int .i64 p, .string t] T)) := by
  obtain ⟨i0, hi, hz0, hz1, hz2⟩ := info_parts he.info
  refine wpList_append_own_at _ hgd s x ST ho B T i0 (.agg #[.int .i64 0, .string ByteArray.empty]) 2 24 he.under hi hz0 hz1 hz2 rfl (by decide) v l.length _ hs (World.ownsRow.alloc hown _)
    ⟨w.heap.size, 0, none⟩ 1 1 [.int .i64 p, .string t] hx rfl ?_ ?_ ?_ ?_ ?_ ?_
  · intro j u hj
    match j, hj with
    | 0, hj => simp at hj; subst hj; show World.cell? _ ⟨w.heap.size, 0 + 0, none⟩ = _; rw [World.cell?_alloc_at _ _ _ _ rfl]; rfl
    | 1, hj => simp at hj; subst hj; show World.cell? _ ⟨w.heap.size, 0 + 1, none⟩ = _; rw [World.cell?_alloc_at _ _ _ _ rfl]; rfl
  · intro u hu; simp at hu; rcases hu with rfl | rfl <;> rfl
  · unfold maxLen; omega
  · omega
  · simp; omega
  · intro v' w' hown' hg _ hat
    refine h v' w' ?_ ?_ ?_
    · unfold OwnE
      rw [List.length_append, flat_app]
      exact hown'
    · exact (World.grownBy_alloc w _ _).trans hg
    · simpa using hat
/-- A list behind a list of the call's own. -/
theorem pushl {T ST : TypeId} (he : El T ST) {w : World} {B : Nat} {v u : Value} {l k : List E} (hown : OwnE T w B v l) (hu : LstP w u k) {ops : Array Oper} {rest : List Oper} {o : Oper} {a : Act} {R : Exit → Act → World → Prop} (hgd : o.guard = none) (s x : Operand)
    (ho : o.op = .call { callee := .builtin .append, args := #[s, x], argTypes := #[ST, ST] })
    (hs : a.eval s = v) (hx : a.eval x = u) (hlen : l.length + k.length < 1073741824) (hB : B ≤ w.heap.size)
    (h : ∀ v' w', OwnE T w' B v' (l ++ k) → w.grownBy w' v.ownBlock → (v'.ownBlock = v.ownBlock ∨ v'.ownBlock = some w.heap.size) → wpList Tryz.prog ops R rest (a.put o.dst v') w') :
    wpList Tryz.prog ops R (o :: rest) a w := by
  obtain ⟨i0, hi, hz0, hz1, hz2⟩ := info_parts he.info
  have key : ∀ (ad : Addr) (m c : Nat), u = .slice (some ad) m c → k.length = m → (∀ j x, (flat k)[j]? = some x → w.cell? (ad.add j) = some x) → wpList Tryz.prog ops R (o :: rest) a w := by
    intro ad m c hu hm hc
    subst hu; subst hm
    refine wpList_append_own_at _ hgd s x ST ho B T i0 (.agg #[.int .i64 0, .string ByteArray.empty]) 2 24 he.under hi hz0 hz1 hz2 rfl (by decide) v l.length _ hs hown
      ad k.length c (flat k) hx (by rw [flat_len]) hc (flat_one k) ?_ ?_ hB ?_
    · unfold maxLen; omega
    · omega
    · intro v' w' hown' hg _ hat
      refine h v' w' ?_ hg hat
      unfold OwnE
      rw [List.length_append, flat_app]
      exact hown'
  rcases hu with ⟨rfl, ad, c, rfl, hc, hn⟩ | ⟨g, off, cap, hv, hg, h1, h2, hc⟩
  · cases ad with
    | none =>
      obtain rfl := hn rfl
      refine wpList_append_own_none hgd s x ST ho B T i0 2 he.under hi v l.length _ hs hown hx ?_
      exact h v w (by rw [List.append_nil]; exact hown) ⟨rfl, rfl, rfl, Nat.le_refl _, fun _ _ _ => rfl⟩ (.inl rfl)
    | some ad => exact key ad 0 c rfl rfl (by simp [flat])
  · refine key ⟨g, off, none⟩ k.length cap hv rfl fun j x hj => ?_
    have hjl : j < k.length * 2 := by
      have := (List.getElem?_eq_some_iff.1 hj).1
      rwa [flat_len] at this
    have hadd : (⟨g, off, none⟩ : Addr).add j = ⟨g, off + j, none⟩ := by unfold Addr.add; split <;> simp_all
    obtain ⟨i, hi⟩ : ∃ i, i = j / 2 := ⟨_, rfl⟩
    have hik : i < k.length := by omega
    obtain ⟨f1, f2⟩ := flat_get k i hik
    obtain ⟨c1, c2⟩ := hc i hik
    rw [hadd]
    rcases (show j = i * 2 ∨ j = i * 2 + 1 from by omega) with hj2 | hj2
    · rw [hj2] at hj ⊢
      rw [f1] at hj
      rw [c1]; exact hj
    · rw [hj2] at hj ⊢
      rw [f2] at hj
      rw [← Nat.add_assoc, c2]; exact hj

end Pc
end Go.Proofs.YtglljkbpdbnhaaaGreatDoor

set_option linter.unusedVariables false
set_option linter.unusedSimpArgs false
namespace Go.Proofs.YtglljkbpdbnhaaaGreatDoor
open Go.RowKit
namespace Pb

/-- A truth and a text's bytes. -/
abbrev E := Bool × List UInt8
def txt (l : List UInt8) : Value := .string ⟨l.toArray⟩
def flat (l : List E) : List Value := l.flatMap fun p => [.bool p.1, txt p.2]
theorem flat_cons (p : E) (l : List E) : flat (p :: l) = .bool p.1 :: txt p.2 :: flat l := by simp [flat]
theorem flat_len (l : List E) : (flat l).length = l.length * 2 := by
  induction l with
  | nil => rfl
  | cons p l ih => rw [flat_cons]; simp [ih]; omega
theorem flat_app (a b : List E) : flat (a ++ b) = flat a ++ flat b := by simp [flat]
theorem flat_get (l : List E) (i : Nat) (h : i < l.length) : (flat l)[i * 2]? = some (.bool (l.getD i (false, [])).1) ∧ (flat l)[i * 2 + 1]? = some (txt (l.getD i (false, [])).2) := by
  induction l generalizing i with
  | nil => simp at h
  | cons p l ih =>
    cases i with
    | zero => rw [flat_cons]; simp
    | succ i =>
      have := ih i (by simpa using h)
      rw [flat_cons, show (i + 1) * 2 = i * 2 + 1 + 1 from by omega]
      simpa using this
theorem flat_one (l : List E) : ∀ u ∈ flat l, u.oneCell' = true := by
  intro u hu
  obtain ⟨p, _, hp⟩ := List.mem_flatMap.1 hu
  simp only [List.mem_cons, List.not_mem_nil, or_false] at hp
  rcases hp with rfl | rfl <;> rfl

/-- A value that reads as such a list. -/
def LstP (w : World) (v : Value) (l : List E) : Prop :=
  (l = [] ∧ ∃ a c, v = .slice a 0 c ∧ c ≤ maxLen ∧ (a = none → c = 0)) ∨
  ∃ g off cap, v = .slice (some ⟨g, off, none⟩) l.length cap ∧ g < w.heap.size ∧ l.length ≤ cap ∧ cap ≤ maxLen ∧ ∀ i, i < l.length → w.cell? ⟨g, off + i * 2, none⟩ = some (.bool (l.getD i (false, [])).1) ∧ w.cell? ⟨g, off + i * 2 + 1, none⟩ = some (txt (l.getD i (false, [])).2)
theorem LstP.nil (w : World) (a : Option Addr) (c : Nat) (hc : c ≤ maxLen) (hn : a = none → c = 0) : LstP w (.slice a 0 c) [] := .inl ⟨rfl, a, c, rfl, hc, hn⟩
theorem LstP.q {w w' : World} {v : Value} {l : List E} (h : LstP w v l) (hq : Q w w') : LstP w' v l := by
  rcases h with h | ⟨g, off, cap, hv, hg, h1, h2, hc⟩
  · exact .inl h
  · refine .inr ⟨g, off, cap, hv, Nat.lt_of_lt_of_le hg hq.le, h1, h2, fun i hi => ?_⟩
    obtain ⟨c1, c2⟩ := hc i hi
    exact ⟨(World.cell?_of_block (w := w) (hq.block hg)).trans c1, (World.cell?_of_block (w := w) (hq.block hg)).trans c2⟩
theorem LstP.shape2 {w : World} {v : Value} {l : List E} (h : LstP w v l) : ∃ a c, v = .slice a l.length c ∧ l.length ≤ c ∧ c ≤ maxLen := by
  rcases h with ⟨rfl, a, c, rfl, hc, _⟩ | ⟨g, off, cap, hv, _, h1, h2, _⟩
  · exact ⟨a, c, rfl, Nat.zero_le _, hc⟩
  · exact ⟨_, _, hv, h1, h2⟩
theorem LstP.form0 {w : World} {v : Value} {l : List E} {n : Nat} (h : LstP w v l) (hn : l.length = n) : ∃ a c, v = .slice a n c ∧ n ≤ c ∧ c ≤ maxLen := by
  subst hn; exact h.shape2
theorem LstP.shape {w : World} {v : Value} {l : List E} (h : LstP w v l) : ∃ a c, v = .slice a l.length c := by
  obtain ⟨a, c, hv, _⟩ := h.shape2
  exact ⟨a, c, hv⟩
theorem LstP.cellOf {w : World} {v : Value} {l : List E} {n k : Nat} (h : LstP w v l) (hn : l.length = n) (hk : k < n) :
    ∃ g off cap, v = .slice (some ⟨g, off, none⟩) n cap ∧ g < w.heap.size ∧ n ≤ cap ∧ cap ≤ maxLen ∧ w.cell? ⟨g, off + k * 2, none⟩ = some (.bool (l.getD k (false, [])).1) ∧ w.cell? ⟨g, off + k * 2 + 1, none⟩ = some (txt (l.getD k (false, [])).2) := by
  rcases h with ⟨rfl, _⟩ | ⟨g, off, cap, hv, hg, h1, h2, hc⟩
  · simp at hn; omega
  · rw [hn] at hv h1 hc
    exact ⟨g, off, cap, hv, hg, h1, h2, (hc k hk).1, (hc k hk).2⟩
theorem LstP.take {w : World} {a : Option Addr} {n c : Nat} {l : List E} (h : LstP w (.slice a n c) l) (k : Nat) (hk : k ≤ l.length) : LstP w (.slice a k c) (l.take k) := by
  rcases h with ⟨rfl, a, c, hv, hc, hn⟩ | ⟨g, off, cap, hv, hg, h1, h2, hcell⟩
  · cases hv
    have : k = 0 := by simpa using hk
    subst this
    exact .nil _ _ _ hc hn
  · cases hv
    have hl : (l.take k).length = k := by simp; omega
    refine .inr ⟨g, off, c, by rw [hl], hg, by omega, h2, fun i hi => ?_⟩
    rw [hl] at hi
    have e : (l.take k).getD i (false, []) = l.getD i (false, []) := by
      simp only [List.getD_eq_getElem?_getD]
      rw [List.getElem?_take, if_pos hi]
    rw [e]
    exact hcell i (by omega)
theorem LstP.drop {w : World} {g off n c k : Nat} {l : List E} (h : LstP w (.slice (some ⟨g, off, none⟩) n c) l) (hn : l.length = n) (hk : k < n) : LstP w (.slice (some ⟨g, off + k * 2, none⟩) (n - k) (c - k)) (l.drop k) := by
  rcases h with ⟨rfl, _⟩ | ⟨g', off', cap, hv, hg, h1, h2, hc⟩
  · simp at hn; omega
  · cases hv
    have hl : (l.drop k).length = l.length - k := by simp
    refine .inr ⟨g, off + k * 2, c - k, by rw [hl], hg, by omega, by unfold maxLen at *; omega, fun i hi => ?_⟩
    rw [hl] at hi
    have e : (l.drop k).getD i (false, []) = l.getD (k + i) (false, []) := by
      simp only [List.getD_eq_getElem?_getD, List.getElem?_drop]
    rw [e, show off + k * 2 + i * 2 = off + (k + i) * 2 from by omega]
    exact hc (k + i) (by omega)
/-- The three ways in which a list's rest may lie. -/
theorem LstP.rest {w : World} {a : Option Addr} {n c z : Nat} {l : List E} (h : LstP w (.slice a n c) l) (hn : l.length = n) (hz : z ≤ n) :
    (∃ g off, a = some ⟨g, off, none⟩ ∧ z < n ∧ n ≤ c ∧ c ≤ 9223372036854775807 ∧ LstP w (.slice (some ⟨g, off + z * 2, none⟩) (n - z) (c - z)) (l.drop z)) ∨
    (z = n ∧ c = n ∧ l.drop z = []) ∨ (∃ ad, a = some ad ∧ z = n ∧ n < c ∧ c ≤ 9223372036854775807 ∧ l.drop z = []) := by
  by_cases hlt : z < n
  · obtain ⟨g, off, cap, hv, hg, h1, h2, _⟩ := h.cellOf hn hlt
    cases hv
    exact .inl ⟨g, off, rfl, hlt, h1, by unfold maxLen at h2; omega, h.drop hn hlt⟩
  · have he : l.drop z = [] := List.drop_eq_nil_of_le (by omega)
    have hc := h.form0 hn
    obtain ⟨_, _, hv, h1, h2⟩ := hc
    cases hv
    unfold maxLen at h2
    by_cases hcn : c = n
    · exact .inr (.inl ⟨by omega, hcn, he⟩)
    · refine .inr (.inr ?_)
      cases a with
      | some ad => exact ⟨ad, rfl, by omega, by omega, by omega, he⟩
      | none =>
        rcases h with ⟨rfl, _, _, hv2, _, hn2⟩ | ⟨_, _, _, hv2, _⟩
        · cases hv2
          have := hn2 rfl
          omega
        · cases hv2

/-- Such a list that the call itself has made, from block B on. -/
def OwnE (T : TypeId) (w : World) (B : Nat) (v : Value) (l : List E) : Prop := w.ownsRow B T 2 v l.length (flat l)
theorem OwnE.nil (T : TypeId) (w : World) (B : Nat) : OwnE T w B (.slice none 0 0) [] := World.ownsRow_nil w B T 2
theorem OwnE.mono {T : TypeId} {w : World} {B B' : Nat} {v : Value} {l : List E} (h : OwnE T w B v l) (hB : B' ≤ B) : OwnE T w B' v l := by
  obtain ⟨h1, h2⟩ := h
  refine ⟨h1, ?_⟩
  rcases h2 with h2 | ⟨g, cap, cur, hv, hg, r⟩
  · exact .inl h2
  · exact .inr ⟨g, cap, cur, hv, by omega, r⟩
theorem OwnE.same {T : TypeId} {w w' : World} {B : Nat} {v : Value} {l : List E} (h : OwnE T w B v l) (hs : ∀ g, v.ownBlock = some g → w'.heap[g]? = w.heap[g]?) : OwnE T w' B v l := by
  obtain ⟨h1, h2⟩ := h
  refine ⟨h1, ?_⟩
  rcases h2 with h2 | ⟨g, cap, cur, hv, hg, hh, r⟩
  · exact .inl h2
  · exact .inr ⟨g, cap, cur, hv, hg, by rw [hs g (by rw [hv]; rfl)]; exact hh, r⟩
theorem OwnE.lt {T : TypeId} {w : World} {B : Nat} {v : Value} {l : List E} (h : OwnE T w B v l) : ∀ g, v.ownBlock = some g → B ≤ g ∧ g < w.heap.size := World.ownsRow.lt h
theorem OwnE.q {T : TypeId} {w w' : World} {B : Nat} {v : Value} {l : List E} (h : OwnE T w B v l) (hq : Q w w') : OwnE T w' B v l := h.same fun g hg => hq.block (h.lt g hg).2
theorem OwnE.lst {T : TypeId} {w : World} {B : Nat} {v : Value} {l : List E} (h : OwnE T w B v l) : LstP w v l := by
  rcases h.2 with ⟨hv, hn⟩ | ⟨g, cap, cur, hv, _, hh, hnc, hcm, hcs, ht⟩
  · have : l = [] := List.eq_nil_of_length_eq_zero hn
    subst this; subst hv
    exact .nil _ _ _ (by unfold maxLen; omega) (fun _ => rfl)
  · refine .inr ⟨g, 0, cap, hv, (Array.getElem?_eq_some_iff.1 hh).1, hnc, hcm, fun i hi => ⟨?_, ?_⟩⟩
    · rw [cell_of_row w g (0 + i * 2) cur T (0, 0) hh]
      have h1 := congrArg (fun x => x[i * 2]?) ht
      rw [List.getElem?_take, if_pos (by omega), (flat_get l i hi).1] at h1
      rw [Nat.zero_add, ← Array.getElem?_toList, h1]
    · rw [cell_of_row w g (0 + i * 2 + 1) cur T (0, 0) hh]
      have h1 := congrArg (fun x => x[i * 2 + 1]?) ht
      rw [List.getElem?_take, if_pos (by omega), (flat_get l i hi).2] at h1
      rw [Nat.zero_add, ← Array.getElem?_toList, h1]
/-- A list in the call's own blocks, wherever it lies there. -/
def New (w : World) (B : Nat) (v : Value) (l : List E) : Prop := LstP w v l ∧ ∀ a n c, v = .slice (some a) n c → n ≠ 0 → B ≤ a.block
theorem New.q {w w' : World} {B : Nat} {v : Value} {l : List E} (h : New w B v l) (hq : Q w w') : New w' B v l := ⟨h.1.q hq, h.2⟩
theorem New.mono {w : World} {B B' : Nat} {v : Value} {l : List E} (h : New w B v l) (hB : B' ≤ B) : New w B' v l := ⟨h.1, fun a n c e k => Nat.le_trans hB (h.2 a n c e k)⟩
theorem OwnE.new {T : TypeId} {w : World} {B : Nat} {v : Value} {l : List E} (h : OwnE T w B v l) : New w B v l := by
  refine ⟨h.lst, fun a n c e _ => ?_⟩
  rcases h.2 with ⟨hv, _⟩ | ⟨g, cap, cur, hv, hg, _⟩
  · rw [hv] at e; cases e
  · rw [hv] at e; cases e; exact hg

/-- What the elements' type tells. -/
structure El (T ST : TypeId) : Prop where
  info : (Tryz.prog.info? T).map (fun i => (i.zero, i.size, i.bytes)) = some (some (.agg #[.bool false, .string ByteArray.empty]), 2, 24)
  under : Tryz.prog.underlying ST = some (.slice T)

/-- One element more. -/
theorem push {T ST : TypeId} (he : El T ST) {w : World} {B : Nat} {v : Value} {l : List E} (hown : OwnE T w B v l) {ops : Array Oper} {rest : List Oper} {o : Oper} {a : Act} {R : Exit → Act → World → Prop} (hgd : o.guard = none) (s x : Operand)
    (ho : o.op = .call { callee := .builtin .append, args := #[s, x], argTypes := #[ST, ST] })
    (p : Bool) (t : ByteArray) (hs : a.eval s = v) (hx : a.eval x = .slice (some ⟨w.heap.size, 0, none⟩) 1 1) (hlen : l.length < 1073741824) (hB : B ≤ w.heap.size)
    (h : ∀ v' w', OwnE T w' B v' (l ++ [(p, t.data.toList)]) → w.grownBy w' v.ownBlock → (v'.ownBlock = v.ownBlock ∨ v'.ownBlock = some (w.heap.size + 1)) → wpList Tryz.prog ops R rest (a.put o.dst v') w') :
    wpList Tryz.prog ops R (o :: rest) a (w.alloc (.cells #[.bool p, .string t] T)) := by
  obtain ⟨i0, hi, hz0, hz1, hz2⟩ := info_parts he.info
  refine wpList_append_own_at _ hgd s x ST ho B T i0 (.agg #[.bool false, .string ByteArray.empty]) 2 24 he.under hi hz0 hz1 hz2 rfl (by decide) v l.length _ hs (World.ownsRow.alloc hown _)
    ⟨w.heap.size, 0, none⟩ 1 1 [.bool p, .string t] hx rfl ?_ ?_ ?_ ?_ ?_ ?_
  · intro j u hj
    match j, hj with
    | 0, hj => simp at hj; subst hj; show World.cell? _ ⟨w.heap.size, 0 + 0, none⟩ = _; rw [World.cell?_alloc_at _ _ _ _ rfl]; rfl
    | 1, hj => simp at hj; subst hj; show World.cell? _ ⟨w.heap.size, 0 + 1, none⟩ = _; rw [World.cell?_alloc_at _ _ _ _ rfl]; rfl
  · intro u hu; simp at hu; rcases hu with rfl | rfl <;> rfl
  · unfold maxLen; omega
  · omega
  · simp; omega
  · intro v' w' hown' hg _ hat
    refine h v' w' ?_ ?_ ?_
    · unfold OwnE
      rw [List.length_append, flat_app]
      exact hown'
    · exact (World.grownBy_alloc w _ _).trans hg
    · simpa using hat
/-- A list behind a list of the call's own. -/
theorem pushl {T ST : TypeId} (he : El T ST) {w : World} {B : Nat} {v u : Value} {l k : List E} (hown : OwnE T w B v l) (hu : LstP w u k) {ops : Array Oper} {rest : List Oper} {o : Oper} {a : Act} {R : Exit → Act → World → Prop} (hgd : o.guard = none) (s x : Operand)
    (ho : o.op = .call { callee := .builtin .append, args := #[s, x], argTypes := #[ST, ST] })
    (hs : a.eval s = v) (hx : a.eval x = u) (hlen : l.length + k.length < 1073741824) (hB : B ≤ w.heap.size)
    (h : ∀ v' w', OwnE T w' B v' (l ++ k) → w.grownBy w' v.ownBlock → (v'.ownBlock = v.ownBlock ∨ v'.ownBlock = some w.heap.size) → wpList Tryz.prog ops R rest (a.put o.dst v') w') :
    wpList Tryz.prog ops R (o :: rest) a w := by
  obtain ⟨i0, hi, hz0, hz1, hz2⟩ := info_parts he.info
  have key : ∀ (ad : Addr) (m c : Nat), u = .slice (some ad) m c → k.length = m → (∀ j x, (flat k)[j]? = some x → w.cell? (ad.add j) = some x) → wpList Tryz.prog ops R (o :: rest) a w := by
    intro ad m c hu hm hc
    subst hu; subst hm
    refine wpList_append_own_at _ hgd s x ST ho B T i0 (.agg #[.bool false, .string ByteArray.empty]) 2 24 he.under hi hz0 hz1 hz2 rfl (by decide) v l.length _ hs hown
      ad k.length c (flat k) hx (by rw [flat_len]) hc (flat_one k) ?_ ?_ hB ?_
    · unfold maxLen; omega
    · omega
    · intro v' w' hown' hg _ hat
      refine h v' w' ?_ hg hat
      unfold OwnE
      rw [List.length_append, flat_app]
      exact hown'
  rcases hu with ⟨rfl, ad, c, rfl, hc, hn⟩ | ⟨g, off, cap, hv, hg, h1, h2, hc⟩
  · cases ad with
    | none =>
      obtain rfl := hn rfl
      refine wpList_append_own_none hgd s x ST ho B T i0 2 he.under hi v l.length _ hs hown hx ?_
      exact h v w (by rw [List.append_nil]; exact hown) ⟨rfl, rfl, rfl, Nat.le_refl _, fun _ _ _ => rfl⟩ (.inl rfl)
    | some ad => exact key ad 0 c rfl rfl (by simp [flat])
  · refine key ⟨g, off, none⟩ k.length cap hv rfl fun j x hj => ?_
    have hjl : j < k.length * 2 := by
      have := (List.getElem?_eq_some_iff.1 hj).1
      rwa [flat_len] at this
    have hadd : (⟨g, off, none⟩ : Addr).add j = ⟨g, off + j, none⟩ := by unfold Addr.add; split <;> simp_all
    obtain ⟨i, hi⟩ : ∃ i, i = j / 2 := ⟨_, rfl⟩
    have hik : i < k.length := by omega
    obtain ⟨f1, f2⟩ := flat_get k i hik
    obtain ⟨c1, c2⟩ := hc i hik
    rw [hadd]
    rcases (show j = i * 2 ∨ j = i * 2 + 1 from by omega) with hj2 | hj2
    · rw [hj2] at hj ⊢
      rw [f1] at hj
      rw [c1]; exact hj
    · rw [hj2] at hj ⊢
      rw [f2] at hj
      rw [← Nat.add_assoc, c2]; exact hj

end Pb
end Go.Proofs.YtglljkbpdbnhaaaGreatDoor

set_option linter.unusedVariables false
set_option linter.unusedSimpArgs false
namespace Go.Proofs.YtglljkbpdbnhaaaGreatDoor
open Go.RowKit Go.Shelf

/-- The blocks of a set stand. -/
structure Stand (S : Nat → Prop) (A A' : World) : Prop where
  size : A.heap.size ≤ A'.heap.size
  block : ∀ k, k < A.heap.size → S k → A'.heap[k]? = A.heap[k]?
theorem Stand.refl (S : Nat → Prop) (A : World) : Stand S A A := ⟨Nat.le_refl _, fun _ _ _ => rfl⟩
theorem Stand.trans {S : Nat → Prop} {A B C : World} (h : Stand S A B) (k : Stand S B C) : Stand S A C :=
  ⟨Nat.le_trans h.size k.size, fun i hi hs => (k.block i (Nat.lt_of_lt_of_le hi h.size) hs).trans (h.block i hi hs)⟩
theorem Stand.mono {S T : Nat → Prop} {A B : World} (h : Stand S A B) (ht : ∀ k, T k → S k) : Stand T A B := ⟨h.size, fun k hk hs => h.block k hk (ht k hs)⟩
theorem Q.stand {A B : World} (h : Q A B) (S : Nat → Prop) : Stand S A B := ⟨h.size, fun k hk _ => h.block hk⟩
theorem Stand.putObj (S : Nat → Prop) (A : World) (l : Nat) (o : Obj) (hl : ¬ S l) : Stand S A (A.putObj l o) :=
  ⟨by simp, fun k hk hs => World.putObj_heap_other (fun e => hl (e ▸ hs))⟩
theorem Stand.setCell (S : Nat → Prop) (A : World) (b o : Nat) (v : Value) (hb : ¬ S b) : Stand S A (A.setCell ⟨b, o, none⟩ v) :=
  ⟨by simp [World.setCell], fun k hk hs => Below.heap_setCell _ _ _ _ (by show k ≠ b; intro e; exact hb (e ▸ hs))⟩
theorem Stand.grown {S : Nat → Prop} {A B : World} {row : Option Nat} (hg : A.grownBy B row) (hr : ∀ k, row = some k → ¬ S k) : Stand S A B :=
  ⟨hg.size, fun k hk hs => hg.block k hk (fun e => hr k e.symm hs)⟩
theorem Stand.heap {S : Nat → Prop} {A B : World} (h : Stand S A B) {k : Nat} {o : Obj} (hs : S k) (ho : A.heap[k]? = some o) : B.heap[k]? = some o :=
  (h.block k (Array.getElem?_eq_some_iff.1 ho).1 hs).trans ho

/-- How a round's body may be left. -/
def roundPost2 {α : Type} (S : Nat → Prop) (I : List α → World → Prop) (Ix : Code → List α → World → Prop) (xs : List α) (W : World) : Exit → Act → World → Prop
  | .normal, _, W' => Stand S W W' ∧ I xs W'
  | .ret, _, W' => Stand S W W' ∧ Ix .ret xs W'
  | .exit id, _, W' => Stand S W W' ∧ Ix (.exit id) xs W'
  | .goto t, _, W' => Stand S W W' ∧ Ix (.goto t) xs W'
  | .panic _, _, _ => False
  | .outgrown, _, _ => False

/-- What an iterator's value does with whatever body: it is called in W, whose size is 'lo'; its own blocks are those from lo on and below hi; the set S is what a round must leave as it is. -/
def Iter {α : Type} (g : Nat) (lb : Array Value) (encs : α → Array Value) (lo hi : Nat) (S : Nat → Prop) (Pre All : List α → Prop) (W0 : World) : Prop :=
  ∀ (l : Nat) (J Jx : List α → World → Prop) (W : World), W.heap.size = lo → Q W0 W →
    (∀ s A A', J s A → Gap lo hi A A' → J s A') →
    (∀ pre x A, J pre A → hi ≤ A.heap.size → Pre (pre ++ [x]) → YieldAt Fence.wide 0 Tryz.prog l (encs x) A fun e A' =>
      (e = .returned (.bool true) ∧ J (pre ++ [x]) A' ∧ Stand S A A') ∨ (e = .returned (.bool false) ∧ Jx (pre ++ [x]) A')) →
    J [] W →
    CallsIn Fence.wide 0 Tryz.prog g (#[.func (.yield l) #[] #[]] ++ lb) W fun e W' => (∃ v, e = .returned v) ∧ ((∃ xs, All xs ∧ J xs W') ∨ (∃ pre, Pre pre ∧ Jx pre W'))

/-- The law for the one who ranges. -/
theorem range_any {α : Type} {g : Operand} {ps : Array Tmp} {assign body : Code} {R : Exit → Act → World → Prop} {a : Act} {w : World}
    {gf : Nat} {lb : Array Value} (hg : a.eval g = .func (.func gf) #[] lb) (eg : ∀ args w, (callFunc gf args).run Tryz.prog w = .ok (.enter gf args) w)
    {encs : α → Array Value} (hps : ∀ x, (encs x).size = ps.size) {hi : Nat} {S : Nat → Prop} {Pre All : List α → Prop}
    (hit : Iter gf lb encs (w.heap.size + 1 + 1) hi S Pre All w) (hS : ¬ S (w.heap.size + 1)) (hhi : w.heap.size + 1 < hi)
    (I : List α → World → Prop) (Ix : Code → List α → World → Prop)
    (hI : ∀ s A A', I s A → Gap w.heap.size hi A A' → I s A') (hIx : ∀ c s A A', Ix c s A → Gap w.heap.size hi A A' → Ix c s A') (h0 : I [] w) (a₁ : α → Act)
    (hassign : ∀ (l : Nat) (x : α) (W : World) (K : Act → World → Prop), K (a₁ x) W →
      assign.wpIn (Fence.wide.inRound l) 0 Tryz.prog (Exit.then K (fun _ _ _ => False)) { tmps := (ps.zip (encs x)).foldl (fun t (p, v) => t.setIfInBounds p v) a.tmps, defers := [] } W)
    (hbody : ∀ (l : Nat) (pre : List α) (x : α) (W : World), I pre W → hi ≤ W.heap.size → Pre (pre ++ [x]) →
      body.wpIn (Fence.wide.inRound l) 0 Tryz.prog (roundPost2 (fun k => S k ∨ k = w.heap.size ∨ k = w.heap.size + 1) I Ix (pre ++ [x]) W) (a₁ x) W)
    (hdone : ∀ (xs : List α) (W : World), All xs → I xs W → W.heap[w.heap.size]? = some (.deferred (some [])) → R .normal { a with defers := { target := .collected w.heap.size, args := #[] } :: a.defers } W)
    (hstop : ∀ (c : Code) (pre : List α) (W : World), Pre pre → Ix c pre W → W.heap[w.heap.size]? = some (.deferred (some [])) → c.wpIn Fence.wide 0 Tryz.prog R { a with defers := { target := .collected w.heap.size, args := #[] } :: a.defers } W) :
    (Code.rangeFunc g ps assign body).wpIn Fence.wide 0 Tryz.prog R a w := by
  refine wpIn_rangeFunc fun fn _ => ?_
  obtain ⟨rec, hrec⟩ : ∃ rec : LoopState → Option Code → Obj, rec = fun st pe => .loop { state := st, pending := pe, fn, tmps := a.tmps, params := ps, assign, body, defers := w.heap.size } := ⟨_, rfl⟩
  have hout := run_enterLoop_outer (P := Tryz.prog) (w := w) fn a.tmps ps assign body
  obtain ⟨W1, hW1⟩ : ∃ W1, W1 = (w.alloc (.deferred (some []))).alloc (rec .ready none) := ⟨_, rfl⟩
  have hq1 : Q w W1 := by rw [hW1]; exact ((Q.refl w).alloc _).alloc _
  have hz1 : W1.heap.size = w.heap.size + 1 + 1 := by rw [hW1]; simp
  have hl1 : W1.heap[w.heap.size + 1]? = some (rec .ready none) := by
    rw [hW1]; have := World.alloc_heap_new (w.alloc (.deferred (some []))) (rec .ready none); rwa [World.size_alloc] at this
  have hd1 : W1.heap[w.heap.size]? = some (.deferred (some [])) := by
    rw [hW1]; exact (Below.heap_alloc _ _ _ (by simp)).trans (World.alloc_heap_new w _)
  have turn : ∀ (A : World) (o : Obj), Gap w.heap.size hi A (A.putObj (w.heap.size + 1) o) := fun A o => Gap.putObj A _ o _ _ (by omega) hhi
  refine ⟨w.heap.size + 1, [{ target := .collected w.heap.size, args := #[] }], W1, { target := .fn (.func gf) lb, args := #[.func (.yield (w.heap.size + 1)) #[] #[]] }, W1, gf,
    #[.func (.yield (w.heap.size + 1)) #[] #[]] ++ lb, W1, ?_, ?_, (fun _ _ => trivial), ?_, (fun h => nomatch h), ?_⟩
  · rw [hW1, hrec]; exact hout
  · simp only [resolve, hg]
    simp [go_sem]
  · simp [invoke, go_sem, eg]
  · refine (hit (w.heap.size + 1)
      (fun pre W => I pre W ∧ W.heap[w.heap.size + 1]? = some (rec .ready none) ∧ W.heap[w.heap.size]? = some (.deferred (some [])))
      (fun pre W => ∃ c, Ix c pre W ∧ W.heap[w.heap.size + 1]? = some (rec .done (some c)) ∧ W.heap[w.heap.size]? = some (.deferred (some [])))
      W1 hz1 hq1 ?_ ?_ ⟨hI _ _ _ h0 (hq1.gap _ _), hl1, hd1⟩).mono ?_
    · rintro s A A' ⟨h1, h2, h3⟩ hgap
      exact ⟨hI _ _ _ h1 (hgap.mono (by omega) (Nat.le_refl _)), (hgap.block _ (Array.getElem?_eq_some_iff.1 h2).1 (.inl (by omega))).trans h2, (hgap.block _ (Array.getElem?_eq_some_iff.1 h3).1 (.inl (by omega))).trans h3⟩
    · rintro pre x A ⟨h1, h2, h3⟩ hz hpre
      have hlt := (Array.getElem?_eq_some_iff.1 h2).1
      rw [hrec] at h2
      have hy := run_yield (P := Tryz.prog) (args := encs x) h2 (hps x)
      refine ⟨fn, _, assign, body, hy, roundIn_of_wpIn trivial (hassign _ x A _ ⟨_, run_beginRound h2 rfl, ?_⟩)⟩
      have h4 := World.putObj_heap_same (w := A) (o := rec .busy none) hlt
      have h5 : (A.putObj (w.heap.size + 1) (rec .busy none)).heap[w.heap.size]? = some (.deferred (some [])) := (World.putObj_heap_other (by omega)).trans h3
      have hs := Stand.putObj S A (w.heap.size + 1) (rec .busy none) hS
      rw [hrec] at h4 h5 hs
      have hb := hbody (w.heap.size + 1) pre x _ (hI _ _ _ h1 (turn A (rec .busy none))) (by simpa using hz) hpre
      rw [hrec] at hb
      refine wpIn_mono hb ?_
      have fin : ∀ (jump : Option Code) (W3 : World), Stand (fun k => S k ∨ k = w.heap.size ∨ k = w.heap.size + 1) (A.putObj (w.heap.size + 1) (rec .busy none)) W3 →
          (Instr.endRound (w.heap.size + 1) jump).run Tryz.prog W3 = .ok (.bool jump.isNone) (W3.putObj (w.heap.size + 1) (rec (if jump.isNone then .ready else .done) jump)) ∧
          (W3.putObj (w.heap.size + 1) (rec (if jump.isNone then .ready else .done) jump)).heap[w.heap.size + 1]? = some (rec (if jump.isNone then .ready else .done) jump) ∧
          (W3.putObj (w.heap.size + 1) (rec (if jump.isNone then .ready else .done) jump)).heap[w.heap.size]? = some (.deferred (some [])) ∧
          Stand S A (W3.putObj (w.heap.size + 1) (rec (if jump.isNone then .ready else .done) jump)) := by
        intro jump W3 hk
        rw [hrec] at hk ⊢
        have h6 := hk.heap (.inr (.inr rfl)) h4
        have h7 := hk.heap (.inr (.inl rfl)) h5
        exact ⟨run_endRound (P := Tryz.prog) jump h6, World.putObj_heap_same (Array.getElem?_eq_some_iff.1 h6).1, (World.putObj_heap_other (by omega)).trans h7,
          (hs.trans (hk.mono fun k h => .inl h)).trans (Stand.putObj S _ _ _ hS)⟩
      rw [hrec] at fin
      rw [hrec]
      intro e a3 W3 hp
      cases e with
      | normal =>
        obtain ⟨hk, hi3⟩ := hp
        obtain ⟨f1, f2, f3, f4⟩ := fin none W3 hk
        exact ⟨_, _, f1, .inl ⟨rfl, ⟨hI _ _ _ hi3 (turn _ _), f2, f3⟩, f4⟩⟩
      | ret =>
        obtain ⟨hk, hi3⟩ := hp
        obtain ⟨f1, f2, f3, f4⟩ := fin (some .ret) W3 hk
        exact ⟨_, _, f1, .inr ⟨rfl, _, hIx _ _ _ _ hi3 (turn _ _), f2, f3⟩⟩
      | exit id =>
        obtain ⟨hk, hi3⟩ := hp
        obtain ⟨f1, f2, f3, f4⟩ := fin (some (.exit id)) W3 hk
        exact ⟨_, _, f1, .inr ⟨rfl, _, hIx _ _ _ _ hi3 (turn _ _), f2, f3⟩⟩
      | goto t =>
        obtain ⟨hk, hi3⟩ := hp
        obtain ⟨f1, f2, f3, f4⟩ := fin (some (.goto t)) W3 hk
        exact ⟨_, _, f1, .inr ⟨rfl, _, hIx _ _ _ _ hi3 (turn _ _), f2, f3⟩⟩
      | panic ch => exact hp.elim
      | outgrown => exact hp.elim
    · rw [hrec]
      rintro e W2 ⟨⟨v, rfl⟩, (⟨xs, hall, h1, h2, h3⟩ | ⟨pre, hpre, c, h1, h2, h3⟩)⟩
      · exact ⟨none, _, run_endLoop (P := Tryz.prog) h2 (by simp), hdone xs _ hall (hI _ _ _ h1 (turn _ _)) ((World.putObj_heap_other (by omega)).trans h3)⟩
      · exact ⟨some c, _, run_endLoop (P := Tryz.prog) h2 (by simp), hstop c pre _ hpre (hIx _ _ _ _ h1 (turn _ _)) ((World.putObj_heap_other (by omega)).trans h3)⟩

/-- What was there stands, where the gap begins behind it. -/
theorem Q.gapped {a A B : World} {lo hi : Nat} (h : Q a A) (hg : Gap lo hi A B) (hl : a.heap.size ≤ lo) : Q a B :=
  Below.trans h ⟨hg.os, hg.tape, hg.output, hg.size, fun k hk => hg.block k (Nat.lt_of_lt_of_le hk h.size) (.inl (by omega))⟩
theorem Own.base {w : World} {B : Nat} {v : Value} {zs : List Int} (h : Own w B v zs) {lo hi : Nat} (hb : hi ≤ B) : ∀ g, v.ownBlock = some g → g < lo ∨ hi ≤ g := fun g hg => .inr (Nat.le_trans hb (h.lt g hg).1)
theorem box_not_own {W : World} {B b : Nat} {t : TypeId} {u v : Value} {zs : List Int} (h : Boxed W b t u) (ho : Own W B v zs) (ht : t ≠ 3) : some b ≠ v.ownBlock := by
  intro e
  obtain ⟨cur, hc⟩ := ho.cells b e.symm
  have := (show W.heap[b]? = _ from h).symm.trans hc
  simp at this
  exact ht this.2

/-- One number more, behind a list of the call's own, in a fence. -/
theorem push_in {F : Fence} {n : Nat} {w : World} {B : Nat} {v : Value} {zs : List Int} (hown : Own w B v zs) {ops : Array Oper} {rest : List Oper} {o : Oper} {a : Act} {R : Exit → Act → World → Prop} (hgd : o.guard = none) (s x : Operand)
    (ho : o.op = .call { callee := .builtin .append, args := #[s, x], argTypes := #[127, 127] })
    (m : Int) (hs : a.eval s = v) (hx : a.eval x = .slice (some ⟨w.heap.size, 0, none⟩) 1 1) (hlen : zs.length < 1099511627776) (hB : B ≤ w.heap.size)
    (h : ∀ g c w', Own w' B (.slice (some ⟨g, 0, none⟩) (zs.length + 1) c) (zs ++ [m]) → w.grownBy w' v.ownBlock → wpListIn F n Tryz.prog ops R rest (a.put o.dst (.slice (some ⟨g, 0, none⟩) (zs.length + 1) c)) w') :
    wpListIn F n Tryz.prog ops R (o :: rest) a (w.alloc (.cells #[.int .i64 m] 3)) := by
  obtain ⟨i0, hi, hz0, hz1, hz2⟩ := info_parts infoInt
  refine wpListIn_append_own _ hgd s x 127 ho B 3 i0 (.int .i64 0) 1 8 Tryz.underlying127 hi hz0 hz1 hz2 rfl (by decide) v zs.length _ hs (World.ownsRow.alloc hown _)
    ⟨w.heap.size, 0, none⟩ 1 1 [.int .i64 m] hx rfl (cell_one_new _ _ _) ?_ ?_ ?_ ?_ ?_
  · intro u hu; simp at hu; subst hu; rfl
  · unfold maxLen; omega
  · omega
  · simp; omega
  · intro v' w' hown' hg _
    obtain ⟨g, c, rfl⟩ := ownsRow_succ hown'
    refine h g c w' ?_ ((World.grownBy_alloc w _ _).trans hg)
    have e1 : (zs ++ [m]).length = zs.length + 1 := by simp
    unfold Own
    rw [e1, List.map_append]
    exact hown'

end Go.Proofs.YtglljkbpdbnhaaaGreatDoor

set_option linter.unusedVariables false
set_option linter.unusedSimpArgs false
namespace Go.Proofs.YtglljkbpdbnhaaaGreatDoor
open Go.RowKit
namespace Sg

abbrev E := Int × Int
@[reducible] def txt (l : Int) : Value := .int .i64 l
def flat (l : List E) : List Value := l.flatMap fun p => [.int .i64 p.1, txt p.2]
theorem flat_cons (p : E) (l : List E) : flat (p :: l) = .int .i64 p.1 :: txt p.2 :: flat l := by simp [flat]
theorem flat_len (l : List E) : (flat l).length = l.length * 2 := by
  induction l with
  | nil => rfl
  | cons p l ih => rw [flat_cons]; simp [ih]; omega
theorem flat_app (a b : List E) : flat (a ++ b) = flat a ++ flat b := by simp [flat]
theorem flat_get (l : List E) (i : Nat) (h : i < l.length) : (flat l)[i * 2]? = some (.int .i64 (l.getD i (0, 0)).1) ∧ (flat l)[i * 2 + 1]? = some (txt (l.getD i (0, 0)).2) := by
  induction l generalizing i with
  | nil => simp at h
  | cons p l ih =>
    cases i with
    | zero => rw [flat_cons]; simp
    | succ i =>
      have := ih i (by simpa using h)
      rw [flat_cons, show (i + 1) * 2 = i * 2 + 1 + 1 from by omega]
      simpa using this
theorem flat_one (l : List E) : ∀ u ∈ flat l, u.oneCell' = true := by
  intro u hu
  obtain ⟨p, _, hp⟩ := List.mem_flatMap.1 hu
  simp only [List.mem_cons, List.not_mem_nil, or_false] at hp
  rcases hp with rfl | rfl <;> rfl

/-- A value that reads as such a list. -/
def LstP (w : World) (v : Value) (l : List E) : Prop :=
  (l = [] ∧ ∃ a c, v = .slice a 0 c ∧ c ≤ maxLen ∧ (a = none → c = 0)) ∨
  ∃ g off cap, v = .slice (some ⟨g, off, none⟩) l.length cap ∧ g < w.heap.size ∧ l.length ≤ cap ∧ cap ≤ maxLen ∧ ∀ i, i < l.length → w.cell? ⟨g, off + i * 2, none⟩ = some (.int .i64 (l.getD i (0, 0)).1) ∧ w.cell? ⟨g, off + i * 2 + 1, none⟩ = some (txt (l.getD i (0, 0)).2)
theorem LstP.nil (w : World) (a : Option Addr) (c : Nat) (hc : c ≤ maxLen) (hn : a = none → c = 0) : LstP w (.slice a 0 c) [] := .inl ⟨rfl, a, c, rfl, hc, hn⟩
theorem LstP.q {w w' : World} {v : Value} {l : List E} (h : LstP w v l) (hq : Q w w') : LstP w' v l := by
  rcases h with h | ⟨g, off, cap, hv, hg, h1, h2, hc⟩
  · exact .inl h
  · refine .inr ⟨g, off, cap, hv, Nat.lt_of_lt_of_le hg hq.le, h1, h2, fun i hi => ?_⟩
    obtain ⟨c1, c2⟩ := hc i hi
    exact ⟨(World.cell?_of_block (w := w) (hq.block hg)).trans c1, (World.cell?_of_block (w := w) (hq.block hg)).trans c2⟩
theorem LstP.shape2 {w : World} {v : Value} {l : List E} (h : LstP w v l) : ∃ a c, v = .slice a l.length c ∧ l.length ≤ c ∧ c ≤ maxLen := by
  rcases h with ⟨rfl, a, c, rfl, hc, _⟩ | ⟨g, off, cap, hv, _, h1, h2, _⟩
  · exact ⟨a, c, rfl, Nat.zero_le _, hc⟩
  · exact ⟨_, _, hv, h1, h2⟩
theorem LstP.form0 {w : World} {v : Value} {l : List E} {n : Nat} (h : LstP w v l) (hn : l.length = n) : ∃ a c, v = .slice a n c ∧ n ≤ c ∧ c ≤ maxLen := by
  subst hn; exact h.shape2
theorem LstP.shape {w : World} {v : Value} {l : List E} (h : LstP w v l) : ∃ a c, v = .slice a l.length c := by
  obtain ⟨a, c, hv, _⟩ := h.shape2
  exact ⟨a, c, hv⟩
theorem LstP.cellOf {w : World} {v : Value} {l : List E} {n k : Nat} (h : LstP w v l) (hn : l.length = n) (hk : k < n) :
    ∃ g off cap, v = .slice (some ⟨g, off, none⟩) n cap ∧ g < w.heap.size ∧ n ≤ cap ∧ cap ≤ maxLen ∧ w.cell? ⟨g, off + k * 2, none⟩ = some (.int .i64 (l.getD k (0, 0)).1) ∧ w.cell? ⟨g, off + k * 2 + 1, none⟩ = some (txt (l.getD k (0, 0)).2) := by
  rcases h with ⟨rfl, _⟩ | ⟨g, off, cap, hv, hg, h1, h2, hc⟩
  · simp at hn; omega
  · rw [hn] at hv h1 hc
    exact ⟨g, off, cap, hv, hg, h1, h2, (hc k hk).1, (hc k hk).2⟩
theorem LstP.take {w : World} {a : Option Addr} {n c : Nat} {l : List E} (h : LstP w (.slice a n c) l) (k : Nat) (hk : k ≤ l.length) : LstP w (.slice a k c) (l.take k) := by
  rcases h with ⟨rfl, a, c, hv, hc, hn⟩ | ⟨g, off, cap, hv, hg, h1, h2, hcell⟩
  · cases hv
    have : k = 0 := by simpa using hk
    subst this
    exact .nil _ _ _ hc hn
  · cases hv
    have hl : (l.take k).length = k := by simp; omega
    refine .inr ⟨g, off, c, by rw [hl], hg, by omega, h2, fun i hi => ?_⟩
    rw [hl] at hi
    have e : (l.take k).getD i (0, 0) = l.getD i (0, 0) := by
      simp only [List.getD_eq_getElem?_getD]
      rw [List.getElem?_take, if_pos hi]
    rw [e]
    exact hcell i (by omega)
theorem LstP.drop {w : World} {g off n c k : Nat} {l : List E} (h : LstP w (.slice (some ⟨g, off, none⟩) n c) l) (hn : l.length = n) (hk : k < n) : LstP w (.slice (some ⟨g, off + k * 2, none⟩) (n - k) (c - k)) (l.drop k) := by
  rcases h with ⟨rfl, _⟩ | ⟨g', off', cap, hv, hg, h1, h2, hc⟩
  · simp at hn; omega
  · cases hv
    have hl : (l.drop k).length = l.length - k := by simp
    refine .inr ⟨g, off + k * 2, c - k, by rw [hl], hg, by omega, by unfold maxLen at *; omega, fun i hi => ?_⟩
    rw [hl] at hi
    have e : (l.drop k).getD i (0, 0) = l.getD (k + i) (0, 0) := by
      simp only [List.getD_eq_getElem?_getD, List.getElem?_drop]
    rw [e, show off + k * 2 + i * 2 = off + (k + i) * 2 from by omega]
    exact hc (k + i) (by omega)
/-- The three ways in which a list's rest may lie. -/
theorem LstP.rest {w : World} {a : Option Addr} {n c z : Nat} {l : List E} (h : LstP w (.slice a n c) l) (hn : l.length = n) (hz : z ≤ n) :
    (∃ g off, a = some ⟨g, off, none⟩ ∧ z < n ∧ n ≤ c ∧ c ≤ 9223372036854775807 ∧ LstP w (.slice (some ⟨g, off + z * 2, none⟩) (n - z) (c - z)) (l.drop z)) ∨
    (z = n ∧ c = n ∧ l.drop z = []) ∨ (∃ ad, a = some ad ∧ z = n ∧ n < c ∧ c ≤ 9223372036854775807 ∧ l.drop z = []) := by
  by_cases hlt : z < n
  · obtain ⟨g, off, cap, hv, hg, h1, h2, _⟩ := h.cellOf hn hlt
    cases hv
    exact .inl ⟨g, off, rfl, hlt, h1, by unfold maxLen at h2; omega, h.drop hn hlt⟩
  · have he : l.drop z = [] := List.drop_eq_nil_of_le (by omega)
    have hc := h.form0 hn
    obtain ⟨_, _, hv, h1, h2⟩ := hc
    cases hv
    unfold maxLen at h2
    by_cases hcn : c = n
    · exact .inr (.inl ⟨by omega, hcn, he⟩)
    · refine .inr (.inr ?_)
      cases a with
      | some ad => exact ⟨ad, rfl, by omega, by omega, by omega, he⟩
      | none =>
        rcases h with ⟨rfl, _, _, hv2, _, hn2⟩ | ⟨_, _, _, hv2, _⟩
        · cases hv2
          have := hn2 rfl
          omega
        · cases hv2

/-- Such a list that the call itself has made, from block B on. -/
def OwnE (T : TypeId) (w : World) (B : Nat) (v : Value) (l : List E) : Prop := w.ownsRow B T 2 v l.length (flat l)
theorem OwnE.nil (T : TypeId) (w : World) (B : Nat) : OwnE T w B (.slice none 0 0) [] := World.ownsRow_nil w B T 2
theorem OwnE.mono {T : TypeId} {w : World} {B B' : Nat} {v : Value} {l : List E} (h : OwnE T w B v l) (hB : B' ≤ B) : OwnE T w B' v l := by
  obtain ⟨h1, h2⟩ := h
  refine ⟨h1, ?_⟩
  rcases h2 with h2 | ⟨g, cap, cur, hv, hg, r⟩
  · exact .inl h2
  · exact .inr ⟨g, cap, cur, hv, by omega, r⟩
theorem OwnE.same {T : TypeId} {w w' : World} {B : Nat} {v : Value} {l : List E} (h : OwnE T w B v l) (hs : ∀ g, v.ownBlock = some g → w'.heap[g]? = w.heap[g]?) : OwnE T w' B v l := by
  obtain ⟨h1, h2⟩ := h
  refine ⟨h1, ?_⟩
  rcases h2 with h2 | ⟨g, cap, cur, hv, hg, hh, r⟩
  · exact .inl h2
  · exact .inr ⟨g, cap, cur, hv, hg, by rw [hs g (by rw [hv]; rfl)]; exact hh, r⟩
theorem OwnE.lt {T : TypeId} {w : World} {B : Nat} {v : Value} {l : List E} (h : OwnE T w B v l) : ∀ g, v.ownBlock = some g → B ≤ g ∧ g < w.heap.size := World.ownsRow.lt h
theorem OwnE.q {T : TypeId} {w w' : World} {B : Nat} {v : Value} {l : List E} (h : OwnE T w B v l) (hq : Q w w') : OwnE T w' B v l := h.same fun g hg => hq.block (h.lt g hg).2
theorem OwnE.lst {T : TypeId} {w : World} {B : Nat} {v : Value} {l : List E} (h : OwnE T w B v l) : LstP w v l := by
  rcases h.2 with ⟨hv, hn⟩ | ⟨g, cap, cur, hv, _, hh, hnc, hcm, hcs, ht⟩
  · have : l = [] := List.eq_nil_of_length_eq_zero hn
    subst this; subst hv
    exact .nil _ _ _ (by unfold maxLen; omega) (fun _ => rfl)
  · refine .inr ⟨g, 0, cap, hv, (Array.getElem?_eq_some_iff.1 hh).1, hnc, hcm, fun i hi => ⟨?_, ?_⟩⟩
    · rw [cell_of_row w g (0 + i * 2) cur T (0, 0) hh]
      have h1 := congrArg (fun x => x[i * 2]?) ht
      rw [List.getElem?_take, if_pos (by omega), (flat_get l i hi).1] at h1
      rw [Nat.zero_add, ← Array.getElem?_toList, h1]
    · rw [cell_of_row w g (0 + i * 2 + 1) cur T (0, 0) hh]
      have h1 := congrArg (fun x => x[i * 2 + 1]?) ht
      rw [List.getElem?_take, if_pos (by omega), (flat_get l i hi).2] at h1
      rw [Nat.zero_add, ← Array.getElem?_toList, h1]
/-- A list in the call's own blocks, wherever it lies there. -/
def New (w : World) (B : Nat) (v : Value) (l : List E) : Prop := LstP w v l ∧ ∀ a n c, v = .slice (some a) n c → n ≠ 0 → B ≤ a.block
theorem New.q {w w' : World} {B : Nat} {v : Value} {l : List E} (h : New w B v l) (hq : Q w w') : New w' B v l := ⟨h.1.q hq, h.2⟩
theorem New.mono {w : World} {B B' : Nat} {v : Value} {l : List E} (h : New w B v l) (hB : B' ≤ B) : New w B' v l := ⟨h.1, fun a n c e k => Nat.le_trans hB (h.2 a n c e k)⟩
theorem OwnE.new {T : TypeId} {w : World} {B : Nat} {v : Value} {l : List E} (h : OwnE T w B v l) : New w B v l := by
  refine ⟨h.lst, fun a n c e _ => ?_⟩
  rcases h.2 with ⟨hv, _⟩ | ⟨g, cap, cur, hv, hg, _⟩
  · rw [hv] at e; cases e
  · rw [hv] at e; cases e; exact hg

/-- What the elements' type tells. -/
structure El (T ST : TypeId) : Prop where
  info : (Tryz.prog.info? T).map (fun i => (i.zero, i.size, i.bytes)) = some (some (.agg #[.int .i64 0, .int .i64 0]), 2, 16)
  under : Tryz.prog.underlying ST = some (.slice T)

/-- One element more. -/
theorem push {T ST : TypeId} (he : El T ST) {w : World} {B : Nat} {v : Value} {l : List E} (hown : OwnE T w B v l) {ops : Array Oper} {rest : List Oper} {o : Oper} {a : Act} {R : Exit → Act → World → Prop} (hgd : o.guard = none) (s x : Operand)
    (ho : o.op = .call { callee := .builtin .append, args := #[s, x], argTypes := #[ST, ST] })
    (p : Int) (t : Int) (hs : a.eval s = v) (hx : a.eval x = .slice (some ⟨w.heap.size, 0, none⟩) 1 1) (hlen : l.length < 1073741824) (hB : B ≤ w.heap.size)
    (h : ∀ v' w', OwnE T w' B v' (l ++ [(p, t)]) → w.grownBy w' v.ownBlock → (v'.ownBlock = v.ownBlock ∨ v'.ownBlock = some (w.heap.size + 1)) → wpList Tryz.prog ops R rest (a.put o.dst v') w') :
    wpList Tryz.prog ops R (o :: rest) a (w.alloc (.cells #[.int .i64 p, .int .i64 t] T)) := by
  obtain ⟨i0, hi, hz0, hz1, hz2⟩ := info_parts he.info
  refine wpList_append_own_at _ hgd s x ST ho B T i0 (.agg #[.int .i64 0, .int .i64 0]) 2 16 he.under hi hz0 hz1 hz2 rfl (by decide) v l.length _ hs (World.ownsRow.alloc hown _)
    ⟨w.heap.size, 0, none⟩ 1 1 [.int .i64 p, .int .i64 t] hx rfl ?_ ?_ ?_ ?_ ?_ ?_
  · intro j u hj
    match j, hj with
    | 0, hj => simp at hj; subst hj; show World.cell? _ ⟨w.heap.size, 0 + 0, none⟩ = _; rw [World.cell?_alloc_at _ _ _ _ rfl]; rfl
    | 1, hj => simp at hj; subst hj; show World.cell? _ ⟨w.heap.size, 0 + 1, none⟩ = _; rw [World.cell?_alloc_at _ _ _ _ rfl]; rfl
  · intro u hu; simp at hu; rcases hu with rfl | rfl <;> rfl
  · unfold maxLen; omega
  · omega
  · simp; omega
  · intro v' w' hown' hg _ hat
    refine h v' w' ?_ ?_ ?_
    · unfold OwnE
      rw [List.length_append, flat_app]
      exact hown'
    · exact (World.grownBy_alloc w _ _).trans hg
    · simpa using hat
/-- A list behind a list of the call's own. -/
theorem pushl {T ST : TypeId} (he : El T ST) {w : World} {B : Nat} {v u : Value} {l k : List E} (hown : OwnE T w B v l) (hu : LstP w u k) {ops : Array Oper} {rest : List Oper} {o : Oper} {a : Act} {R : Exit → Act → World → Prop} (hgd : o.guard = none) (s x : Operand)
    (ho : o.op = .call { callee := .builtin .append, args := #[s, x], argTypes := #[ST, ST] })
    (hs : a.eval s = v) (hx : a.eval x = u) (hlen : l.length + k.length < 1073741824) (hB : B ≤ w.heap.size)
    (h : ∀ v' w', OwnE T w' B v' (l ++ k) → w.grownBy w' v.ownBlock → (v'.ownBlock = v.ownBlock ∨ v'.ownBlock = some w.heap.size) → wpList Tryz.prog ops R rest (a.put o.dst v') w') :
    wpList Tryz.prog ops R (o :: rest) a w := by
  obtain ⟨i0, hi, hz0, hz1, hz2⟩ := info_parts he.info
  have key : ∀ (ad : Addr) (m c : Nat), u = .slice (some ad) m c → k.length = m → (∀ j x, (flat k)[j]? = some x → w.cell? (ad.add j) = some x) → wpList Tryz.prog ops R (o :: rest) a w := by
    intro ad m c hu hm hc
    subst hu; subst hm
    refine wpList_append_own_at _ hgd s x ST ho B T i0 (.agg #[.int .i64 0, .int .i64 0]) 2 16 he.under hi hz0 hz1 hz2 rfl (by decide) v l.length _ hs hown
      ad k.length c (flat k) hx (by rw [flat_len]) hc (flat_one k) ?_ ?_ hB ?_
    · unfold maxLen; omega
    · omega
    · intro v' w' hown' hg _ hat
      refine h v' w' ?_ hg hat
      unfold OwnE
      rw [List.length_append, flat_app]
      exact hown'
  rcases hu with ⟨rfl, ad, c, rfl, hc, hn⟩ | ⟨g, off, cap, hv, hg, h1, h2, hc⟩
  · cases ad with
    | none =>
      obtain rfl := hn rfl
      refine wpList_append_own_none hgd s x ST ho B T i0 2 he.under hi v l.length _ hs hown hx ?_
      exact h v w (by rw [List.append_nil]; exact hown) ⟨rfl, rfl, rfl, Nat.le_refl _, fun _ _ _ => rfl⟩ (.inl rfl)
    | some ad => exact key ad 0 c rfl rfl (by simp [flat])
  · refine key ⟨g, off, none⟩ k.length cap hv rfl fun j x hj => ?_
    have hjl : j < k.length * 2 := by
      have := (List.getElem?_eq_some_iff.1 hj).1
      rwa [flat_len] at this
    have hadd : (⟨g, off, none⟩ : Addr).add j = ⟨g, off + j, none⟩ := by unfold Addr.add; split <;> simp_all
    obtain ⟨i, hi⟩ : ∃ i, i = j / 2 := ⟨_, rfl⟩
    have hik : i < k.length := by omega
    obtain ⟨f1, f2⟩ := flat_get k i hik
    obtain ⟨c1, c2⟩ := hc i hik
    rw [hadd]
    rcases (show j = i * 2 ∨ j = i * 2 + 1 from by omega) with hj2 | hj2
    · rw [hj2] at hj ⊢
      rw [f1] at hj
      rw [c1]; exact hj
    · rw [hj2] at hj ⊢
      rw [f2] at hj
      rw [← Nat.add_assoc, c2]; exact hj

end Sg
end Go.Proofs.YtglljkbpdbnhaaaGreatDoor

set_option linter.unusedVariables false
set_option linter.unusedSimpArgs false
namespace Go.Proofs.YtglljkbpdbnhaaaGreatDoor
open Go.RowKit

/-- Plain operations, one behind the other. -/
def runL (P : Program) : List Oper → Act × World → Option (Act × World)
  | [], x => some x
  | o :: r, x => match o.guard with
    | some _ => none
    | none => match (execOp x.1.eval o).run P x.2 with
      | .ok (.value v) w' => runL P r (x.1.put o.dst v, w')
      | _ => none
theorem wpList_runL {P : Program} {ops : Array Oper} {R : Exit → Act → World → Prop} : ∀ (l : List Oper) (x y : Act × World), runL P l x = some y → R .normal y.1 y.2 → wpList P ops R l x.1 x.2 := by
  intro l
  induction l with
  | nil => intro x y h hR; cases h; exact hR
  | cons o l ih =>
    intro x y h hR
    unfold runL at h
    cases hg : o.guard with
    | some g => rw [hg] at h; cases h
    | none =>
      rw [hg] at h
      simp only at h
      refine wpList_plain hg fun K hK => ?_
      unfold Oper.wp
      split at h
      · rename_i v w' he
        rw [he]
        exact hK _ _ (ih _ _ h hR)
      · cases h
/-- What the whole text leaves. -/
def runF (P : Program) (fn : Func) (l0 l1 : List Oper) (w : World) : Option (Value × World × World) :=
  ((runL P l0 ({ tmps := #[] ++ Array.replicate (fn.ntmps - 0) undef, defers := [] }, w)).bind (runL P l1)).bind fun x =>
    match x.1.defers with
    | [] => match (results fn x.1.tmps).run P x.2 with
      | .ok v w' => some (v, x.2, w')
      | _ => none
    | _ => none
theorem calls_runF {P : Program} {f : FuncId} {fn : Func} {i0 i1 : Nat} {o0 o1 : Array Oper} {w W : World} {v : Value} {R : Ending → World → Prop}
    (hf : P.funcs[f]? = some fn) (hb : fn.body = some ((Code.region i0 o0 false).seq ((Code.region i1 o1 false).seq Code.ret)))
    (hrun : runF P fn o0.toList o1.toList w = some (v, W, W)) (hR : R (.returned v) W) : Calls P f #[] w R := by
  refine calls_of_wp hf hb ?_
  unfold runF at hrun
  rw [Option.bind_eq_some_iff] at hrun
  obtain ⟨y, hy, hrun⟩ := hrun
  rw [Option.bind_eq_some_iff] at hy
  obtain ⟨x, hx, hy⟩ := hy
  apply wp_seq_k; intro K hK
  apply wp_region_list
  refine wpList_runL _ (_, w) x hx ?_
  refine hK _ _ ?_
  apply wp_seq_k; intro K2 hK2
  apply wp_region_list
  refine wpList_runL _ (_, _) y hy ?_
  refine hK2 _ _ ?_
  apply wp_ret
  split at hrun
  · rename_i hd
    split at hrun
    · rename_i v' w' hr
      cases hrun
      exact bodyPost_ret hr hd hR
    · cases hrun
  · cases hrun

end Go.Proofs.YtglljkbpdbnhaaaGreatDoor

set_option linter.unusedVariables false
set_option linter.unusedSimpArgs false
namespace Go.Proofs.YtglljkbpdbnhaaaGreatDoor
open Go.RowKit
attribute [local go_sem ↓] Go.wp_at_zero Go.wp_at_succ
namespace Gr

end Gr
end Go.Proofs.YtglljkbpdbnhaaaGreatDoor

set_option linter.unusedVariables false
set_option linter.unusedSimpArgs false
namespace Go.Proofs.YtglljkbpdbnhaaaGreatDoor
open Go.ChangeShapes Go.WideShapes Go.RowKit Go.Deep
namespace FrG
section
variable {H : Type} {enc : TypeId × Value → H} {P : Program} {w : World} {base : Nat} {spare : Nat → Bool} {held : Bool}
theorem open_fields {r : Reach} {b0 : Nat} {t : TypeId} {fs : Array Field} {v : Value} {d : DataW H} {p : List MemPlace} (hs : P.underlying t = some (.struct fs)) (hone : oneCellFields P fs = true) (hC : P.cellsOf t = fs.size)
    (hv : Value.okWide P w r b0 t v) (h : DataW.Trod enc P w base spare held t v d p) :
    ∃ cs : Array Value, v = .agg cs ∧ cs.size = fs.size ∧ ∀ (i : Nat) (f : Field) (c : Value), fs[i]? = some f → cs[i]? = some c → ∃ n y, DataW.trod enc P w base spare held n f.type ([c] : List Value) = some y := by
  obtain ⟨cs, rfl, hsz⟩ := okWide_struct hs hv
  obtain ⟨fuel, hf⟩ := h
  obtain ⟨xs, n, _, _, _, hxl, hx⟩ := DataW.trod_struct hs hf
  refine ⟨cs, rfl, hsz.trans hC, fun i f c hfi hci => ?_⟩
  obtain ⟨o, k⟩ := hone_of hone i f hfi
  have h1 := hx i f hfi
  rw [o, k] at h1
  have hi : i < fs.size := (Array.getElem?_eq_some_iff.1 hfi).1
  have h2 : ((Value.agg cs).cells.toList.drop i).take 1 = [c] := by
    have h3 : cs.toList[i]? = some c := by simpa using hci
    have h4 : (cs.toList.drop i).take 1 = [c] := by
      obtain ⟨hlt, he⟩ := List.getElem?_eq_some_iff.1 h3
      rw [List.drop_eq_getElem_cons hlt, he]; rfl
    simpa [Value.cells] using h4
  rw [h2] at h1
  obtain ⟨y, hy⟩ : ∃ y, xs[i]? = some y := ⟨xs[i]'(by omega), List.getElem?_eq_getElem (by omega)⟩
  exact ⟨n, y, h1.trans hy⟩
end
theorem arr10 {cs : Array Value} (h : cs.size = 10) : ∃ a b c d e f g h i j, cs = #[a, b, c, d, e, f, g, h, i, j] := by
  obtain ⟨l⟩ := cs
  match l, h with
  | [a, b, c, d, e, f, g, h, i, j], _ => exact ⟨a, b, c, d, e, f, g, h, i, j, rfl⟩
theorem lst_of {H : Type} {enc : TypeId × Value → H} {P : Program} {W : World} {held : Bool} {t e : TypeId} (h1 : P.underlying t = some (.slice e)) (h2 : P.underlying e = some (.int .i64)) (h3 : P.cellsOf e = 1) {c : Value}
    (h : ∃ n y, DataW.trod enc P W 0 (fun _ => true) held n t [c] = some y) : ∃ xs, Lst W c xs ∧ ∀ n ∈ xs, -9223372036854775808 ≤ n ∧ n ≤ 9223372036854775807 := by
  obtain ⟨n, y, h⟩ := h
  rcases open_ints h1 h2 h3 h with ⟨hcs, _⟩ | ⟨x, l, c', zs, hcs, _, hl, hm, hz, _, hcell, hwz⟩
  · obtain rfl : c = .slice none 0 0 := by simpa using hcs
    exact ⟨[], .nil _ _ _ (by unfold maxLen; omega) (fun _ => rfl), by simp⟩
  · obtain rfl : c = .slice (some x) l c' := by simpa using hcs
    obtain ⟨xs, hx, _, hb⟩ := IsRow.lst (w := W) (.inr ⟨_, rfl, hl, hm, by simpa using hz, hcell, hwz⟩)
    exact ⟨xs, hx, hb⟩
theorem bool_of {H : Type} {enc : TypeId × Value → H} {P : Program} {W : World} {held : Bool} {t : TypeId} (h1 : P.underlying t = some .bool) {c : Value}
    (h : ∃ n y, DataW.trod enc P W 0 (fun _ => true) held n t [c] = some y) : ∃ b, c = .bool b := by
  obtain ⟨n, y, h⟩ := h
  obtain ⟨b, h, _⟩ := DataW.trod_bool h1 h
  exact ⟨b, by simpa using h⟩
theorem int_of {H : Type} {enc : TypeId × Value → H} {P : Program} {W : World} {held : Bool} {t : TypeId} (h1 : P.underlying t = some (.int .i64)) {c : Value}
    (h : ∃ n y, DataW.trod enc P W 0 (fun _ => true) held n t [c] = some y) : ∃ i, c = .int .i64 i ∧ -9223372036854775808 ≤ i ∧ i ≤ 9223372036854775807 := by
  obtain ⟨n, y, h⟩ := h
  obtain ⟨i, h, _, hw⟩ := DataW.trod_int h1 h
  exact ⟨i, by simpa using h, bounds_i64 hw⟩
/-- A list of pieces that came in. -/
theorem pieces_of {H : Type} {enc : TypeId × Value → H} {P : Program} {W : World} {held : Bool} {t e : TypeId} {f0 f1 : Field} (h1 : P.underlying t = some (.slice e)) (h2 : P.underlying e = some (.struct #[f0, f1]))
    (ce : P.cellsOf e = 2) (o0 : f0.offset = 0) (o1 : f1.offset = 1) (c0 : P.cellsOf f0.type = 1) (c1 : P.cellsOf f1.type = 1) (i0 : P.underlying f0.type = some (.int .i64)) (s1 : P.underlying f1.type = some .string) {c : Value}
    (h : ∃ n y, DataW.trod enc P W 0 (fun _ => true) held n t [c] = some y) :
    ∃ l : List Pc.E, Pc.LstP W c l ∧ ∀ x ∈ l, -9223372036854775808 ≤ x.1 ∧ x.1 ≤ 9223372036854775807 ∧ x.2.length ≤ maxLen := by
  obtain ⟨n, y, h⟩ := h
  rcases Deep.open_slice_pairs h1 h2 ce o0 o1 c0 c1 h with ⟨hcs, _⟩ | ⟨a, len, cap, m, n, V0, V1, D0, D1, P0, P1, hcs, _, hl, hm, hmm, _, hx⟩
  · obtain rfl : c = .slice none 0 0 := by simpa using hcs
    exact ⟨[], .nil _ _ _ (by unfold maxLen; omega) (fun _ => rfl), by simp⟩
  · obtain rfl : c = .slice (some a) len cap := by simpa using hcs
    have hmc : m = cap := by simpa using hmm
    have each : ∀ i, i < len → ∃ q : Int × List UInt8, (-9223372036854775808 ≤ q.1 ∧ q.1 ≤ 9223372036854775807 ∧ q.2.length ≤ maxLen) ∧ W.cell? (a.add (i * 2)) = some (.int .i64 q.1) ∧ W.cell? (a.add (i * 2 + 1)) = some (.string ⟨q.2.toArray⟩) := by
      intro i hi
      obtain ⟨g0, g1, g2, g3⟩ := hx i (by omega)
      obtain ⟨k, hk, hb1, hb2⟩ := int_of i0 ⟨_, _, g2⟩
      obtain ⟨s, hs, _, hsz⟩ := DataW.trod_string s1 g3
      refine ⟨(k, s.data.toList), ⟨hb1, hb2, ?_⟩, by rw [g0, hk], ?_⟩
      · show s.data.toList.length ≤ maxLen
        rw [Array.length_toList]; exact hsz
      · rw [g1]
        have : V1 i = .string s := by simpa using hs
        rw [this]
    by_cases h0 : len = 0
    · subst h0
      exact ⟨[], .nil _ _ _ (by omega) (fun h => by cases h), by simp⟩
    obtain ⟨q, hq⟩ := Deep.choose_lt each
    obtain ⟨b, off, spot⟩ := a
    have hspot : spot = none := by simpa [Addr.add] using World.cell?_spot (hq 0 (by omega)).2.1
    subst hspot
    refine ⟨(List.range len).map q, .inr ⟨b, off, cap, by simp, ?_, by simpa using hl, hm, fun i hi => ?_⟩, fun x hx => ?_⟩
    · exact World.block_lt_of_cell? _ _ (hq 0 (by omega)).2.1
    · have hi' : i < len := by simpa using hi
      have hg : ((List.range len).map q).getD i (0, []) = q i := by rw [List.getD_eq_getElem?_getD]; simp [hi']
      rw [hg]
      have := (hq i hi').2
      simpa [Go.WideShapes.add_plain, Nat.add_assoc, Pc.txt] using this
    · obtain ⟨i, hi, rfl⟩ := List.mem_map.1 hx
      exact (hq i (List.mem_range.1 hi)).1
end FrG
end Go.Proofs.YtglljkbpdbnhaaaGreatDoor
