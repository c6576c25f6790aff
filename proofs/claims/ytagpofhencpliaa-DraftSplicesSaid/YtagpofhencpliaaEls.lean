/- Lists in memory whose elements take one cell each, of whatever type; texts among them. -/
import Derived.Test.YtagpofhencpliaaRows
import Derived.Test.YtagpofhencpliaaInts
import Derived.Test.YtagpofhencpliaaGap
set_option linter.unusedVariables false
set_option linter.unusedSimpArgs false
namespace Go.Proofs.Ytagpofhencpliaa
open Go.RowKit

/-- A value that reads as a list. -/
def GLst {α : Type} (en : α → Value) (w : World) (v : Value) (zs : List α) : Prop :=
  (zs = [] ∧ ∃ a c, v = .slice a 0 c ∧ c ≤ maxLen ∧ (a = none → c = 0)) ∨
  ∃ g off cap, v = .slice (some ⟨g, off, none⟩) zs.length cap ∧ g < w.heap.size ∧ zs.length ≤ cap ∧ cap ≤ maxLen ∧ ∀ i x, zs[i]? = some x → w.cell? ⟨g, off + i, none⟩ = some (en x)
theorem GLst.nil {α : Type} (en : α → Value) (w : World) (a : Option Addr) (c : Nat) (hc : c ≤ maxLen) (hn : a = none → c = 0) : GLst en w (.slice a 0 c) [] := .inl ⟨rfl, a, c, rfl, hc, hn⟩
theorem GLst.q {α : Type} {en : α → Value} {w w' : World} {v : Value} {zs : List α} (h : GLst en w v zs) (hq : Q w w') : GLst en w' v zs := by
  rcases h with h | ⟨g, off, cap, hv, hg, h1, h2, hc⟩
  · exact .inl h
  · refine .inr ⟨g, off, cap, hv, Nat.lt_of_lt_of_le hg hq.le, h1, h2, fun i x hi => ?_⟩
    rw [World.cell?_of_block (w := w) (hq.block hg)]
    exact hc i x hi
theorem GLst.shape2 {α : Type} {en : α → Value} {w : World} {v : Value} {zs : List α} (h : GLst en w v zs) : ∃ a c, v = .slice a zs.length c ∧ zs.length ≤ c ∧ c ≤ maxLen := by
  rcases h with ⟨rfl, a, c, rfl, hc, _⟩ | ⟨g, off, cap, hv, _, h1, h2, _⟩
  · exact ⟨a, c, rfl, Nat.zero_le _, hc⟩
  · exact ⟨_, _, hv, h1, h2⟩
theorem GLst.shape {α : Type} {en : α → Value} {w : World} {v : Value} {zs : List α} (h : GLst en w v zs) : ∃ a c, v = .slice a zs.length c := by
  obtain ⟨a, c, hv, _⟩ := h.shape2
  exact ⟨a, c, hv⟩
theorem GLst.form0 {α : Type} {en : α → Value} {w : World} {v : Value} {zs : List α} {n : Nat} (h : GLst en w v zs) (hn : zs.length = n) : ∃ a c, v = .slice a n c ∧ n ≤ c ∧ c ≤ maxLen := by
  subst hn; exact h.shape2
theorem GLst.cellOf {α : Type} {en : α → Value} {w : World} {v : Value} {zs : List α} {n k : Nat} {x : α} (h : GLst en w v zs) (hn : zs.length = n) (hk : zs[k]? = some x) :
    ∃ g off cap, v = .slice (some ⟨g, off, none⟩) n cap ∧ g < w.heap.size ∧ n ≤ cap ∧ cap ≤ maxLen ∧ w.cell? ⟨g, off + k, none⟩ = some (en x) := by
  rcases h with ⟨rfl, _⟩ | ⟨g, off, cap, hv, hg, h1, h2, hc⟩
  · simp at hk
  · rw [hn] at hv h1
    exact ⟨g, off, cap, hv, hg, h1, h2, hc k x hk⟩

/-- A list that the call itself has made, from block B on. -/
def GOwn {α : Type} (T : TypeId) (en : α → Value) (w : World) (B : Nat) (v : Value) (zs : List α) : Prop := w.ownsRow B T 1 v zs.length (zs.map en)
theorem GOwn.nil {α : Type} (T : TypeId) (en : α → Value) (w : World) (B : Nat) : GOwn T en w B (.slice none 0 0) [] := World.ownsRow_nil w B T 1
theorem GOwn.mono {α : Type} {T : TypeId} {en : α → Value} {w : World} {B B' : Nat} {v : Value} {zs : List α} (h : GOwn T en w B v zs) (hB : B' ≤ B) : GOwn T en w B' v zs := by
  obtain ⟨h1, h2⟩ := h
  refine ⟨h1, ?_⟩
  rcases h2 with h2 | ⟨g, cap, cur, hv, hg, r⟩
  · exact .inl h2
  · exact .inr ⟨g, cap, cur, hv, by omega, r⟩
theorem GOwn.same {α : Type} {T : TypeId} {en : α → Value} {w w' : World} {B : Nat} {v : Value} {zs : List α} (h : GOwn T en w B v zs) (hs : ∀ g, v.ownBlock = some g → w'.heap[g]? = w.heap[g]?) : GOwn T en w' B v zs := by
  obtain ⟨h1, h2⟩ := h
  refine ⟨h1, ?_⟩
  rcases h2 with h2 | ⟨g, cap, cur, hv, hg, hh, r⟩
  · exact .inl h2
  · exact .inr ⟨g, cap, cur, hv, hg, by rw [hs g (by rw [hv]; rfl)]; exact hh, r⟩
theorem GOwn.lt {α : Type} {T : TypeId} {en : α → Value} {w : World} {B : Nat} {v : Value} {zs : List α} (h : GOwn T en w B v zs) : ∀ g, v.ownBlock = some g → B ≤ g ∧ g < w.heap.size := World.ownsRow.lt h
theorem GOwn.q {α : Type} {T : TypeId} {en : α → Value} {w w' : World} {B : Nat} {v : Value} {zs : List α} (h : GOwn T en w B v zs) (hq : Q w w') : GOwn T en w' B v zs := h.same fun g hg => hq.block (h.lt g hg).2
theorem GOwn.gap {α : Type} {T : TypeId} {en : α → Value} {w w' : World} {B lo hi : Nat} {v : Value} {zs : List α} (h : GOwn T en w B v zs) (hg : Gap lo hi w w') (ho : ∀ g, v.ownBlock = some g → g < lo ∨ hi ≤ g) : GOwn T en w' B v zs :=
  h.same fun g hv => hg.block g (h.lt g hv).2 (ho g hv)
theorem GOwn.cells {α : Type} {T : TypeId} {en : α → Value} {w : World} {B : Nat} {v : Value} {zs : List α} (h : GOwn T en w B v zs) : ∀ g, v.ownBlock = some g → ∃ cur, w.heap[g]? = some (.cells cur T (0, 0)) := by
  intro g hg
  rcases h.2 with ⟨rfl, _⟩ | ⟨g', cap, cur, rfl, _, hh, _⟩
  · cases hg
  · cases hg; exact ⟨cur, hh⟩
theorem GOwn.lst {α : Type} {T : TypeId} {en : α → Value} {w : World} {B : Nat} {v : Value} {zs : List α} (h : GOwn T en w B v zs) : GLst en w v zs := by
  rcases h.2 with ⟨hv, hn⟩ | ⟨g, cap, cur, hv, _, hh, hnc, hcm, hcs, ht⟩
  · have : zs = [] := List.eq_nil_of_length_eq_zero hn
    subst this; subst hv
    exact .nil _ _ _ _ (by unfold maxLen; omega) (fun _ => rfl)
  · refine .inr ⟨g, 0, cap, hv, (Array.getElem?_eq_some_iff.1 hh).1, hnc, hcm, fun i x hx => ?_⟩
    have hi : i < zs.length := (List.getElem?_eq_some_iff.1 hx).1
    rw [cell_of_row w g (0 + i) cur T (0, 0) hh]
    have h1 := congrArg (fun l => l[i]?) ht
    simp only [List.getElem?_map, Nat.mul_one] at h1
    rw [List.getElem?_take, if_pos hi, hx] at h1
    rw [Nat.zero_add, ← Array.getElem?_toList, h1]; rfl
theorem GOwn.shape {α : Type} {T : TypeId} {en : α → Value} {w : World} {B : Nat} {v : Value} {zs : List α} (h : GOwn T en w B v zs) : ∃ a c, v = .slice a zs.length c := h.lst.shape
/-- Lists of unlike elements lie in unlike blocks. -/
theorem GOwn.not_int {α : Type} {T : TypeId} {en : α → Value} {w : World} {B B' : Nat} {v u : Value} {zs : List α} {ys : List Int} (h : GOwn T en w B v zs) (k : Own w B' u ys) (ht : T ≠ 3) : ∀ g, v.ownBlock = some g → u.ownBlock ≠ some g := by
  intro g hg hu
  obtain ⟨c1, h1⟩ := h.cells g hg
  obtain ⟨c2, h2⟩ := k.cells g hu
  rw [h1] at h2
  simp at h2
  exact ht h2.2

/-- A list that is written out in the text. -/
theorem GLst.made {α : Type} (en : α → Value) (T : TypeId) (w : World) (zs : List α) (n : Nat) (hn : zs.length = n) (hm : n ≤ maxLen) : GLst en (w.alloc (.cells (zs.map en).toArray T)) (.slice (some ⟨w.heap.size, 0, none⟩) n n) zs := by
  subst hn
  refine .inr ⟨w.heap.size, 0, zs.length, rfl, by simp, Nat.le_refl _, hm, fun i x hi => ?_⟩
  rw [World.cell?_alloc_at _ _ _ _ rfl, Nat.zero_add]
  simp only [List.getElem?_toArray, List.getElem?_map, hi]; rfl

/-- What a type of elements of one cell tells. -/
structure Elem (T ST : TypeId) (z : Value) (bytes : Nat) : Prop where
  info : (Try.prog.info? T).map (fun i => (i.zero, i.size, i.bytes)) = some (some z, 1, bytes)
  under : Try.prog.underlying ST = some (.slice T)
  one : z.cells.size = 1
  small : bytes ≤ 64

/-- One element more behind a list of the call's own. -/
theorem gpush {α : Type} {T ST : TypeId} {z : Value} {bytes : Nat} (he : Elem T ST z bytes) {en : α → Value} {w : World} {B : Nat} {v : Value} {zs : List α} (hown : GOwn T en w B v zs) {ops : Array Oper} {rest : List Oper} {o : Oper} {a : Act} {R : Exit → Act → World → Prop} (hgd : o.guard = none) (s x : Operand)
    (ho : o.op = .call { callee := .builtin .append, args := #[s, x], argTypes := #[ST, ST] })
    (y : α) (h1c : (en y).oneCell' = true) (hs : a.eval s = v) (hx : a.eval x = .slice (some ⟨w.heap.size, 0, none⟩) 1 1) (hlen : zs.length < 1099511627776) (hB : B ≤ w.heap.size)
    (h : ∀ v' w', GOwn T en w' B v' (zs ++ [y]) → w.grownBy w' v.ownBlock → (v'.ownBlock = v.ownBlock ∨ v'.ownBlock = some (w.heap.size + 1)) → wpList Try.prog ops R rest (a.put o.dst v') w') :
    wpList Try.prog ops R (o :: rest) a (w.alloc (.cells #[en y] T)) := by
  obtain ⟨i0, hi, hz0, hz1, hz2⟩ := info_parts he.info
  refine wpList_append_own_at _ hgd s x ST ho B T i0 z 1 bytes he.under hi hz0 hz1 hz2 he.one (by decide) v zs.length _ hs (World.ownsRow.alloc hown _)
    ⟨w.heap.size, 0, none⟩ 1 1 [en y] hx rfl (cell_one_new _ _ _) ?_ ?_ ?_ ?_ ?_
  · intro u hu; simp at hu; subst hu; exact h1c
  · unfold maxLen; omega
  · have h1 : (zs.length + 1) * bytes ≤ (zs.length + 1) * 64 := Nat.mul_le_mul_left _ he.small
    omega
  · simp; omega
  · intro v' w' hown' hg _ hat
    refine h v' w' ?_ ?_ ?_
    · have e1 : (zs ++ [y]).length = zs.length + 1 := by simp
      unfold GOwn
      rw [e1, List.map_append]
      exact hown'
    · exact (World.grownBy_alloc w _ _).trans hg
    · simpa using hat

/-- A list behind a list of the call's own. -/
theorem gpushl {α : Type} {T ST : TypeId} {z : Value} {bytes : Nat} (he : Elem T ST z bytes) {en : α → Value} (h1c : ∀ y, (en y).oneCell' = true) {w : World} {B : Nat} {v u : Value} {zs ys : List α} (hown : GOwn T en w B v zs) (hu : GLst en w u ys) {ops : Array Oper} {rest : List Oper} {o : Oper} {a : Act} {R : Exit → Act → World → Prop} (hgd : o.guard = none) (s x : Operand)
    (ho : o.op = .call { callee := .builtin .append, args := #[s, x], argTypes := #[ST, ST] })
    (hs : a.eval s = v) (hx : a.eval x = u) (hlen : zs.length + ys.length < 1099511627776) (hB : B ≤ w.heap.size)
    (h : ∀ v' w', GOwn T en w' B v' (zs ++ ys) → w.grownBy w' v.ownBlock → (v'.ownBlock = v.ownBlock ∨ v'.ownBlock = some w.heap.size) → wpList Try.prog ops R rest (a.put o.dst v') w') :
    wpList Try.prog ops R (o :: rest) a w := by
  obtain ⟨i0, hi, hz0, hz1, hz2⟩ := info_parts he.info
  have key : ∀ (ad : Addr) (m c : Nat), u = .slice (some ad) m c → ys.length = m → (∀ j x, (ys.map en)[j]? = some x → w.cell? (ad.add j) = some x) → wpList Try.prog ops R (o :: rest) a w := by
    intro ad m c hu hm hc
    subst hu; subst hm
    refine wpList_append_own_at _ hgd s x ST ho B T i0 z 1 bytes he.under hi hz0 hz1 hz2 he.one (by decide) v zs.length _ hs hown
      ad ys.length c (ys.map en) hx (by simp) hc ?_ ?_ ?_ hB ?_
    · intro u hu
      obtain ⟨y, _, rfl⟩ := List.mem_map.1 hu
      exact h1c y
    · unfold maxLen; omega
    · have h1 : (zs.length + ys.length) * bytes ≤ (zs.length + ys.length) * 64 := Nat.mul_le_mul_left _ he.small
      omega
    · intro v' w' hown' hg _ hat
      refine h v' w' ?_ hg hat
      have e1 : (zs ++ ys).length = zs.length + ys.length := by simp
      unfold GOwn
      rw [e1, List.map_append]
      exact hown'
  rcases hu with ⟨rfl, ad, c, rfl, hc, hn⟩ | ⟨g, off, cap, hv, hg, h1, h2, hc⟩
  · cases ad with
    | none =>
      obtain rfl := hn rfl
      refine wpList_append_own_none hgd s x ST ho B T i0 1 he.under hi v zs.length _ hs hown hx ?_
      exact h v w (by rw [List.append_nil]; exact hown) ⟨rfl, rfl, rfl, Nat.le_refl _, fun _ _ _ => rfl⟩ (.inl rfl)
    | some ad => exact key ad 0 c rfl rfl (by simp)
  · refine key ⟨g, off, none⟩ ys.length cap hv rfl fun j x hj => ?_
    have hadd : (⟨g, off, none⟩ : Addr).add j = ⟨g, off + j, none⟩ := by unfold Addr.add; split <;> simp_all
    rw [List.getElem?_map] at hj
    obtain ⟨y, hy, rfl⟩ := Option.map_eq_some_iff.1 hj
    rw [hadd, hc j y hy]

/-- Texts. -/
abbrev SLst (w : World) (v : Value) (zs : List ByteArray) : Prop := GLst Value.string w v zs
abbrev SOwn (w : World) (B : Nat) (v : Value) (zs : List ByteArray) : Prop := GOwn 9 Value.string w B v zs
theorem str_ne {p q : ByteArray} (h : p ≠ q) : (p.toList == q.toList) = false := by
  rw [beq_eq_false_iff_ne, ByteArray.toList_eq, ByteArray.toList_eq]
  intro e
  apply h
  cases p with | mk x => cases q with | mk y =>
    rw [ByteArray.mk.injEq]
    exact Array.toList_inj.1 e
theorem oneS (s : ByteArray) : (Value.string s).oneCell' = true := rfl

end Go.Proofs.Ytagpofhencpliaa
