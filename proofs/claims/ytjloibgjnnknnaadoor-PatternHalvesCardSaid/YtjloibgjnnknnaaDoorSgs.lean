/- Lists of two numbers each, in memory. -/
import Derived.Test.YtjloibgjnnknnaaDoorRows
import Derived.Test.YtjloibgjnnknnaaDoorInts
import Derived.Test.YtjloibgjnnknnaaDoorGap
import Derived.Test.YtjloibgjnnknnaaDoorEls
set_option linter.unusedVariables false
set_option linter.unusedSimpArgs false
namespace Go.Proofs.YtjloibgjnnknnaaDoor
open Go.RowKit
namespace Sg

abbrev E := Int × Int
@[reducible] def txt (l : Int) : Value := .int .i64 l
def flat (l : List E) : List Value := l.flatMap fun p => [.int .i64 p.1, txt p.2]
theorem flat_cons (p : E) (l : List E) : flat (p :: l) = .int .i64 p.1 :: txt p.2 :: flat l := by simp [flat]
theorem flat_len (l : List E) : (flat l).length = l.length * 2 := by
  induction l with
  | nil => rfl
  | cons p l ih => rw [flat_cons]; simp [ih]; omega
theorem flat_app (a b : List E) : flat (a ++ b) = flat a ++ flat b := by simp [flat]
theorem flat_get (l : List E) (i : Nat) (h : i < l.length) : (flat l)[i * 2]? = some (.int .i64 (l.getD i (0, 0)).1) ∧ (flat l)[i * 2 + 1]? = some (txt (l.getD i (0, 0)).2) := by
  induction l generalizing i with
  | nil => simp at h
  | cons p l ih =>
    cases i with
    | zero => rw [flat_cons]; simp
    | succ i =>
      have := ih i (by simpa using h)
      rw [flat_cons, show (i + 1) * 2 = i * 2 + 1 + 1 from by omega]
      simpa using this
theorem flat_one (l : List E) : ∀ u ∈ flat l, u.oneCell' = true := by
  intro u hu
  obtain ⟨p, _, hp⟩ := List.mem_flatMap.1 hu
  simp only [List.mem_cons, List.not_mem_nil, or_false] at hp
  rcases hp with rfl | rfl <;> rfl

/-- A value that reads as such a list. -/
def LstP (w : World) (v : Value) (l : List E) : Prop :=
  (l = [] ∧ ∃ a c, v = .slice a 0 c ∧ c ≤ maxLen ∧ (a = none → c = 0)) ∨
  ∃ g off cap, v = .slice (some ⟨g, off, none⟩) l.length cap ∧ g < w.heap.size ∧ l.length ≤ cap ∧ cap ≤ maxLen ∧ ∀ i, i < l.length → w.cell? ⟨g, off + i * 2, none⟩ = some (.int .i64 (l.getD i (0, 0)).1) ∧ w.cell? ⟨g, off + i * 2 + 1, none⟩ = some (txt (l.getD i (0, 0)).2)
theorem LstP.nil (w : World) (a : Option Addr) (c : Nat) (hc : c ≤ maxLen) (hn : a = none → c = 0) : LstP w (.slice a 0 c) [] := .inl ⟨rfl, a, c, rfl, hc, hn⟩
theorem LstP.q {w w' : World} {v : Value} {l : List E} (h : LstP w v l) (hq : Q w w') : LstP w' v l := by
  rcases h with h | ⟨g, off, cap, hv, hg, h1, h2, hc⟩
  · exact .inl h
  · refine .inr ⟨g, off, cap, hv, Nat.lt_of_lt_of_le hg hq.le, h1, h2, fun i hi => ?_⟩
    obtain ⟨c1, c2⟩ := hc i hi
    exact ⟨(World.cell?_of_block (w := w) (hq.block hg)).trans c1, (World.cell?_of_block (w := w) (hq.block hg)).trans c2⟩
theorem LstP.shape2 {w : World} {v : Value} {l : List E} (h : LstP w v l) : ∃ a c, v = .slice a l.length c ∧ l.length ≤ c ∧ c ≤ maxLen := by
  rcases h with ⟨rfl, a, c, rfl, hc, _⟩ | ⟨g, off, cap, hv, _, h1, h2, _⟩
  · exact ⟨a, c, rfl, Nat.zero_le _, hc⟩
  · exact ⟨_, _, hv, h1, h2⟩
theorem LstP.form0 {w : World} {v : Value} {l : List E} {n : Nat} (h : LstP w v l) (hn : l.length = n) : ∃ a c, v = .slice a n c ∧ n ≤ c ∧ c ≤ maxLen := by
  subst hn; exact h.shape2
theorem LstP.shape {w : World} {v : Value} {l : List E} (h : LstP w v l) : ∃ a c, v = .slice a l.length c := by
  obtain ⟨a, c, hv, _⟩ := h.shape2
  exact ⟨a, c, hv⟩
theorem LstP.cellOf {w : World} {v : Value} {l : List E} {n k : Nat} (h : LstP w v l) (hn : l.length = n) (hk : k < n) :
    ∃ g off cap, v = .slice (some ⟨g, off, none⟩) n cap ∧ g < w.heap.size ∧ n ≤ cap ∧ cap ≤ maxLen ∧ w.cell? ⟨g, off + k * 2, none⟩ = some (.int .i64 (l.getD k (0, 0)).1) ∧ w.cell? ⟨g, off + k * 2 + 1, none⟩ = some (txt (l.getD k (0, 0)).2) := by
  rcases h with ⟨rfl, _⟩ | ⟨g, off, cap, hv, hg, h1, h2, hc⟩
  · simp at hn; omega
  · rw [hn] at hv h1 hc
    exact ⟨g, off, cap, hv, hg, h1, h2, (hc k hk).1, (hc k hk).2⟩
theorem LstP.take {w : World} {a : Option Addr} {n c : Nat} {l : List E} (h : LstP w (.slice a n c) l) (k : Nat) (hk : k ≤ l.length) : LstP w (.slice a k c) (l.take k) := by
  rcases h with ⟨rfl, a, c, hv, hc, hn⟩ | ⟨g, off, cap, hv, hg, h1, h2, hcell⟩
  · cases hv
    have : k = 0 := by simpa using hk
    subst this
    exact .nil _ _ _ hc hn
  · cases hv
    have hl : (l.take k).length = k := by simp; omega
    refine .inr ⟨g, off, c, by rw [hl], hg, by omega, h2, fun i hi => ?_⟩
    rw [hl] at hi
    have e : (l.take k).getD i (0, 0) = l.getD i (0, 0) := by
      simp only [List.getD_eq_getElem?_getD]
      rw [List.getElem?_take, if_pos hi]
    rw [e]
    exact hcell i (by omega)
theorem LstP.drop {w : World} {g off n c k : Nat} {l : List E} (h : LstP w (.slice (some ⟨g, off, none⟩) n c) l) (hn : l.length = n) (hk : k < n) : LstP w (.slice (some ⟨g, off + k * 2, none⟩) (n - k) (c - k)) (l.drop k) := by
  rcases h with ⟨rfl, _⟩ | ⟨g', off', cap, hv, hg, h1, h2, hc⟩
  · simp at hn; omega
  · cases hv
    have hl : (l.drop k).length = l.length - k := by simp
    refine .inr ⟨g, off + k * 2, c - k, by rw [hl], hg, by omega, by unfold maxLen at *; omega, fun i hi => ?_⟩
    rw [hl] at hi
    have e : (l.drop k).getD i (0, 0) = l.getD (k + i) (0, 0) := by
      simp only [List.getD_eq_getElem?_getD, List.getElem?_drop]
    rw [e, show off + k * 2 + i * 2 = off + (k + i) * 2 from by omega]
    exact hc (k + i) (by omega)
/-- The three ways in which a list's rest may lie. -/
theorem LstP.rest {w : World} {a : Option Addr} {n c z : Nat} {l : List E} (h : LstP w (.slice a n c) l) (hn : l.length = n) (hz : z ≤ n) :
    (∃ g off, a = some ⟨g, off, none⟩ ∧ z < n ∧ n ≤ c ∧ c ≤ 9223372036854775807 ∧ LstP w (.slice (some ⟨g, off + z * 2, none⟩) (n - z) (c - z)) (l.drop z)) ∨
    (z = n ∧ c = n ∧ l.drop z = []) ∨ (∃ ad, a = some ad ∧ z = n ∧ n < c ∧ c ≤ 9223372036854775807 ∧ l.drop z = []) := by
  by_cases hlt : z < n
  · obtain ⟨g, off, cap, hv, hg, h1, h2, _⟩ := h.cellOf hn hlt
    cases hv
    exact .inl ⟨g, off, rfl, hlt, h1, by unfold maxLen at h2; omega, h.drop hn hlt⟩
  · have he : l.drop z = [] := List.drop_eq_nil_of_le (by omega)
    have hc := h.form0 hn
    obtain ⟨_, _, hv, h1, h2⟩ := hc
    cases hv
    unfold maxLen at h2
    by_cases hcn : c = n
    · exact .inr (.inl ⟨by omega, hcn, he⟩)
    · refine .inr (.inr ?_)
      cases a with
      | some ad => exact ⟨ad, rfl, by omega, by omega, by omega, he⟩
      | none =>
        rcases h with ⟨rfl, _, _, hv2, _, hn2⟩ | ⟨_, _, _, hv2, _⟩
        · cases hv2
          have := hn2 rfl
          omega
        · cases hv2

/-- Such a list that the call itself has made, from block B on. -/
def OwnE (T : TypeId) (w : World) (B : Nat) (v : Value) (l : List E) : Prop := w.ownsRow B T 2 v l.length (flat l)
theorem OwnE.nil (T : TypeId) (w : World) (B : Nat) : OwnE T w B (.slice none 0 0) [] := World.ownsRow_nil w B T 2
theorem OwnE.mono {T : TypeId} {w : World} {B B' : Nat} {v : Value} {l : List E} (h : OwnE T w B v l) (hB : B' ≤ B) : OwnE T w B' v l := by
  obtain ⟨h1, h2⟩ := h
  refine ⟨h1, ?_⟩
  rcases h2 with h2 | ⟨g, cap, cur, hv, hg, r⟩
  · exact .inl h2
  · exact .inr ⟨g, cap, cur, hv, by omega, r⟩
theorem OwnE.same {T : TypeId} {w w' : World} {B : Nat} {v : Value} {l : List E} (h : OwnE T w B v l) (hs : ∀ g, v.ownBlock = some g → w'.heap[g]? = w.heap[g]?) : OwnE T w' B v l := by
  obtain ⟨h1, h2⟩ := h
  refine ⟨h1, ?_⟩
  rcases h2 with h2 | ⟨g, cap, cur, hv, hg, hh, r⟩
  · exact .inl h2
  · exact .inr ⟨g, cap, cur, hv, hg, by rw [hs g (by rw [hv]; rfl)]; exact hh, r⟩
theorem OwnE.lt {T : TypeId} {w : World} {B : Nat} {v : Value} {l : List E} (h : OwnE T w B v l) : ∀ g, v.ownBlock = some g → B ≤ g ∧ g < w.heap.size := World.ownsRow.lt h
theorem OwnE.q {T : TypeId} {w w' : World} {B : Nat} {v : Value} {l : List E} (h : OwnE T w B v l) (hq : Q w w') : OwnE T w' B v l := h.same fun g hg => hq.block (h.lt g hg).2
theorem OwnE.lst {T : TypeId} {w : World} {B : Nat} {v : Value} {l : List E} (h : OwnE T w B v l) : LstP w v l := by
  rcases h.2 with ⟨hv, hn⟩ | ⟨g, cap, cur, hv, _, hh, hnc, hcm, hcs, ht⟩
  · have : l = [] := List.eq_nil_of_length_eq_zero hn
    subst this; subst hv
    exact .nil _ _ _ (by unfold maxLen; omega) (fun _ => rfl)
  · refine .inr ⟨g, 0, cap, hv, (Array.getElem?_eq_some_iff.1 hh).1, hnc, hcm, fun i hi => ⟨?_, ?_⟩⟩
    · rw [cell_of_row w g (0 + i * 2) cur T (0, 0) hh]
      have h1 := congrArg (fun x => x[i * 2]?) ht
      rw [List.getElem?_take, if_pos (by omega), (flat_get l i hi).1] at h1
      rw [Nat.zero_add, ← Array.getElem?_toList, h1]
    · rw [cell_of_row w g (0 + i * 2 + 1) cur T (0, 0) hh]
      have h1 := congrArg (fun x => x[i * 2 + 1]?) ht
      rw [List.getElem?_take, if_pos (by omega), (flat_get l i hi).2] at h1
      rw [Nat.zero_add, ← Array.getElem?_toList, h1]
/-- A list in the call's own blocks, wherever it lies there. -/
def New (w : World) (B : Nat) (v : Value) (l : List E) : Prop := LstP w v l ∧ ∀ a n c, v = .slice (some a) n c → n ≠ 0 → B ≤ a.block
theorem New.q {w w' : World} {B : Nat} {v : Value} {l : List E} (h : New w B v l) (hq : Q w w') : New w' B v l := ⟨h.1.q hq, h.2⟩
theorem New.mono {w : World} {B B' : Nat} {v : Value} {l : List E} (h : New w B v l) (hB : B' ≤ B) : New w B' v l := ⟨h.1, fun a n c e k => Nat.le_trans hB (h.2 a n c e k)⟩
theorem OwnE.new {T : TypeId} {w : World} {B : Nat} {v : Value} {l : List E} (h : OwnE T w B v l) : New w B v l := by
  refine ⟨h.lst, fun a n c e _ => ?_⟩
  rcases h.2 with ⟨hv, _⟩ | ⟨g, cap, cur, hv, hg, _⟩
  · rw [hv] at e; cases e
  · rw [hv] at e; cases e; exact hg

/-- What the elements' type tells. -/
structure El (T ST : TypeId) : Prop where
  info : (Tryd.prog.info? T).map (fun i => (i.zero, i.size, i.bytes)) = some (some (.agg #[.int .i64 0, .int .i64 0]), 2, 16)
  under : Tryd.prog.underlying ST = some (.slice T)

/-- One element more. -/
theorem push {T ST : TypeId} (he : El T ST) {w : World} {B : Nat} {v : Value} {l : List E} (hown : OwnE T w B v l) {ops : Array Oper} {rest : List Oper} {o : Oper} {a : Act} {R : Exit → Act → World → Prop} (hgd : o.guard = none) (s x : Operand)
    (ho : o.op = .call { callee := .builtin .append, args := #[s, x], argTypes := #[ST, ST] })
    (p : Int) (t : Int) (hs : a.eval s = v) (hx : a.eval x = .slice (some ⟨w.heap.size, 0, none⟩) 1 1) (hlen : l.length < 1073741824) (hB : B ≤ w.heap.size)
    (h : ∀ v' w', OwnE T w' B v' (l ++ [(p, t)]) → w.grownBy w' v.ownBlock → (v'.ownBlock = v.ownBlock ∨ v'.ownBlock = some (w.heap.size + 1)) → wpList Tryd.prog ops R rest (a.put o.dst v') w') :
    wpList Tryd.prog ops R (o :: rest) a (w.alloc (.cells #[.int .i64 p, .int .i64 t] T)) := by
  obtain ⟨i0, hi, hz0, hz1, hz2⟩ := info_parts he.info
  refine wpList_append_own_at _ hgd s x ST ho B T i0 (.agg #[.int .i64 0, .int .i64 0]) 2 16 he.under hi hz0 hz1 hz2 rfl (by decide) v l.length _ hs (World.ownsRow.alloc hown _)
    ⟨w.heap.size, 0, none⟩ 1 1 [.int .i64 p, .int .i64 t] hx rfl ?_ ?_ ?_ ?_ ?_ ?_
  · intro j u hj
    match j, hj with
    | 0, hj => simp at hj; subst hj; show World.cell? _ ⟨w.heap.size, 0 + 0, none⟩ = _; rw [World.cell?_alloc_at _ _ _ _ rfl]; rfl
    | 1, hj => simp at hj; subst hj; show World.cell? _ ⟨w.heap.size, 0 + 1, none⟩ = _; rw [World.cell?_alloc_at _ _ _ _ rfl]; rfl
  · intro u hu; simp at hu; rcases hu with rfl | rfl <;> rfl
  · unfold maxLen; omega
  · omega
  · simp; omega
  · intro v' w' hown' hg _ hat
    refine h v' w' ?_ ?_ ?_
    · unfold OwnE
      rw [List.length_append, flat_app]
      exact hown'
    · exact (World.grownBy_alloc w _ _).trans hg
    · simpa using hat
/-- A list behind a list of the call's own. -/
theorem pushl {T ST : TypeId} (he : El T ST) {w : World} {B : Nat} {v u : Value} {l k : List E} (hown : OwnE T w B v l) (hu : LstP w u k) {ops : Array Oper} {rest : List Oper} {o : Oper} {a : Act} {R : Exit → Act → World → Prop} (hgd : o.guard = none) (s x : Operand)
    (ho : o.op = .call { callee := .builtin .append, args := #[s, x], argTypes := #[ST, ST] })
    (hs : a.eval s = v) (hx : a.eval x = u) (hlen : l.length + k.length < 1073741824) (hB : B ≤ w.heap.size)
    (h : ∀ v' w', OwnE T w' B v' (l ++ k) → w.grownBy w' v.ownBlock → (v'.ownBlock = v.ownBlock ∨ v'.ownBlock = some w.heap.size) → wpList Tryd.prog ops R rest (a.put o.dst v') w') :
    wpList Tryd.prog ops R (o :: rest) a w := by
  obtain ⟨i0, hi, hz0, hz1, hz2⟩ := info_parts he.info
  have key : ∀ (ad : Addr) (m c : Nat), u = .slice (some ad) m c → k.length = m → (∀ j x, (flat k)[j]? = some x → w.cell? (ad.add j) = some x) → wpList Tryd.prog ops R (o :: rest) a w := by
    intro ad m c hu hm hc
    subst hu; subst hm
    refine wpList_append_own_at _ hgd s x ST ho B T i0 (.agg #[.int .i64 0, .int .i64 0]) 2 16 he.under hi hz0 hz1 hz2 rfl (by decide) v l.length _ hs hown
      ad k.length c (flat k) hx (by rw [flat_len]) hc (flat_one k) ?_ ?_ hB ?_
    · unfold maxLen; omega
    · omega
    · intro v' w' hown' hg _ hat
      refine h v' w' ?_ hg hat
      unfold OwnE
      rw [List.length_append, flat_app]
      exact hown'
  rcases hu with ⟨rfl, ad, c, rfl, hc, hn⟩ | ⟨g, off, cap, hv, hg, h1, h2, hc⟩
  · cases ad with
    | none =>
      obtain rfl := hn rfl
      refine wpList_append_own_none hgd s x ST ho B T i0 2 he.under hi v l.length _ hs hown hx ?_
      exact h v w (by rw [List.append_nil]; exact hown) ⟨rfl, rfl, rfl, Nat.le_refl _, fun _ _ _ => rfl⟩ (.inl rfl)
    | some ad => exact key ad 0 c rfl rfl (by simp [flat])
  · refine key ⟨g, off, none⟩ k.length cap hv rfl fun j x hj => ?_
    have hjl : j < k.length * 2 := by
      have := (List.getElem?_eq_some_iff.1 hj).1
      rwa [flat_len] at this
    have hadd : (⟨g, off, none⟩ : Addr).add j = ⟨g, off + j, none⟩ := by unfold Addr.add; split <;> simp_all
    obtain ⟨i, hi⟩ : ∃ i, i = j / 2 := ⟨_, rfl⟩
    have hik : i < k.length := by omega
    obtain ⟨f1, f2⟩ := flat_get k i hik
    obtain ⟨c1, c2⟩ := hc i hik
    rw [hadd]
    rcases (show j = i * 2 ∨ j = i * 2 + 1 from by omega) with hj2 | hj2
    · rw [hj2] at hj ⊢
      rw [f1] at hj
      rw [c1]; exact hj
    · rw [hj2] at hj ⊢
      rw [f2] at hj
      rw [← Nat.add_assoc, c2]; exact hj

end Sg
end Go.Proofs.YtjloibgjnnknnaaDoor
