/- The document's own answers on patterns: SamePieces. The document's own answers on patterns: Same. The document's own answers on patterns: half. -/
import Derived.Test.YtglljkbpdbnhaaaGreatDoorRows
import Derived.Test.YtglljkbpdbnhaaaGreatDoorMA
import Derived.Test.YtglljkbpdbnhaaaGreatDoorMB
import Derived.Test.YtglljkbpdbnhaaaGreatDoorMC
import Derived.Test.YtglljkbpdbnhaaaGreatDoorMBP
import Derived.Test.YtglljkbpdbnhaaaGreatDoorMI
import Derived.Deep.QuietTactic
import Derived.Deep.RegionHeld3
import Derived.BigQuiet
import Derived.IntWalk
import Derived.Test.YtglljkbpdbnhaaaGreatDoorMJ
import Derived.Laws.ResultCell
set_option linter.unusedVariables false
set_option linter.unusedSimpArgs false
namespace Go.Proofs.YtglljkbpdbnhaaaGreatDoor
open Go.RowKit
namespace Pr
open Pt Um

end Pr
end Go.Proofs.YtglljkbpdbnhaaaGreatDoor

set_option linter.unusedVariables false
set_option linter.unusedSimpArgs false
namespace Go.Proofs.YtglljkbpdbnhaaaGreatDoor
open Go.RowKit
namespace Pr
open Pt Um

/-- A value that reads as a pattern. -/
def PV (w : World) (v : Value) (X : Pat) : Prop := ∃ a b c d, v = pv a b c d X.pr X.se X.mi X.mf X.xf ∧ Pc.LstP w a X.pre ∧ Pc.LstP w b X.suf ∧ Pc.LstP w c X.npre ∧ Pc.LstP w d X.nsuf
theorem PV.q {w w' : World} {v : Value} {X : Pat} (h : PV w v X) (hq : Q w w') : PV w' v X := by
  obtain ⟨a, b, c, d, h, h1, h2, h3, h4⟩ := h
  exact ⟨a, b, c, d, h, h1.q hq, h2.q hq, h3.q hq, h4.q hq⟩
/-- Its lists are not too long. -/
def PS (X : Pat) : Prop := X.pre.length < 1099511627776 ∧ X.suf.length < 1099511627776 ∧ X.npre.length < 1099511627776 ∧ X.nsuf.length < 1099511627776

end Pr
end Go.Proofs.YtglljkbpdbnhaaaGreatDoor

set_option linter.unusedVariables false
set_option linter.unusedSimpArgs false
namespace Go.Proofs.YtglljkbpdbnhaaaGreatDoor
open Go.RowKit
namespace Pr
open Pt Um

/-- A number sign's text is its one byte. -/
def sgnOk (l : List (Int × Int)) : Prop := ∀ x ∈ l, x.1 = 4 → ∃ b : UInt8, encL x.2 = [b] ∧ ((b.toNat : Nat) : Int) = x.2
theorem encL_len (c : Int) : (encL c).length ≤ 4 := by unfold encL; rw [size_list]; exact encB_size c
/-- Where the first number sign stands. -/
def frm (l : List (Int × Int)) : Nat := (l.takeWhile fun x => !isN x).length
def rst (l : List (Int × Int)) : List (Int × Int) := l.dropWhile fun x => !isN x
/-- How many stand side by side. -/
def mny (l : List (Int × Int)) : Nat := ((rst l).takeWhile isN).length
theorem tw_holds {α : Type} {f : α → Bool} {l : List α} : ∀ x ∈ l.takeWhile f, f x = true := by
  induction l with
  | nil => intro x hx; simp at hx
  | cons y r ih =>
    intro x hx
    rw [List.takeWhile_cons] at hx
    cases hy : f y
    · rw [hy] at hx; simp at hx
    · rw [hy, if_pos rfl] at hx
      rcases List.mem_cons.1 hx with rfl | hx
      · exact hy
      · exact ih x hx
theorem tw_get {α : Type} {f : α → Bool} {l : List α} {k : Nat} (h : k < (l.takeWhile f).length) : ∃ hk : k < l.length, f (l[k]'hk) = true := by
  have h1 : (l.takeWhile f).length ≤ l.length := (List.takeWhile_prefix f).length_le
  refine ⟨by omega, ?_⟩
  have h2 := tw_holds _ (List.getElem_mem h)
  have h3 : (l.takeWhile f)[k] = l[k]'(by omega) := (List.takeWhile_prefix f).getElem h
  rw [h3] at h2
  exact h2
theorem tw_end {α : Type} {f : α → Bool} {l : List α} (h : (l.takeWhile f).length < l.length) : f (l[(l.takeWhile f).length]'h) = false := by
  induction l with
  | nil => simp at h
  | cons x r ih =>
    cases hx : f x
    · simp [List.takeWhile_cons, hx]
    · simp only [List.takeWhile_cons, hx, if_true, List.length_cons] at h ⊢
      have := ih (by simpa using h)
      simpa using this
theorem tw_drop {α : Type} (f : α → Bool) (l : List α) : l.dropWhile f = l.drop (l.takeWhile f).length := by
  induction l with
  | nil => rfl
  | cons x r ih =>
    cases hx : f x
    · simp [List.takeWhile_cons, List.dropWhile_cons, hx]
    · simp [List.takeWhile_cons, List.dropWhile_cons, hx, ih]
theorem tw_take {α : Type} (f : α → Bool) (l : List α) : l.takeWhile f = l.take (l.takeWhile f).length := by
  induction l with
  | nil => rfl
  | cons x r ih =>
    cases hx : f x
    · simp [List.takeWhile_cons, hx]
    · simp only [List.takeWhile_cons, hx, if_true, List.length_cons, List.take_succ_cons]
      rw [← ih]
theorem rst_eq (l : List (Int × Int)) : rst l = l.drop (frm l) := tw_drop _ l
theorem frm_le (l : List (Int × Int)) : frm l ≤ l.length := (List.takeWhile_prefix _).length_le
theorem mny_le (l : List (Int × Int)) : frm l + mny l ≤ l.length := by
  have h1 : mny l ≤ (rst l).length := (List.takeWhile_prefix isN).length_le
  rw [rst_eq, List.length_drop] at h1
  have := frm_le l
  omega
theorem kind_at (l : List (Int × Int)) (k : Nat) (hk : k < l.length) : ((tkP l).getD k (0, [])).1 = (l[k]'hk).1 ∧ ((tkP l).getD k (0, [])).2 = encL (l[k]'hk).2 := by
  unfold tkP
  rw [List.getD_eq_getElem?_getD, List.getElem?_map, List.getElem?_eq_getElem hk]
  exact ⟨rfl, rfl⟩
theorem frm_lt {l : List (Int × Int)} {k : Nat} (h : k < frm l) : ∃ hk : k < l.length, (l[k]'hk).1 ≠ 4 := by
  obtain ⟨hk, h1⟩ := tw_get h
  refine ⟨hk, ?_⟩
  simp only [isN, Bool.not_eq_true', beq_eq_false_iff_ne] at h1
  exact h1
theorem frm_end {l : List (Int × Int)} (h : frm l < l.length) : (l[frm l]'h).1 = 4 := by
  have := tw_end (f := fun x => !isN x) (l := l) h
  simp only [isN, Bool.not_eq_false', beq_iff_eq] at this
  exact this
theorem mny_lt {l : List (Int × Int)} {j : Nat} (h : j < mny l) : ∃ hk : frm l + j < l.length, (l[frm l + j]'hk).1 = 4 := by
  have h0 := mny_le l
  obtain ⟨hk, h1⟩ := tw_get (l := rst l) h
  refine ⟨by omega, ?_⟩
  have e : (rst l)[j] = l[frm l + j]'(by omega) := by
    simp only [rst_eq, List.getElem_drop]
  rw [e] at h1
  simpa [isN] using h1
theorem mny_end {l : List (Int × Int)} (h : frm l + mny l < l.length) : (l[frm l + mny l]'h).1 ≠ 4 := by
  have hr : mny l < (rst l).length := by rw [rst_eq, List.length_drop]; omega
  have := tw_end (f := isN) (l := rst l) hr
  have e : (rst l)[((rst l).takeWhile isN).length]'hr = l[frm l + mny l]'h := by
    simp only [rst_eq, List.getElem_drop, mny]
  rw [e] at this
  simpa [isN] using this
theorem suf_eq (l : List (Int × Int)) : (rst l).dropWhile isN = l.drop (frm l + mny l) := by
  unfold mny
  rw [tw_drop isN, rst_eq, List.drop_drop]
theorem sgn_eq (l : List (Int × Int)) : (rst l).takeWhile isN = (l.drop (frm l)).take (mny l) := by
  unfold mny
  rw [rst_eq]
  exact tw_take isN _
/-- Of a half: what is made of its parts. -/
theorem half_eq (l : List (Int × Int)) : half l = if (l.drop (frm l + mny l)).any isN = true then none else (num (((l.drop (frm l)).take (mny l)).map (·.2))).map fun n => ⟨joinT [] (l.take (frm l)), joinT [] (l.drop (frm l + mny l)), n⟩ := by
  unfold half
  have e1 : l.dropWhile (fun x => !isN x) = rst l := rfl
  simp only [e1, suf_eq, sgn_eq]
  rw [tw_take (fun x => !isN x) l]
  rfl
theorem tkP_take (l : List (Int × Int)) (k : Nat) : (tkP l).take k = tkP (l.take k) := by unfold tkP; rw [List.map_take]
theorem tkP_drop (l : List (Int × Int)) (k : Nat) : (tkP l).drop k = tkP (l.drop k) := by unfold tkP; rw [List.map_drop]
theorem tkP_len (l : List (Int × Int)) : (tkP l).length = l.length := by unfold tkP; rw [List.length_map]
theorem tkP_txt (l : List (Int × Int)) : ∀ p ∈ tkP l, p.2.length ≤ 4 := by
  intro p hp
  obtain ⟨x, _, rfl⟩ := List.mem_map.1 hp
  exact encL_len x.2
/-- The bytes of signs side by side. -/
def sgB (l : List (Int × Int)) : List UInt8 := l.flatMap fun x => encL x.2
theorem sgB_bys (l : List (Int × Int)) (h : ∀ x ∈ l, x.1 = 4) (hk : sgnOk l) : bys ⟨(sgB l).toArray⟩ = l.map (·.2) := by
  unfold bys sgB
  show ((l.flatMap fun x => encL x.2).map fun b => ((b.toNat : Nat) : Int)) = _
  induction l with
  | nil => rfl
  | cons x r ih =>
    obtain ⟨b, h1, h2⟩ := hk x List.mem_cons_self (h x List.mem_cons_self)
    rw [List.flatMap_cons, h1]
    simp only [List.singleton_append, List.map_cons, h2]
    rw [ih (fun y hy => h y (List.mem_cons_of_mem _ hy)) (fun y hy => hk y (List.mem_cons_of_mem _ hy))]
theorem sgB_len (l : List (Int × Int)) : (sgB l).length ≤ 4 * l.length := by
  unfold sgB
  induction l with
  | nil => simp
  | cons x r ih => rw [List.flatMap_cons, List.length_append, List.length_cons]; have := encL_len x.2; omega
theorem sgB_snoc (l : List (Int × Int)) (k : Nat) (hk : k < l.length) : sgB (l.take (k + 1)) = sgB (l.take k) ++ encL (l[k]'hk).2 := by
  unfold sgB
  rw [List.take_succ_eq_append_getElem hk, List.flatMap_append, List.flatMap_cons, List.flatMap_nil, List.append_nil]

/-- What half answers. -/
def HalfIs (w' : World) (B : Nat) (r : Option Hf) (e : Ending) : Prop :=
  (r = none ∧ ∃ a1 n1 c1 a2 n2 c2 p q i m x l, e = .returned (.tuple #[pv (.slice a1 n1 c1) (.slice a2 n2 c2) nilV nilV p q i m x, .bool false, .bool l])) ∨
  ∃ h a b, r = some h ∧ e = .returned (.tuple #[pv a b nilV nilV h.nm.pr h.nm.se h.nm.mi h.nm.mf h.nm.xf, .bool true, .bool h.nm.long]) ∧ Pc.New w' B a h.pre ∧ Pc.New w' B b h.suf

end Pr
end Go.Proofs.YtglljkbpdbnhaaaGreatDoor
