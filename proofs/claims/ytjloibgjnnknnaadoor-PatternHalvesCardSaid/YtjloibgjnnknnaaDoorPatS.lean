/- The document's own answers on patterns: tokens, joined. -/
import Derived.Test.YtjloibgjnnknnaaDoorRows
import Derived.Test.YtjloibgjnnknnaaDoorInts
import Derived.Test.YtjloibgjnnknnaaDoorUtfM
import Derived.Test.YtjloibgjnnknnaaDoorUtfG
import Derived.Test.YtjloibgjnnknnaaDoorUtfR
import Derived.Test.YtjloibgjnnknnaaDoorPcs
import Derived.Test.YtjloibgjnnknnaaDoorPatM
import Derived.Test.YtjloibgjnnknnaaDoorPatR
import Derived.Deep.QuietTactic
import Derived.BigQuiet
set_option linter.unusedVariables false
set_option linter.unusedSimpArgs false
namespace Go.Proofs.YtjloibgjnnknnaaDoor
open Go.RowKit
namespace Pr
open Pt Um

theorem elB : Pc.El 25 22 := ⟨by kernel_rfl, Tryd.underlying22⟩
abbrev OwnB (w : World) (B : Nat) (v : Value) (l : List Pc.E) : Prop := Pc.OwnE 25 w B v l
/-- Tokens, with their texts. -/
def tkP (l : List (Int × Int)) : List Pc.E := l.map fun x => (x.1, encL x.2)
theorem tkP_app (a : List (Int × Int)) (x : Int × Int) : tkP (a ++ [x]) = tkP a ++ [(x.1, encL x.2)] := by simp [tkP]
theorem encL_quote : encL 39 = [39] := by decide +kernel
theorem tok_turn (q : Bool) (r : List Int) (h : r = [] ∨ r.getD 0 0 ≠ 39) : tokS q true r = tokS (!q) false r := by
  cases r with
  | nil => cases q <;> rfl
  | cons c r =>
    have hc : c ≠ 39 := by
      rcases h with h | h
      · cases h
      · simpa using h
    rw [tokS_cons, tokS_cons, if_neg hc, if_neg hc]
    cases q <;> rfl
theorem drop_at (cs : List Int) (k : Nat) (hk : k < cs.length) : cs.drop k = cs.getD k 0 :: cs.drop (k + 1) := by
  rw [List.getD_eq_getElem?_getD, List.getElem?_eq_getElem hk]
  exact List.drop_eq_getElem_cons hk
theorem tokS_len (cs : List Int) : ∀ q p l, tokS q p cs = some l → l.length ≤ cs.length := by
  induction cs with
  | nil =>
    intro q p l h
    unfold tokS at h
    split at h
    · cases h
    · cases h; simp
  | cons c r ih =>
    intro q p l h
    rw [tokS_cons] at h
    split at h
    · split at h
      · obtain ⟨m, hm, rfl⟩ := Option.map_eq_some_iff.1 h
        have := ih _ _ _ hm
        simp; omega
      · have := ih _ _ _ h
        simp; omega
    · split at h
      · obtain ⟨m, hm, rfl⟩ := Option.map_eq_some_iff.1 h
        have := ih _ _ _ hm
        simp; omega
      · split at h
        · cases h
        · obtain ⟨m, hm, rfl⟩ := Option.map_eq_some_iff.1 h
          have := ih _ _ _ hm
          simp; omega

/-- How far the loop has come: o is out, the rest stands. -/
def Far (cs : List Int) (k : Nat) (q : Bool) (o : List (Int × Int)) : Prop := (tokS q false (cs.drop k)).map (o ++ ·) = tkn cs ∧ o.length ≤ k
theorem Far.start (cs : List Int) : Far cs 0 false [] := ⟨by unfold tkn; simp, by simp⟩
theorem Far.two {cs : List Int} {k : Nat} {q : Bool} {o : List (Int × Int)} (h : Far cs k q o) (hk : k + 1 < cs.length) (h1 : cs.getD k 0 = 39) (h2 : cs.getD (k + 1) 0 = 39) : Far cs (k + 2) q (o ++ [(0, 39)]) := by
  obtain ⟨h, hl⟩ := h
  rw [drop_at cs k (by omega), h1, drop_at cs (k + 1) hk, h2, tokS_cons, if_pos rfl, if_neg (by decide), tokS_cons, if_pos rfl, if_pos rfl, Option.map_map] at h
  refine ⟨?_, by simp; omega⟩
  rw [← h]
  congr 1
  funext x; simp
theorem Far.turn {cs : List Int} {k : Nat} {q : Bool} {o : List (Int × Int)} (h : Far cs k q o) (hk : k < cs.length) (h1 : cs.getD k 0 = 39) (h2 : ¬ (k + 1 < cs.length ∧ cs.getD (k + 1) 0 = 39)) : Far cs (k + 1) (!q) o := by
  obtain ⟨h, hl⟩ := h
  rw [drop_at cs k hk, h1, tokS_cons, if_pos rfl, if_neg (by decide)] at h
  refine ⟨?_, by omega⟩
  rw [← h, tok_turn q]
  by_cases hn : k + 1 < cs.length
  · right
    rw [drop_at cs (k + 1) hn]
    simpa using fun e => h2 ⟨hn, by simpa using e⟩
  · left
    exact List.drop_eq_nil_of_le (by omega)
theorem Far.in {cs : List Int} {k : Nat} {o : List (Int × Int)} (h : Far cs k true o) (hk : k < cs.length) (h1 : cs.getD k 0 ≠ 39) : Far cs (k + 1) true (o ++ [(0, cs.getD k 0)]) := by
  obtain ⟨h, hl⟩ := h
  rw [drop_at cs k hk, tokS_cons, if_neg h1, if_pos (by decide), Option.map_map] at h
  refine ⟨?_, by simp; omega⟩
  rw [← h]
  congr 1
  funext x; simp
theorem Far.bad {cs : List Int} {k : Nat} {o : List (Int × Int)} (h : Far cs k false o) (hk : k < cs.length) (h1 : cs.getD k 0 ≠ 39) (h6 : kindC (cs.getD k 0) = 6) : tkn cs = none := by
  obtain ⟨h, hl⟩ := h
  rw [drop_at cs k hk, tokS_cons, if_neg h1, if_neg (by decide), if_pos h6] at h
  exact h.symm
theorem Far.out {cs : List Int} {k : Nat} {o : List (Int × Int)} (h : Far cs k false o) (hk : k < cs.length) (h1 : cs.getD k 0 ≠ 39) (h6 : kindC (cs.getD k 0) ≠ 6) : Far cs (k + 1) false (o ++ [(kindC (cs.getD k 0), cs.getD k 0)]) := by
  obtain ⟨h, hl⟩ := h
  rw [drop_at cs k hk, tokS_cons, if_neg h1, if_neg (by decide), if_neg h6, Option.map_map] at h
  refine ⟨?_, by simp; omega⟩
  rw [← h]
  congr 1
  funext x; simp
theorem Far.fin {cs : List Int} {q : Bool} {o : List (Int × Int)} (h : Far cs cs.length q o) : tkn cs = if q = true then none else some o := by
  obtain ⟨h, hl⟩ := h
  rw [List.drop_eq_nil_of_le (Nat.le_refl _)] at h
  rw [← h]
  cases q <;> simp [tokS]

end Pr
end Go.Proofs.YtjloibgjnnknnaaDoor
