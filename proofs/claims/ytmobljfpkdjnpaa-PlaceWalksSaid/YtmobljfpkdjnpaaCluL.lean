/- Joined: which characters may still change what joins, and the closure told each of them. -/
import Derived.Test.YtmobljfpkdjnpaaRows
import Derived.Test.YtmobljfpkdjnpaaInts
import Derived.Test.YtmobljfpkdjnpaaGap
import Derived.Test.YtmobljfpkdjnpaaCluM
import Derived.Test.YtmobljfpkdjnpaaCluJ
import Derived.WalkLawsBesides
set_option linter.unusedVariables false
set_option linter.unusedSimpArgs false
namespace Go.Proofs.Ytmobljfpkdjnpaa
open Go.RowKit Um Cm Gm

/-- The place from which on a list's characters tell what joins. -/
def IsSince (xs : List Int) (i : Nat) : Prop := i ≤ xs.length ∧ (i = 0 ∨ (i < xs.length ∧ cls (xs.getD i 0) ≠ 4 ∧ cls (xs.getD i 0) ≠ 5 ∧ cls (xs.getD i 0) ≠ 6))
def SincePost (xs : List Int) (w : World) (e : Ending) (w' : World) : Prop := ∃ i : Nat, e = .returned (.int .i64 i) ∧ IsSince xs i ∧ Q w w'

/-- A list without its first k numbers. -/
theorem Lst.drop {w : World} {g off n c : Nat} {zs : List Int} (h : Lst w (.slice (some ⟨g, off, none⟩) n c) zs) (k : Nat) (hk : k ≤ zs.length) : Lst w (.slice (some ⟨g, off + k, none⟩) (n - k) (c - k)) (zs.drop k) := by
  rcases h with ⟨rfl, a, c, hv, hc, hn⟩ | ⟨g, off, cap, hv, hg, h1, h2, hcell⟩
  · cases hv
    have : k = 0 := by simpa using hk
    subst this
    exact .nil _ _ _ (by omega) (fun h => by cases h)
  · cases hv
    have hl : (zs.drop k).length = zs.length - k := by simp
    refine .inr ⟨g, off + k, c - k, by rw [hl], hg, by omega, by omega, fun i hi => ?_⟩
    rw [hl] at hi
    rw [Nat.add_assoc, hcell (k + i) (by omega)]
    simp only [List.getD_eq_getElem?_getD, List.getElem?_drop]

theorem stL_take (l : List Int) (j : Nat) (h : j < l.length) : stL (l.take (j + 1)) = stp (stL (l.take j)) (cls (l.getD j 0)) := by
  rw [List.take_succ_eq_append_getElem h, stL_snoc, List.getD_eq_getElem?_getD, List.getElem?_eq_getElem h]; rfl
/-- What was told of the first, and of the closure's variables: they lie behind what was there. -/
theorem Q.joined {a w w' : World} {b : Nat} (h : Q a w) (hg : Gap b (b + 4) w w') (hb : a.heap.size ≤ b) : Q a w' :=
  Below.trans h ⟨hg.os, hg.tape, hg.output, hg.size, fun k hk => hg.block k (Nat.lt_of_lt_of_le hk h.size) (.inl (by omega))⟩

end Go.Proofs.Ytmobljfpkdjnpaa
