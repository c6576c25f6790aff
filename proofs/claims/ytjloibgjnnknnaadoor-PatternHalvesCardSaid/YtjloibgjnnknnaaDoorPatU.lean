/- The document's own answers on patterns: number. -/
import Derived.Test.YtjloibgjnnknnaaDoorRows
import Derived.Test.YtjloibgjnnknnaaDoorInts
import Derived.Test.YtjloibgjnnknnaaDoorSto
import Derived.Test.YtjloibgjnnknnaaDoorUtfM
import Derived.Test.YtjloibgjnnknnaaDoorUtfG
import Derived.Test.YtjloibgjnnknnaaDoorUtfR
import Derived.Test.YtjloibgjnnknnaaDoorPcs
import Derived.Test.YtjloibgjnnknnaaDoorPatM
import Derived.Test.YtjloibgjnnknnaaDoorPatR
import Derived.Test.YtjloibgjnnknnaaDoorPatS
import Derived.Deep.QuietTactic
import Derived.Deep.RegionWith
import Derived.Deep.Cut
import Derived.Deep.DeepCutAuto
import Derived.BigQuiet
import Derived.Laws.ResultCell
import Derived.Lib.SmallJoins
set_option linter.unusedVariables false
set_option linter.unusedSimpArgs false
namespace Go.Proofs.YtjloibgjnnknnaaDoor
open Go.RowKit
namespace Pr
open Pt Um

abbrev nilV : Value := .slice none 0 0
/-- A pattern's value: four lists, five numbers. -/
def pv (a b c d : Value) (p s i m x : Int) : Value := .agg #[a, b, c, d, .int .i64 p, .int .i64 s, .int .i64 i, .int .i64 m, .int .i64 x]
theorem numS_cons (n : NS) (c : Int) (r : List Int) : numS n (c :: r) =
    if c = 46 then (if n.point = true ∨ n.whole = 0 ∨ (0 < n.commas ∧ n.since = 0) then none else numS { n with point := true } r)
    else if n.point = true then (if c = 44 ∨ (c = 48 ∧ n.minF < n.maxF) then none else numS { n with maxF := n.maxF + 1, minF := if c = 48 then n.minF + 1 else n.minF } r)
    else if c = 44 then (if n.since = 0 then none else numS { n with group := n.since, since := 0, commas := n.commas + 1 } r)
    else if c = 35 ∧ 0 < n.zeros then none
    else numS { n with zeros := if c = 48 then n.zeros + 1 else n.zeros, whole := n.whole + 1, since := n.since + 1 } r := rfl
/-- A text's bytes, as numbers. -/
def bys (s : ByteArray) : List Int := s.data.toList.map fun b => ((b.toNat : Nat) : Int)
theorem bys_len (s : ByteArray) : (bys s).length = s.size := by unfold bys; rw [List.length_map, size_list]
theorem bys_at (s : ByteArray) (k : Nat) (hk : k < s.size) : (bys s).drop k = (((s[k]'hk).toNat : Nat) : Int) :: (bys s).drop (k + 1) := by
  rw [drop_at (bys s) k (by rw [bys_len]; exact hk)]
  congr 1
  unfold bys
  rw [List.getD_eq_getElem?_getD, List.getElem?_eq_getElem (by rw [List.length_map, size_list]; exact hk), List.getElem_map]
  rfl
/-- What of a number is told where the loop stands. -/
structure NB (n : NS) (k : Nat) : Prop where
  a : 0 ≤ n.since ∧ n.since ≤ k
  b : 0 ≤ n.group ∧ n.group ≤ k
  c : 0 ≤ n.commas ∧ n.commas ≤ k
  d : 0 ≤ n.whole ∧ n.whole ≤ k
  e : 0 ≤ n.zeros ∧ n.zeros ≤ k
  f : 0 ≤ n.minF ∧ n.minF ≤ k
  g : 0 ≤ n.maxF ∧ n.maxF ≤ k

theorem Q.puts {a w : World} (h : Q a w) {g : Nat} (hg : a.heap.size ≤ g) (v0 v1 v2 v3 v4 v5 v6 v7 v8 : Value) : Q a (((((((((w.setCell ⟨g, 0, none⟩ v0).setCell ⟨g, 1, none⟩ v1).setCell ⟨g, 2, none⟩ v2).setCell ⟨g, 3, none⟩ v3).setCell ⟨g, 4, none⟩ v4).setCell ⟨g, 5, none⟩ v5).setCell ⟨g, 6, none⟩ v6).setCell ⟨g, 7, none⟩ v7).setCell ⟨g, 8, none⟩ v8) :=
  ((((((((h.setCell (ad := ⟨g, 0, none⟩) hg _).setCell (ad := ⟨g, 1, none⟩) hg _).setCell (ad := ⟨g, 2, none⟩) hg _).setCell (ad := ⟨g, 3, none⟩) hg _).setCell (ad := ⟨g, 4, none⟩) hg _).setCell (ad := ⟨g, 5, none⟩) hg _).setCell (ad := ⟨g, 6, none⟩) hg _).setCell (ad := ⟨g, 7, none⟩) hg _).setCell (ad := ⟨g, 8, none⟩) hg _

/-- What number answers. -/
def NumIs (r : Option Nm) (e : Ending) : Prop :=
  (r = none ∧ ∃ p q i m x, e = .returned (.tuple #[pv nilV nilV nilV nilV p q i m x, .bool false, .bool false])) ∨
  ∃ n, r = some n ∧ e = .returned (.tuple #[pv nilV nilV nilV nilV n.pr n.se n.mi n.mf n.xf, .bool true, .bool n.long])

end Pr
end Go.Proofs.YtjloibgjnnknnaaDoor
