/- The document's own answers on patterns: joined, SamePieces. -/
import Derived.Test.YtjloibgjnnknnaaDoorRows
import Derived.Test.YtjloibgjnnknnaaDoorInts
import Derived.Test.YtjloibgjnnknnaaDoorUtfM
import Derived.Test.YtjloibgjnnknnaaDoorUtfG
import Derived.Test.YtjloibgjnnknnaaDoorUtfR
import Derived.Test.YtjloibgjnnknnaaDoorEls
import Derived.Test.YtjloibgjnnknnaaDoorPcs
import Derived.Test.YtjloibgjnnknnaaDoorPatM
import Derived.Test.YtjloibgjnnknnaaDoorPatR
import Derived.Test.YtjloibgjnnknnaaDoorPatS
import Derived.Deep.QuietTactic
import Derived.BigQuiet
set_option linter.unusedVariables false
set_option linter.unusedSimpArgs false
namespace Go.Proofs.YtjloibgjnnknnaaDoor
open Go.RowKit
namespace Pr
open Pt Um

/-- Pieces joined, over what they bear. -/
def joinE : List UInt8 → List Pc.E → List Pc.E
  | t, [] => if t = [] then [] else [(0, t)]
  | t, p :: r => if p.1 = 0 then joinE (t ++ p.2) r else (if t = [] then [] else [(0, t)]) ++ (p.1, []) :: joinE [] r
theorem joinE_tk (l : List (Int × Int)) : ∀ t, joinE t (tkP l) = joinT t l := by
  induction l with
  | nil => intro t; rfl
  | cons x r ih =>
    intro t
    show (if x.1 = 0 then joinE (t ++ encL x.2) (tkP r) else (if t = [] then [] else [(0, t)]) ++ (x.1, []) :: joinE [] (tkP r)) = _
    rw [ih, ih]; rfl
theorem joinE_cons (t : List UInt8) (p : Pc.E) (r : List Pc.E) : joinE t (p :: r) = if p.1 = 0 then joinE (t ++ p.2) r else (if t = [] then [] else [(0, t)]) ++ (p.1, []) :: joinE [] r := rfl
theorem joinE_nil (t : List UInt8) : joinE t [] = if t = [] then [] else [(0, t)] := rfl
theorem joinE_len (l : List Pc.E) : ∀ t, (joinE t l).length ≤ 2 * l.length + 1 := by
  induction l with
  | nil => intro t; unfold joinE; split <;> simp
  | cons p r ih =>
    intro t
    rw [joinE_cons]
    split
    · have := ih (t ++ p.2); simp; omega
    · have := ih []
      split <;> simp <;> omega
theorem dropE_at (l : List Pc.E) (k : Nat) (hk : k < l.length) : l.drop k = l.getD k (0, []) :: l.drop (k + 1) := by
  rw [List.getD_eq_getElem?_getD, List.getElem?_eq_getElem hk]
  exact List.drop_eq_getElem_cons hk
theorem app_eq (a : List UInt8) (b : List UInt8) : (⟨a.toArray⟩ : ByteArray) ++ ⟨b.toArray⟩ = ⟨(a ++ b).toArray⟩ := by
  apply ba_ext
  rw [ByteArray.data_append]
  simp
theorem empty_iff (t : List UInt8) : (⟨t.toArray⟩ : ByteArray).toList.isEmpty = decide (t = []) := by
  rw [ByteArray.toList_eq, Bool.eq_iff_iff]; simp
theorem empty_iff2 (t : List UInt8) : ((⟨t.toArray⟩ : ByteArray).toList == []) = decide (t = []) := by
  rw [ByteArray.toList_eq, Bool.eq_iff_iff]; simp

end Pr
end Go.Proofs.YtjloibgjnnknnaaDoor
