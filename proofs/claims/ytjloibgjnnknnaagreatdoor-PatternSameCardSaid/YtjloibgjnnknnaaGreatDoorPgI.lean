/- Pieces' texts. -/
import Derived.Test.YtjloibgjnnknnaaGreatDoorRows
import Derived.Test.YtjloibgjnnknnaaGreatDoorInts
import Derived.Test.YtjloibgjnnknnaaGreatDoorUtfM
import Derived.Test.YtjloibgjnnknnaaGreatDoorBld
import Derived.Test.YtjloibgjnnknnaaGreatDoorEls
import Derived.Test.YtjloibgjnnknnaaGreatDoorSto
import Derived.Test.YtjloibgjnnknnaaGreatDoorPcs
import Derived.Test.YtjloibgjnnknnaaGreatDoorPatM
import Derived.Test.YtjloibgjnnknnaaGreatDoorPgA
import Derived.Test.YtjloibgjnnknnaaGreatDoorPgC
set_option linter.unusedVariables false
set_option linter.unusedSimpArgs false
namespace Go.Proofs.YtjloibgjnnknnaaGreatDoor
open Go.RowKit
namespace Pg
open Pt Um

theorem fm_snoc {α : Type} (f : α → List UInt8) (l : List α) (k : Nat) (x : α) (hk : l[k]? = some x) : (l.take (k + 1)).flatMap f = (l.take k).flatMap f ++ f x := by
  have hk' := (List.getElem?_eq_some_iff.1 hk).1
  have e := (List.getElem?_eq_some_iff.1 hk).2
  rw [List.take_succ_eq_append_getElem hk', List.flatMap_append, e]
  simp
theorem fm_le {α : Type} (f : α → List UInt8) (l : List α) (k : Nat) : ((l.take k).flatMap f).length ≤ (l.flatMap f).length := by
  conv => rhs; rw [← List.take_append_drop k l, List.flatMap_append, List.length_append]
  omega
/-- A piece's text. -/
def rsP (c p m : ByteArray) (x : Pc.E) : List UInt8 := if x.1 = 0 then x.2 else if x.1 = 1 then c.data.toList else if x.1 = 2 then p.data.toList else if x.1 = 3 then m.data.toList else []

end Pg
end Go.Proofs.YtjloibgjnnknnaaGreatDoor
