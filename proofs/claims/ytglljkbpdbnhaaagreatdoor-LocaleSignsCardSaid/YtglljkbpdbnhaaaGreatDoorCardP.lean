/- A world in which the listed variables (utf8's two tables) lie as the rows say. Our own work. -/
import Derived.Test.YtglljkbpdbnhaaaGreatDoorRows
import Derived.ChangeSame
import Derived.ChangeVars
import Derived.JoinedOf
import Derived.RowKit
import Derived.RowKitTokens
import Derived.LaidLaws
import Derived.LaidHandle
import Derived.Stop.Joined
import Derived.Lib.LaidTab
import Derived.Stop.LaidErr
import Derived.OpenShut
set_option linter.unusedVariables false
set_option linter.unusedSimpArgs false
namespace Go.Proofs.YtglljkbpdbnhaaaGreatDoor
open Go.ChangeShapes Go.WideShapes Go.RowKit

/-- The variables that the rows list. -/
def laidL : List (String × DataW Unit) := [("unicode/utf8.acceptRanges", Rows.laid_unicode_utf8_acceptRanges), ("unicode/utf8.first", Rows.laid_unicode_utf8_first)]
theorem laidNone : (laidL.filter fun x => x.2.handleName?.isNone) = laidL := by kernel_rfl

/-- A world that meets the condition: the settled one, the variables laid. -/
def numOf : DataW Unit → List Value
  | .lit (.int k n) => [Value.int k n]
  | .agg [.lit (.int k n), .lit (.int k' n')] => [Value.int k n, Value.int k' n']
  | _ => []
def numsOf : DataW Unit → Array Value
  | .agg parts => (parts.flatMap numOf).toArray
  | _ => #[]
noncomputable def laidWorld (os : Os) : World :=
  let w0 := World.holding Tryz.prog os ⟨#[], #[], []⟩
  let put := fun (h : Array Obj) (g : Nat) (cs : Array Value) => h.modify g fun
      | .cells _ t frozen => .cells cs t frozen
      | o => o
  { w0 with heap := put (put w0.heap 2 (numsOf Rows.laid_unicode_utf8_acceptRanges)) 1 (numsOf Rows.laid_unicode_utf8_first) }
theorem laidWorld_met (os : Os) (args : Array Value) : laidMetH Tryz.prog laidL ((laidWorld os).forCall (fun _ _ => 0) ⟨#[], args, []⟩).memory := by
  refine laidMetH_of_parts ?_ (by kernel_rfl)
  rw [laidNone]
  exact laidMet_of_run' 8 (by kernel_rfl) (by kernel_rfl)
end Go.Proofs.YtglljkbpdbnhaaaGreatDoor
