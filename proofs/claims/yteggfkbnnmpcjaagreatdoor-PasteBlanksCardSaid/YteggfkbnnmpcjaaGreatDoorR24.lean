/- A literal's text as it stands in a pattern's text. (and more) -/
import Derived.Test.YteggfkbnnmpcjaaGreatDoorR21
import Derived.Shelf.GgClosure.StringsRunes
set_option linter.all false
set_option maxRecDepth 100000
set_option maxHeartbeats 8000000
namespace Go.Proofs.YteggfkbnnmpcjaaGreatDoor
section
open Go.RowKit
namespace Pg
open Pt Um
abbrev Vl (cs:List Int):Prop:=∀ c ∈ cs,vld c = true
theorem Vl.cons {c:Int} {r:List Int} (h:Vl (c :: r)):vld c = true /\ Vl r:=⟨h c List.mem_cons_self,fun d hd=>h d (List.mem_cons_of_mem _ hd)⟩
end Pg
end
end Go.Proofs.YteggfkbnnmpcjaaGreatDoor
