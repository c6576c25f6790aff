/- A world in which the listed variables (the tables of numbers' texts, utf8's two) lie as the rows say. Our own work. (and more) -/
import Derived.Test.YteggfkbnnmpcjaaGreatDoorR00
set_option linter.all false
set_option maxRecDepth 100000
set_option maxHeartbeats 8000000
namespace Go.Proofs.YteggfkbnnmpcjaaGreatDoor
section
open Go.ChangeShapes Go.WideShapes Go.RowKit
def laidL5:List (String × DataW Unit):=[("math/bits.deBruijn32tab",Rows.laid_math_bits_deBruijn32tab),("math/bits.deBruijn64tab",Rows.laid_math_bits_deBruijn64tab),("internal/strconv.uint64pow10",Rows.laid_internal_strconv_uint64pow10),("unicode/utf8.acceptRanges",Rows.laid_unicode_utf8_acceptRanges),("unicode/utf8.first",Rows.laid_unicode_utf8_first)]
theorem laidNone5:(laidL5.filter fun x=>x.2.handleName?.isNone) = laidL5:=by kernel_rfl
def numOf5:DataW Unit -> List Value
 | .lit (.int k n)=>[Value.int k n]
 | .agg [.lit (.int k n),.lit (.int k' n')]=>[Value.int k n,Value.int k' n']
 | _=>[]
def numsOf5:DataW Unit -> Array Value
 | .agg parts=>(parts.flatMap numOf5).toArray
 | _=>#[]
noncomputable def laidWorld5 (os:Os):World :=
 let w0:=World.holding Tryz.prog os ⟨#[],#[],[]⟩
 let put:=fun (h:Array Obj) (g:Nat) (cs:Array Value)=>h.modify g fun
   | .cells _ t frozen=>.cells cs t frozen
   | o=>o
 { w0 with heap:=put (put (put (put (put w0.heap 1 (numsOf5 Rows.laid_math_bits_deBruijn32tab)) 2 (numsOf5 Rows.laid_math_bits_deBruijn64tab)) 0 (numsOf5 Rows.laid_internal_strconv_uint64pow10)) 5 (numsOf5 Rows.laid_unicode_utf8_acceptRanges)) 4 (numsOf5 Rows.laid_unicode_utf8_first) }
theorem laidWorld_met5 (os:Os) (args:Array Value):laidMetH Tryz.prog laidL5 ((laidWorld5 os).forCall (fun _ _=>0) ⟨#[],args,[]⟩).memory:=by
 refine laidMetH_of_parts ?_ (by kernel_rfl);rw [laidNone5];exact laidMet_of_run' 8 (by kernel_rfl) (by kernel_rfl)
end
end Go.Proofs.YteggfkbnnmpcjaaGreatDoor
