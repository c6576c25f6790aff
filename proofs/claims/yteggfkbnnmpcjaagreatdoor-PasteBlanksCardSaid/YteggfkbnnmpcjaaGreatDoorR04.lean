/- A list copied into one of the call's own; bytes that the call makes, written in place, and their text. (and more) -/
import Derived.Test.YteggfkbnnmpcjaaGreatDoorR02
import Derived.Laws.BytesArg
set_option linter.all false
set_option maxRecDepth 100000
set_option maxHeartbeats 8000000
namespace Go.Proofs.YteggfkbnnmpcjaaGreatDoor
section
open Go.RowKit
abbrev BOwn (w:World) (B:Nat) (v:Value) (zs:List Int):Prop:=GOwn 5 (Value.int .u8) w B v zs
theorem infoByte:(Tryz.prog.info? 5).map (fun i=>(i.zero,i.size,i.bytes)) = some (some (.int .u8 0),1,1):=by kernel_rfl
theorem make_bytes {w:World} {B:Nat} {ops:Array Oper} {rest:List Oper} {o:Oper} {a:Act} {R:Exit -> Act -> World -> Prop} (hgd:o.guard = none) (l c:Operand)
  (ho:o.op = .makeSlice 62 l c) (n:Nat) (L:Int) (hl:a.eval l = .int .i64 L) (hc:a.eval c = .int .i64 L) (hL:L = (n:Int)) (hn:n < 1099511627776) (hB:B <= w.heap.size)
  (h:∀ w',BOwn w' B (.slice (some ⟨w.heap.size,0,none⟩) n n) (List.replicate n 0) -> Q w w' -> wpList Tryz.prog ops R rest (a.put o.dst (.slice (some ⟨w.heap.size,0,none⟩) n n)) w') :
  wpList Tryz.prog ops R (o :: rest) a w:=by
 obtain ⟨i0,hi,hz0,hz1,hz2⟩:=info_parts infoByte;refine wpList_make_full w hgd l c _ ho B 5 i0 (.int .u8 0) 1 Tryz.underlying62 hi hz0 hz1 .i64 .i64 L L n hl hc hL hL (by rw [hz2];omega) (by unfold maxLen;omega) hB ?_;intro w' hown hg;refine h w' ?_ ((Q.refl w).grown hg (fun k hk=>by cases hk));unfold BOwn GOwn;rw [List.length_replicate,List.map_replicate];have e:(madeCells (Value.cells (.int .u8 0)) (n * 1)).toList = List.replicate n (Value.int .u8 0):=by
  rw [Nat.mul_one];exact toList_madeCells_one _ _
 rw [e] at hown;exact hown
theorem conv_own {w:World} {B g n cap:Nat} {zs:List Int} (h:BOwn w B (.slice (some ⟨g,0,none⟩) n cap) zs) (hn:zs.length = n) :
  (convert 62 9 (.slice (some ⟨g,0,none⟩) n cap)).run Tryz.prog w = .ok (.string (strOfNums zs)) w:=by
 refine run_convert_bytes_arg _ 62 5 Tryz.underlying62 Tryz.underlying5 g 0 n cap zs hn ?_ 9 Tryz.underlying9;intro i hi;rw [Nat.zero_add];refine GOwn.cellAt h hn ?_;rw [List.getD_eq_getElem?_getD,List.getElem?_eq_getElem (by omega)];rfl
end
end Go.Proofs.YteggfkbnnmpcjaaGreatDoor
