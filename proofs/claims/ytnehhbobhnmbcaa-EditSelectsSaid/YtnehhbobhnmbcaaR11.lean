/- What the document's own answers on decimals come to, by a walk through each: a struct by value (.agg of a sign, a list, a scale). (and more) -/
import Derived.Test.YtnehhbobhnmbcaaR06
import Derived.Test.YtnehhbobhnmbcaaR07
import Derived.Deep.RegionHeld3
set_option linter.all false
set_option maxRecDepth 100000
set_option maxHeartbeats 8000000
namespace Go.Proofs.Ytnehhbobhnmbcaa
section
open Go.RowKit
namespace Er
def dv (g:Bool) (v:Value) (s:Int):Value:=.agg #[.bool g,v,.int .i64 s]
theorem block_cells {w:World} {g:Nat} {b:Bool} {v:Value} {s:Int} {T:TypeId} (h:w.heap[g]? = some (.cells #[.bool b,v,.int .i64 s] T)) :
  w.cell? ⟨g,0,none⟩ = some (.bool b) /\ w.cell? ⟨g,1,none⟩ = some v /\ w.cell? ⟨g,2,none⟩ = some (.int .i64 s) /\ w.frozen? ⟨g,0,none⟩ = false /\ w.frozen? ⟨g,1,none⟩ = false /\ w.frozen? ⟨g,2,none⟩ = false:=by
 simp [World.cell?,World.frozen?,h]
theorem block_set {w:World} {g:Nat} {x y z x' y' z':Value} {T:TypeId} (h:w.heap[g]? = some (.cells #[x,y,z] T)) :
  (((w.setCell ⟨g,0,none⟩ x').setCell ⟨g,1,none⟩ y').setCell ⟨g,2,none⟩ z').heap[g]? = some (.cells #[x',y',z'] T):=by
 have h1:=heap_setCell_same w g 0 _ T x' h;have h2:=heap_setCell_same _ g 1 _ T y' h1;have h3:=heap_setCell_same _ g 2 _ T z' h2;exact h3
def cellV (b i:Nat) (u:World):Value:=(u.cell? ⟨b,i,none⟩).getD undef
theorem some_cells {w:World} {g:Nat} {x y z:Value} {T:TypeId} (h:w.heap[g]? = some (.cells #[x,y,z] T)) :
  w.cell? ⟨g,0,none⟩ = some (cellV g 0 w) /\ w.cell? ⟨g,1,none⟩ = some (cellV g 1 w) /\ w.cell? ⟨g,2,none⟩ = some (cellV g 2 w) /\ w.frozen? ⟨g,0,none⟩ = false /\ w.frozen? ⟨g,1,none⟩ = false /\ w.frozen? ⟨g,2,none⟩ = false:=by
 simp [cellV,World.cell?,World.frozen?,h]
theorem Own.put {w u:World} {v:Value} {zs:List Int} (h:Own u (w.heap.size + 2) v zs) (x y z:Value):Own (((u.setCell ⟨w.heap.size + 1,0,none⟩ x).setCell ⟨w.heap.size + 1,1,none⟩ y).setCell ⟨w.heap.size + 1,2,none⟩ z) (w.heap.size + 2) v zs :=
 h.same fun g hg=>by
  have hB:=(h.lt g hg).1;rw [heap_setCell_other _ ⟨w.heap.size + 1,2,none⟩ _ z (by show g ≠ w.heap.size + 1;omega),heap_setCell_other _ ⟨w.heap.size + 1,1,none⟩ _ y (by show g ≠ w.heap.size + 1;omega),heap_setCell_other _ ⟨w.heap.size + 1,0,none⟩ _ x (by show g ≠ w.heap.size + 1;omega)]
def LF (w:World) (B:Nat) (v:Value) (xs:List Int):Prop:=∃ a n c,v = .slice a n c /\ Lst w v xs /\ n = xs.length /\ ∀ ad,a = some ad -> n ≠ 0 -> B <= ad.block
theorem LF.lst {w:World} {B:Nat} {v:Value} {xs:List Int} (h:LF w B v xs):Lst w v xs:=by obtain ⟨_,_,_,_,h,_⟩:=h;exact h
theorem LF.q {w w':World} {B:Nat} {v:Value} {xs:List Int} (h:LF w B v xs) (hq:Q w w'):LF w' B v xs:=by obtain ⟨a,n,c,h0,h1,h2⟩:=h;exact ⟨a,n,c,h0,h1.q hq,h2⟩
theorem LF.mono {w:World} {B B':Nat} {v:Value} {xs:List Int} (h:LF w B v xs) (hB:B' <= B):LF w B' v xs:=by obtain ⟨a,n,c,h0,h1,h2,h3⟩:=h;exact ⟨a,n,c,h0,h1,h2,fun ad ha hn=>Nat.le_trans hB (h3 ad ha hn)⟩
theorem LF.of {w:World} {B:Nat} {v:Value} {xs:List Int} (h:Own w B v xs):LF w B v xs:=by
 rcases h.2 with ⟨hv,hn⟩ | ⟨g,cap,cur,hv,hg,_⟩
 ·exact ⟨_,_,_,hv,h.lst,hn.symm,fun ad ha=>by cases ha⟩
 ·exact ⟨_,_,_,hv,h.lst,rfl,fun ad ha _=>by cases ha;exact hg⟩
theorem LF.nil (w:World) (B:Nat):LF w B (.slice none 0 0) []:=⟨_,_,_,rfl,.nil _ _ _ (by unfold maxLen;omega) (fun _=>rfl),rfl,fun ad ha=>by cases ha⟩
theorem LF.put {u:World} {B r:Nat} {v:Value} {zs:List Int} (h:LF u B v zs) (hr:r < B) (x y z:Value):LF (((u.setCell ⟨r,0,none⟩ x).setCell ⟨r,1,none⟩ y).setCell ⟨r,2,none⟩ z) B v zs:=by
 obtain ⟨a,n,c,rfl,h1,h2,h3⟩:=h;have hne:∀ (ad:Addr) (n' c':Nat),(Value.slice a n c) = .slice (some ad) n' c' -> n' ≠ 0 -> ad.block ≠ r:=by
  intro ad n' c' e hn;cases e;have:=h3 ad rfl hn;omega
 exact ⟨a,n,c,rfl,((h1.setCell (ad:=⟨r,0,none⟩) x hne).setCell (ad:=⟨r,1,none⟩) y hne).setCell (ad:=⟨r,2,none⟩) z hne,h2,h3⟩
theorem LF.shape {w:World} {B:Nat} {v:Value} {xs:List Int} (h:LF w B v xs):∃ a c,v = .slice a xs.length c:=by obtain ⟨a,n,c,h0,_,h2,_⟩:=h;exact ⟨a,c,by rw [h0,h2]⟩
end Er
end
section
open Go.RowKit
namespace Dr
theorem str_snoc (A:List Int) (x:Int):strOfNums (A ++ [x]) = strOfNums A ++ strOfNums [x]:=by
 have e:(strOfNums (A ++ [x])).data.toList = (strOfNums A ++ strOfNums [x]).data.toList:=by
  rw [strOfNums_data,ByteArray.data_append,Array.toList_append,strOfNums_data,strOfNums_data,List.map_append]
 have e2:=Array.toList_inj.1 e;generalize strOfNums (A ++ [x]) = t at *;generalize strOfNums A ++ strOfNums [x] = u at *;cases t;cases u;simp only at e2;rw [e2]
end Dr
end
end Go.Proofs.Ytnehhbobhnmbcaa
