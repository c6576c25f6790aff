/- Parts that are empty are struck from a list. (and more) -/
import Derived.Test.YteggfkbnnmpcjaaGreatDoorR30
import Derived.Lib.LazyBuf
import Derived.Laws.IdiomCopy
set_option linter.all false
set_option maxRecDepth 100000
set_option maxHeartbeats 8000000
namespace Go.Proofs.YteggfkbnnmpcjaaGreatDoor
section
open Go.RowKit
namespace Lo
open Um Cm Gm
def keepP (p:Pb.E):Bool:=p.1 || !p.2.isEmpty
theorem bs_ne {t:List UInt8} (h:t ≠ []):((⟨t.toArray⟩:ByteArray).toList == (⟨#[]⟩:ByteArray).toList) = false:=str_ne (fun e=>h (by have:=congrArg (fun b=>b.data.toList) e;simpa using this))
/-! ### what is struck -/
structure KI (l:List Pb.E) (L0:List Value) (i j:Nat) (L:List Value):Prop where
 lt:i < j
 len:L.length = L0.length
 cnt:((l.take j).filter keepP).length = i
 pre:L.take (i * 2) = Pb.flat ((l.take j).filter keepP)
 high:∀ x,j * 2 <= x -> L[x]? = L0[x]?
theorem take_at (l:List Pb.E) (j:Nat) (hj:j < l.length):l.take (j + 1) = l.take j ++ [l.getD j (false,[])]:=by
 rw [List.take_succ_eq_append_getElem hj,List.getD_eq_getElem?_getD,List.getElem?_eq_getElem hj];rfl
theorem KI.skip {l:List Pb.E} {L0 L:List Value} {i j:Nat} (h:KI l L0 i j L) (hj:j < l.length) (hk:keepP (l.getD j (false,[])) = false):KI l L0 i (j + 1) L:=by
 have e:(l.take (j + 1)).filter keepP = (l.take j).filter keepP:=by rw [take_at l j hj,List.filter_append,List.filter_cons,hk];simp
 exact ⟨by have:=h.lt;omega,h.len,by rw [e];exact h.cnt,by rw [e];exact h.pre,fun x hx=>h.high x (by omega)⟩
theorem set2_take {L A:List Value} {i:Nat} {x y:Value} (hA:L.take (i * 2) = A) (hi:i * 2 + 1 < L.length):((L.set (i * 2) x).set (i * 2 + 1) y).take ((i + 1) * 2) = A ++ [x,y]:=by
 have hAl:A.length = i * 2:=by rw [<- hA,List.length_take];omega
 apply List.ext_getElem?;intro m;rw [List.getElem?_take,List.getElem?_append,hAl];by_cases h1:m < i * 2
 ·rw [if_pos h1,if_pos (by omega),List.getElem?_set_ne (by omega),List.getElem?_set_ne (by omega),<- hA,List.getElem?_take,if_pos h1]
 ·rw [if_neg h1]
  by_cases h2:m = i * 2
  ·subst h2
   rw [if_pos (by omega),List.getElem?_set_ne (by omega),List.getElem?_set_self (by omega)];simp
  ·by_cases h3:m = i * 2 + 1
   ·subst h3
    rw [if_pos (by omega),List.getElem?_set_self (by simp;omega)];simp
   ·rw [if_neg (by omega),List.getElem?_eq_none (by simp;omega)]
theorem KI.put {l:List Pb.E} {L0 L:List Value} {i j:Nat} (h:KI l L0 i j L) (hj:j < l.length) (hl:l.length * 2 <= L0.length) (hk:keepP (l.getD j (false,[])) = true) :
  KI l L0 (i + 1) (j + 1) ((L.set (i * 2) (.bool (l.getD j (false,[])).1)).set (i * 2 + 1) (Pb.txt (l.getD j (false,[])).2)):=by
 have hlt:=h.lt;have e:(l.take (j + 1)).filter keepP = (l.take j).filter keepP ++ [l.getD j (false,[])]:=by rw [take_at l j hj,List.filter_append,List.filter_cons,hk];simp
 have hi:i * 2 + 1 < L.length:=by rw [h.len];omega
 refine ⟨by omega,by simp [h.len],by rw [e,List.length_append,h.cnt];rfl,?_,fun x hx=>?_⟩
 ·rw [e,Pb.flat_app,set2_take h.pre hi];rfl
 ·rw [List.getElem?_set_ne (by omega),List.getElem?_set_ne (by omega)]
  exact h.high x (by omega)
theorem KI.cells {l:List Pb.E} {L0 L:List Value} {i j:Nat} (h:KI l L0 i j L) (hj:j < l.length) (h0:L0.take (l.length * 2) = Pb.flat l):L[j * 2]? = some (.bool (l.getD j (false,[])).1) /\ L[j * 2 + 1]? = some (Pb.txt (l.getD j (false,[])).2):=by
 obtain ⟨f1,f2⟩:=Pb.flat_get l j hj;rw [<- h0,List.getElem?_take,if_pos (by omega)] at f1 f2;exact ⟨by rw [h.high _ (Nat.le_refl _)];exact f1,by rw [h.high _ (by omega)];exact f2⟩
end Lo
end
end Go.Proofs.YteggfkbnnmpcjaaGreatDoor
