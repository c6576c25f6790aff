/- The document's own answers on patterns: joined, SamePieces. (and more) -/
import Derived.Test.YteggfkbnnmpcjaaGreatDoorR16
set_option linter.all false
set_option maxRecDepth 100000
set_option maxHeartbeats 8000000
namespace Go.Proofs.YteggfkbnnmpcjaaGreatDoor
section
open Go.RowKit
namespace Pr
open Pt Um
def joinE:List UInt8 -> List Pc.E -> List Pc.E
 | t,[]=>if t = [] then [] else [(0,t)]
 | t,p :: r=>if p.1 = 0 then joinE (t ++ p.2) r else (if t = [] then [] else [(0,t)]) ++ (p.1,[]) :: joinE [] r
theorem joinE_tk (l:List (Int × Int)):∀ t,joinE t (tkP l) = joinT t l:=by
 induction l with
 | nil=>intro t;rfl
 | cons x r ih =>
  intro t;show (if x.1 = 0 then joinE (t ++ encL x.2) (tkP r) else (if t = [] then [] else [(0,t)]) ++ (x.1,[]) :: joinE [] (tkP r)) = _
  rw [ih,ih];rfl
theorem joinE_cons (t:List UInt8) (p:Pc.E) (r:List Pc.E):joinE t (p :: r) = if p.1 = 0 then joinE (t ++ p.2) r else (if t = [] then [] else [(0,t)]) ++ (p.1,[]) :: joinE [] r:=rfl
theorem joinE_nil (t:List UInt8):joinE t [] = if t = [] then [] else [(0,t)]:=rfl
theorem joinE_len (l:List Pc.E):∀ t,(joinE t l).length <= 2 * l.length + 1:=by
 induction l with
 | nil=>intro t;unfold joinE;split <;> simp
 | cons p r ih =>
  intro t;rw [joinE_cons];split
  ·have:=ih (t ++ p.2);simp;omega
  ·have:=ih []
   split <;> simp <;> omega
theorem dropE_at (l:List Pc.E) (k:Nat) (hk:k < l.length):l.drop k = l.getD k (0,[]) :: l.drop (k + 1):=by
 rw [List.getD_eq_getElem?_getD,List.getElem?_eq_getElem hk];exact List.drop_eq_getElem_cons hk
theorem app_eq (a:List UInt8) (b:List UInt8):(⟨a.toArray⟩:ByteArray) ++ ⟨b.toArray⟩ = ⟨(a ++ b).toArray⟩:=by
 apply ba_ext;rw [ByteArray.data_append];simp
theorem empty_iff (t:List UInt8):(⟨t.toArray⟩:ByteArray).toList.isEmpty = decide (t = []):=by
 rw [ByteArray.toList_eq,Bool.eq_iff_iff];simp
theorem empty_iff2 (t:List UInt8):((⟨t.toArray⟩:ByteArray).toList == []) = decide (t = []):=by
 rw [ByteArray.toList_eq,Bool.eq_iff_iff];simp
theorem joined_any (v:Value) (l:List Pc.E) (w:World) (hv:Pc.LstP w v l) (hl:l.length <= 1000000) (hb:∀ p ∈ l,p.2.length <= 1000000) :
  Calls Tryz.prog 170 #[v] w fun e w'=>∃ u,e = .returned u /\ OwnB w' w.heap.size u (joinE [] l) /\ Q w w':=by
 obtain ⟨n,hn⟩:∃ n,n = l.length:=⟨_,rfl⟩;have HN:=Hd hn;have HV:=Hd hv;have HB:=Hd hb;obtain ⟨a,cp,rfl,_,_⟩:=hv.form0 hn.symm;rw [<- hn] at hl;clear hv hn hb;go_enter Tryz.func170,Tryz.ntmps170
 go_wp2_with fail
 go_loopw [3,4,5] (fun u t i wr=>∃ (k:Nat) (x:List UInt8) (o:List Pc.E),i = .int .i64 k /\ t = .string ⟨x.toArray⟩ /\ k <= n /\ OwnB wr w.heap.size u o /\ x.length <= 1000000 * k /\ o.length <= 2 * k /\ o ++ joinE x (l.drop k) = joinE [] l /\ Q w wr) (fun _ _ i _=>n - (intOf i).toNat)
 case atStart=>exact ⟨0,[],[],rfl,rfl,by omega,Pc.OwnE.nil _ _ _,by simp,by simp,by simp,Q.refl _⟩
 case round =>
  obtain ⟨k,x,o,rfl,rfl,hk,ho,hx,hol,hj,hq⟩:=hrel;have hqs:=hq.le;have HJ:=Hd hj;have hol2:o.length < 1073741824:=by omega
  have he1:=empty_iff x;have he2:=empty_iff2 x;have hsz:(⟨x.toArray⟩:ByteArray).size = x.length:=by rw [<- size_list]
  obtain ⟨X,hX⟩:∃ X,X = (⟨x.toArray⟩:ByteArray):=⟨_,rfl⟩;rw [<- hX] at he1 he2 hsz |-;have HX:=Hd hX;clear hj hX;by_cases hlt:k < n
  ·have hlti:(k:Int) < (n:Int):=by omega
   have hkl:k < l.length:=by have:=HN.out;omega
   have hj:=HJ.out;rw [dropE_at l k hkl] at hj;have hbk:(l.getD k (0,[])).2.length <= 1000000:=HB.out _ (by rw [List.getD_eq_getElem?_getD,List.getElem?_eq_getElem hkl];exact List.getElem_mem hkl);obtain ⟨g,off,cap,hvv,hg,hnc,hcm,d1,d2⟩:=HV.out.cellOf HN.out.symm hlt;cases hvv;have c1:=(World.cell?_of_block (w:=w) (hq.block hg) (a:=⟨g,off + k * 2,none⟩)).trans d1;have c2:=(World.cell?_of_block (w:=w) (hq.block hg) (a:=⟨g,off + k * 2 + 1,none⟩)).trans d2;unfold Pc.txt at c2;generalize l.getD k (0,[]) = p at c1 c2 d1 hj hbk;obtain ⟨pk,pt⟩:=p;simp only at c1 c2 d1 hbk;have hpz:(⟨pt.toArray⟩:ByteArray).size = pt.length:=by rw [<- size_list]
   have hap:=app_eq x pt;obtain ⟨T,hT⟩:∃ T,T = (⟨pt.toArray⟩:ByteArray):=⟨_,rfl⟩;rw [<- hT] at c2 hpz hap;rw [<- HX.out] at hap;have HAP:=Hd hap;have HD1:=Hd d1;clear hT hap d1 d2;by_cases h0:pk = 0
   ·subst h0
    rw [joinE_cons,if_pos rfl] at hj;have HJ2:=Hd hj;have hcat:X.size + T.size <= 9223372036854775807:=by omega
    clear hj he1 he2;go_wp2_with fail
    go_roundw
    case rel=>exact ⟨k + 1,x ++ pt,o,by go_num,by rw [HAP.out],by omega,ho,by rw [List.length_append];omega,by omega,HJ2.out,hq⟩
    case measure=>simp [intOf];omega
   ·have h0b:(pk == 0) = false:=beq_eq_false_iff_ne.2 h0
    rw [joinE_cons,if_neg h0] at hj;have HJ2:=Hd hj;clear hj h0;by_cases hxe:x = []
    ·have he3:X.toList.isEmpty = true:=by rw [he1];exact decide_eq_true hxe
     have he4:(X.toList == []) = true:=by rw [he2];exact decide_eq_true hxe
     have HJ3:Hid (o ++ [(pk,[])] ++ joinE [] (l.drop (k + 1)) = joinE [] l):=Hd (by rw [<- HJ2.out,if_pos hxe];simp);have HXE:=Hd hxe;clear he1 he2 hxe;go_wp2_with (at_builtin;refine Pc.push elB ho rfl _ _ rfl pk ⟨#[]⟩ (by rfl) (by rfl) hol2 hqs ?_)
     intro v' w4 ho4 hg4 hat4;have HO4:Hid (OwnB w4 w.heap.size v' (o ++ [(pk,[])])):=Hd ho4;have hq4:=hq.grown hg4 (fun j h=>(ho.lt j h).1);clear ho4;go_wp2_with fail
     go_roundw
     case rel=>exact ⟨k + 1,x,o ++ [(pk,[])],by go_num,by rw [HX.out],by omega,HO4.out,by omega,by simp;omega,by rw [HXE.out];exact HJ3.out,hq4⟩
     case measure=>simp [intOf];omega
    ·have he3:X.toList.isEmpty = false:=by rw [he1];exact decide_eq_false hxe
     have he4:(X.toList == []) = false:=by rw [he2];exact decide_eq_false hxe
     have HJ3:Hid (o ++ [(0,x)] ++ [(pk,[])] ++ joinE [] (l.drop (k + 1)) = joinE [] l):=Hd (by rw [<- HJ2.out,if_neg hxe];simp);clear he1 he2 hxe;go_wp2_with (at_builtin;refine Pc.push elB ho rfl _ _ rfl 0 X (by rfl) (by rfl) hol2 hqs ?_)
     intro v' w4 ho4 hg4 hat4;have ho5:OwnB w4 w.heap.size v' (o ++ [(0,x)]):=by
      have:=ho4;rw [HX.out] at this;exact this
     have hq4:=hq.grown hg4 (fun j h=>(ho.lt j h).1);have hqs4:=hq4.le;have hol3:(o ++ [((0:Int),x)]).length < 1073741824:=by rw [List.length_append];simp;omega
     have c14:=(World.cell?_of_block (w:=w) (hq4.block hg) (a:=⟨g,off + k * 2,none⟩)).trans HD1.out;clear ho4 ho c1 c2;go_wp2_with (at_builtin;refine Pc.push elB ho5 rfl _ _ rfl pk ⟨#[]⟩ (by rfl) (by rfl) hol3 hqs4 ?_)
     intro v6 w6 ho6 hg6 hat6;have HO6:Hid (OwnB w6 w.heap.size v6 (o ++ [(0,x)] ++ [(pk,[])])):=Hd (by first | exact ho6 | (rw [List.append_assoc];exact ho6));have hq6:=hq4.grown hg6 (fun j h=>(ho5.lt j h).1);clear ho6;go_wp2_with fail
     go_roundw
     case rel=>exact ⟨k + 1,[],o ++ [(0,x)] ++ [(pk,[])],by go_num,rfl,by omega,HO6.out,by simp,by simp;omega,HJ3.out,hq6⟩
     case measure=>simp [intOf];omega
  ·have hnlt:¬ (k:Int) < (n:Int):=by omega
   have hj:=HJ.out;rw [List.drop_eq_nil_of_le (by have:=HN.out;omega)] at hj;rw [joinE_nil] at hj;by_cases hxe:x = []
   ·have he3:X.toList.isEmpty = true:=by rw [he1];exact decide_eq_true hxe
    have he4:(X.toList == []) = true:=by rw [he2];exact decide_eq_true hxe
    rw [if_pos hxe,List.append_nil] at hj;have HJ3:=Hd hj;clear he1 he2 hxe hj;go_wp2_with fail
    go_ret
    rw [<- HJ3.out];exact ⟨_,rfl,ho,hq⟩
   ·have he3:X.toList.isEmpty = false:=by rw [he1];exact decide_eq_false hxe
    have he4:(X.toList == []) = false:=by rw [he2];exact decide_eq_false hxe
    rw [if_neg hxe] at hj;have HJ3:=Hd hj;clear he1 he2 hxe hj;go_wp2_with (at_builtin;refine Pc.push elB ho rfl _ _ rfl 0 X (by rfl) (by rfl) hol2 hqs ?_)
    intro v' w4 ho4 hg4 hat4;have HO4:Hid (OwnB w4 w.heap.size v' (o ++ [(0,x)])):=Hd (by
     have:=ho4;rw [HX.out] at this;exact this)
    have hq4:=hq.grown hg4 (fun j h=>(ho.lt j h).1);clear ho4;go_wp2_with fail
    go_ret
    rw [<- HJ3.out];exact ⟨_,rfl,HO4.out,hq4⟩
end Pr
end
section
open Go.RowKit
namespace Tm
def txt (g s:Bool) (A B:ByteArray):ByteArray:=(if s = true then (if g = true then ⟨#[45]⟩ ++ A else A) ++ ⟨#[46]⟩ else (if g = true then ⟨#[45]⟩ ++ A else A)) ++ B
end Tm
namespace Tp
open Tm
end Tp
end
section
open Go.RowKit
namespace Tm
def SX (w:World) (b:Nat) (ty:TypeId) (l:List Value) (u:World):Prop:=Q w u /\ Bk u b ty l
theorem SX.q {w u u':World} {b:Nat} {ty:TypeId} {l:List Value} (h:SX w b ty l u) (q:Q u u'):SX w b ty l u':=⟨h.1.trans q,h.2.q q⟩
end Tm
namespace Tp
open Tm
end Tp
end
end Go.Proofs.YteggfkbnnmpcjaaGreatDoor
