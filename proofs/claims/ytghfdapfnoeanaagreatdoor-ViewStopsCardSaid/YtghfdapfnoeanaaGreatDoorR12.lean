/- The document's own answers on patterns: joined, SamePieces. (and more) -/
import Derived.Test.YtghfdapfnoeanaaGreatDoorR00
import Derived.Test.YtghfdapfnoeanaaGreatDoorR01
import Derived.Test.YtghfdapfnoeanaaGreatDoorR02
import Derived.Test.YtghfdapfnoeanaaGreatDoorR07
import Derived.Test.YtghfdapfnoeanaaGreatDoorR09
import Derived.Test.YtghfdapfnoeanaaGreatDoorR03
import Derived.Test.YtghfdapfnoeanaaGreatDoorRows
import Derived.Test.YtghfdapfnoeanaaGreatDoorR06
import Derived.Test.YtghfdapfnoeanaaGreatDoorR04
import Derived.Deep.QuietTactic
import Derived.BigQuiet
import Derived.IntWalk
import Derived.Lib.SliceRun
import Derived.Deep.RegionHeld
import Derived.Deep.Cut
set_option linter.unusedVariables false
set_option linter.unusedSimpArgs false
namespace Go.Proofs.YtghfdapfnoeanaaGreatDoor
open Go.RowKit
namespace Pr
open Pt Um
def joinE:List UInt8 → List Pc.E → List Pc.E
 | t,[]=>if t = [] then [] else [(0,t)]
 | t,p :: r=>if p.1 = 0 then joinE (t ++ p.2) r else (if t = [] then [] else [(0,t)]) ++ (p.1,[]) :: joinE [] r
theorem joinE_tk (l:List (Int × Int)):∀ t,joinE t (tkP l) = joinT t l:=by
 induction l with
 | nil=>intro t;rfl
 | cons x r ih =>
  intro t
  show (if x.1 = 0 then joinE (t ++ encL x.2) (tkP r) else (if t = [] then [] else [(0,t)]) ++ (x.1,[]) :: joinE [] (tkP r)) = _
  rw [ih,ih];rfl
theorem joinE_cons (t:List UInt8) (p:Pc.E) (r:List Pc.E):joinE t (p :: r) = if p.1 = 0 then joinE (t ++ p.2) r else (if t = [] then [] else [(0,t)]) ++ (p.1,[]) :: joinE [] r:=rfl
theorem joinE_nil (t:List UInt8):joinE t [] = if t = [] then [] else [(0,t)]:=rfl
theorem joinE_len (l:List Pc.E):∀ t,(joinE t l).length ≤ 2 * l.length + 1:=by
 induction l with
 | nil=>intro t;unfold joinE;split <;> simp
 | cons p r ih =>
  intro t
  rw [joinE_cons]
  split
  ·have:=ih (t ++ p.2);simp;omega
  ·have:=ih []
   split <;> simp <;> omega
theorem dropE_at (l:List Pc.E) (k:Nat) (hk:k < l.length):l.drop k = l.getD k (0,[]) :: l.drop (k + 1):=by
 rw [List.getD_eq_getElem?_getD,List.getElem?_eq_getElem hk]
 exact List.drop_eq_getElem_cons hk
theorem app_eq (a:List UInt8) (b:List UInt8):(⟨a.toArray⟩:ByteArray) ++ ⟨b.toArray⟩ = ⟨(a ++ b).toArray⟩:=by
 apply ba_ext
 rw [ByteArray.data_append]
 simp
theorem empty_iff (t:List UInt8):(⟨t.toArray⟩:ByteArray).toList.isEmpty = decide (t = []):=by
 rw [ByteArray.toList_eq,Bool.eq_iff_iff];simp
theorem empty_iff2 (t:List UInt8):((⟨t.toArray⟩:ByteArray).toList == []) = decide (t = []):=by
 rw [ByteArray.toList_eq,Bool.eq_iff_iff];simp
set_option maxHeartbeats 4000000 in
theorem joined_any (v:Value) (l:List Pc.E) (w:World) (hv:Pc.LstP w v l) (hl:l.length ≤ 1000000) (hb:∀ p ∈ l,p.2.length ≤ 1000000) :
  Calls Tryz.prog 176 #[v] w fun e w'=>∃ u,e = .returned u ∧ OwnB w' w.heap.size u (joinE [] l) ∧ Q w w':=by
 obtain ⟨n,hn⟩:∃ n,n = l.length:=⟨_,rfl⟩
 have HN:=Lib.hid hn
 have HV:=Lib.hid hv
 have HB:=Lib.hid hb
 obtain ⟨a,cp,rfl,_,_⟩:=hv.form0 hn.symm
 rw [← hn] at hl
 clear hv hn hb
 go_enter Tryz.func176,Tryz.ntmps176
 go_wp2_with fail
 go_loopw [3,4,5] (fun u t i wr=>∃ (k:Nat) (x:List UInt8) (o:List Pc.E),i = .int .i64 k ∧ t = .string ⟨x.toArray⟩ ∧ k ≤ n ∧ OwnB wr w.heap.size u o ∧ x.length ≤ 1000000 * k ∧ o.length ≤ 2 * k ∧ o ++ joinE x (l.drop k) = joinE [] l ∧ Q w wr) (fun _ _ i _=>n - (intOf i).toNat)
 case atStart=>exact ⟨0,[],[],rfl,rfl,by omega,Pc.OwnE.nil _ _ _,by simp,by simp,by simp,Q.refl _⟩
 case round =>
  obtain ⟨k,x,o,rfl,rfl,hk,ho,hx,hol,hj,hq⟩:=hrel
  have hqs:=hq.le
  have HJ:=Lib.hid hj
  have hol2:o.length < 1073741824:=by omega
  have he1:=empty_iff x
  have he2:=empty_iff2 x
  have hsz:(⟨x.toArray⟩:ByteArray).size = x.length:=by rw [← size_list]
  obtain ⟨X,hX⟩:∃ X,X = (⟨x.toArray⟩:ByteArray):=⟨_,rfl⟩
  rw [← hX] at he1 he2 hsz ⊢
  have HX:=Lib.hid hX
  clear hj hX
  by_cases hlt:k < n
  ·have hlti:(k:Int) < (n:Int):=by omega
   have hkl:k < l.length:=by have:=HN.out;omega
   have hj:=HJ.out
   rw [dropE_at l k hkl] at hj
   have hbk:(l.getD k (0,[])).2.length ≤ 1000000:=HB.out _ (by rw [List.getD_eq_getElem?_getD,List.getElem?_eq_getElem hkl];exact List.getElem_mem hkl)
   obtain ⟨g,off,cap,hvv,hg,hnc,hcm,d1,d2⟩:=HV.out.cellOf HN.out.symm hlt
   cases hvv
   have c1:=(World.cell?_of_block (w:=w) (hq.block hg) (a:=⟨g,off + k * 2,none⟩)).trans d1
   have c2:=(World.cell?_of_block (w:=w) (hq.block hg) (a:=⟨g,off + k * 2 + 1,none⟩)).trans d2
   unfold Pc.txt at c2
   generalize l.getD k (0,[]) = p at c1 c2 d1 hj hbk
   obtain ⟨pk,pt⟩:=p
   simp only at c1 c2 d1 hbk
   have hpz:(⟨pt.toArray⟩:ByteArray).size = pt.length:=by rw [← size_list]
   have hap:=app_eq x pt
   obtain ⟨T,hT⟩:∃ T,T = (⟨pt.toArray⟩:ByteArray):=⟨_,rfl⟩
   rw [← hT] at c2 hpz hap
   rw [← HX.out] at hap
   have HAP:=Lib.hid hap
   have HD1:=Lib.hid d1
   clear hT hap d1 d2
   by_cases h0:pk = 0
   ·subst h0
    rw [joinE_cons,if_pos rfl] at hj
    have HJ2:=Lib.hid hj
    have hcat:X.size + T.size ≤ 9223372036854775807:=by omega
    clear hj he1 he2
    go_wp2_with fail
    go_roundw
    case rel=>exact ⟨k + 1,x ++ pt,o,by go_num,by rw [HAP.out],by omega,ho,by rw [List.length_append];omega,by omega,HJ2.out,hq⟩
    case measure=>simp [intOf];omega
   ·have h0b:(pk == 0) = false:=beq_eq_false_iff_ne.2 h0
    rw [joinE_cons,if_neg h0] at hj
    have HJ2:=Lib.hid hj
    clear hj h0
    by_cases hxe:x = []
    ·have he3:X.toList.isEmpty = true:=by rw [he1];exact decide_eq_true hxe
     have he4:(X.toList == []) = true:=by rw [he2];exact decide_eq_true hxe
     have HJ3:Hid (o ++ [(pk,[])] ++ joinE [] (l.drop (k + 1)) = joinE [] l):=Lib.hid (by rw [← HJ2.out,if_pos hxe];simp)
     have HXE:=Lib.hid hxe
     clear he1 he2 hxe
     go_wp2_with (at_builtin;refine Pc.push elB ho rfl _ _ rfl pk ⟨#[]⟩ (by rfl) (by rfl) hol2 hqs ?_)
     intro v' w4 ho4 hg4 hat4
     have HO4:Hid (OwnB w4 w.heap.size v' (o ++ [(pk,[])])):=Lib.hid ho4
     have hq4:=hq.grown hg4 (fun j h=>(ho.lt j h).1)
     clear ho4
     go_wp2_with fail
     go_roundw
     case rel=>exact ⟨k + 1,x,o ++ [(pk,[])],by go_num,by rw [HX.out],by omega,HO4.out,by omega,by simp;omega,by rw [HXE.out];exact HJ3.out,hq4⟩
     case measure=>simp [intOf];omega
    ·have he3:X.toList.isEmpty = false:=by rw [he1];exact decide_eq_false hxe
     have he4:(X.toList == []) = false:=by rw [he2];exact decide_eq_false hxe
     have HJ3:Hid (o ++ [(0,x)] ++ [(pk,[])] ++ joinE [] (l.drop (k + 1)) = joinE [] l):=Lib.hid (by rw [← HJ2.out,if_neg hxe];simp)
     clear he1 he2 hxe
     go_wp2_with (at_builtin;refine Pc.push elB ho rfl _ _ rfl 0 X (by rfl) (by rfl) hol2 hqs ?_)
     intro v' w4 ho4 hg4 hat4
     have ho5:OwnB w4 w.heap.size v' (o ++ [(0,x)]):=by
      have:=ho4
      rw [HX.out] at this
      exact this
     have hq4:=hq.grown hg4 (fun j h=>(ho.lt j h).1)
     have hqs4:=hq4.le
     have hol3:(o ++ [((0:Int),x)]).length < 1073741824:=by rw [List.length_append];simp;omega
     have c14:=(World.cell?_of_block (w:=w) (hq4.block hg) (a:=⟨g,off + k * 2,none⟩)).trans HD1.out
     clear ho4 ho c1 c2
     go_wp2_with (at_builtin;refine Pc.push elB ho5 rfl _ _ rfl pk ⟨#[]⟩ (by rfl) (by rfl) hol3 hqs4 ?_)
     intro v6 w6 ho6 hg6 hat6
     have HO6:Hid (OwnB w6 w.heap.size v6 (o ++ [(0,x)] ++ [(pk,[])])):=Lib.hid (by first | exact ho6 | (rw [List.append_assoc];exact ho6))
     have hq6:=hq4.grown hg6 (fun j h=>(ho5.lt j h).1)
     clear ho6
     go_wp2_with fail
     go_roundw
     case rel=>exact ⟨k + 1,[],o ++ [(0,x)] ++ [(pk,[])],by go_num,rfl,by omega,HO6.out,by simp,by simp;omega,HJ3.out,hq6⟩
     case measure=>simp [intOf];omega
  ·have hnlt:¬ (k:Int) < (n:Int):=by omega
   have hj:=HJ.out
   rw [List.drop_eq_nil_of_le (by have:=HN.out;omega)] at hj
   rw [joinE_nil] at hj
   by_cases hxe:x = []
   ·have he3:X.toList.isEmpty = true:=by rw [he1];exact decide_eq_true hxe
    have he4:(X.toList == []) = true:=by rw [he2];exact decide_eq_true hxe
    rw [if_pos hxe,List.append_nil] at hj
    have HJ3:=Lib.hid hj
    clear he1 he2 hxe hj
    go_wp2_with fail
    go_ret
    rw [← HJ3.out]
    exact ⟨_,rfl,ho,hq⟩
   ·have he3:X.toList.isEmpty = false:=by rw [he1];exact decide_eq_false hxe
    have he4:(X.toList == []) = false:=by rw [he2];exact decide_eq_false hxe
    rw [if_neg hxe] at hj
    have HJ3:=Lib.hid hj
    clear he1 he2 hxe hj
    go_wp2_with (at_builtin;refine Pc.push elB ho rfl _ _ rfl 0 X (by rfl) (by rfl) hol2 hqs ?_)
    intro v' w4 ho4 hg4 hat4
    have HO4:Hid (OwnB w4 w.heap.size v' (o ++ [(0,x)])):=Lib.hid (by
     have:=ho4
     rw [HX.out] at this
     exact this)
    have hq4:=hq.grown hg4 (fun j h=>(ho.lt j h).1)
    clear ho4
    go_wp2_with fail
    go_ret
    rw [← HJ3.out]
    exact ⟨_,rfl,HO4.out,hq4⟩
end Pr
end Go.Proofs.YtghfdapfnoeanaaGreatDoor
namespace Go.Proofs.YtghfdapfnoeanaaGreatDoor
open Go.RowKit
namespace Pg
open Pt Um
theorem fm_snoc {α:Type} (f:α → List UInt8) (l:List α) (k:Nat) (x:α) (hk:l[k]? = some x):(l.take (k + 1)).flatMap f = (l.take k).flatMap f ++ f x:=by
 have hk':=(List.getElem?_eq_some_iff.1 hk).1
 have e:=(List.getElem?_eq_some_iff.1 hk).2
 rw [List.take_succ_eq_append_getElem hk',List.flatMap_append,e]
 simp
theorem fm_le {α:Type} (f:α → List UInt8) (l:List α) (k:Nat):((l.take k).flatMap f).length ≤ (l.flatMap f).length:=by
 conv=>rhs;rw [← List.take_append_drop k l,List.flatMap_append,List.length_append]
 omega
def rsP (c p m:ByteArray) (x:Pc.E):List UInt8:=if x.1 = 0 then x.2 else if x.1 = 1 then c.data.toList else if x.1 = 2 then p.data.toList else if x.1 = 3 then m.data.toList else []
set_option maxRecDepth 100000 in
set_option maxHeartbeats 2000000 in
theorem resolveP_any (v:Value) (l:List Pc.E) (c p m:ByteArray) (w:World) (hv:Pc.LstP w v l) (hl:l.length ≤ 1000000) (hz:(l.flatMap (rsP c p m)).length ≤ 1000000) :
  Calls Tryz.prog 144 #[v,.string c,.string p,.string m] w fun e w'=>e = .returned (.string ⟨(l.flatMap (rsP c p m)).toArray⟩) ∧ Q w w':=by
 obtain ⟨n,hn⟩:∃ n,n = l.length:=⟨_,rfl⟩
 have HN:=Lib.hid hn
 have HV:=Lib.hid hv
 obtain ⟨a,cp,rfl,hc1,hc2⟩:=hv.form0 hn.symm
 rw [← hn] at hl
 obtain ⟨T,hT⟩:∃ T:Nat → List UInt8,T = fun k=>(l.take k).flatMap (rsP c p m):=⟨_,rfl⟩
 have HT1:=Lib.hid (show l.flatMap (rsP c p m) = T n by rw [hT,hn];simp)
 have HTS:=Lib.hid (show ∀ k x,l[k]? = some x → T (k + 1) = T k ++ rsP c p m x from fun k x hk=>by rw [hT];exact fm_snoc _ _ _ _ hk)
 have HTL:=Lib.hid (show ∀ k,(T k).length ≤ 1000000 from fun k=>by rw [hT];exact Nat.le_trans (fm_le _ _ _) hz)
 have HB0:=Lib.hid (show Bl.Is w.heap.size w.heap.size (Lib.byteCells (T 0)) (w.alloc (.cells #[.pointer none,.slice none 0 0] 158)) by
  rw [show T 0 = [] by rw [hT];rfl];exact Bl.Is.fresh w)
 rw [HT1.out]
 clear hn hv hT hz
 go_enter Tryz.func144,Tryz.ntmps144
 go_wp2_with fail
 go_loopw [14] (fun i wr=>∃ k:Nat,i = .int .i64 k ∧ k ≤ n ∧ Bl.Is w.heap.size w.heap.size (Lib.byteCells (T k)) wr ∧ Q w wr) (fun i _=>n - (intOf i).toNat)
 case atStart=>exact ⟨0,rfl,by omega,HB0.out,(Q.refl _).alloc _⟩
 case round =>
  obtain ⟨k,rfl,hk,hI,hq⟩:=hrel
  have hqs:=hq.le
  by_cases hlt:k < n
  ·have hlti:(k:Int) < (n:Int):=by omega
   have hkl:k < l.length:=by have:=HN.out;omega
   obtain ⟨g,off,cap,hvv,hg,_,_,c1,c2⟩:=(HV.out.q hq).cellOf HN.out.symm hlt
   cases hvv
   have hx:l[k]? = some (l.getD k (0,[])):=by rw [List.getD_eq_getElem?_getD,List.getElem?_eq_getElem hkl];rfl
   have hts:=HTS.out k _ hx
   have htl:=HTL.out (k + 1)
   obtain ⟨x,hx⟩:∃ x,x = l.getD k (0,[]):=⟨_,rfl⟩
   rw [← hx] at c1 c2 hts
   obtain ⟨xk,xt⟩:=x
   unfold Pc.txt at c2
   have hsx:xt = (⟨xt.toArray⟩:ByteArray).data.toList:=by simp
   obtain ⟨X,hX⟩:∃ X:ByteArray,X = ⟨xt.toArray⟩:=⟨_,rfl⟩
   rw [← hX] at c2 hsx
   clear hx hX
   have hqa:=hq.alloc (.cells #[.int .i64 xk,.string X] 187)
   have hIa:=hI.q ((Q.refl wr).alloc (.cells #[.int .i64 xk,.string X] 187))
   have hqsa:=hqa.le
   rw [hts,List.length_append] at htl
   have HTS1:=Lib.hid hts
   have HTL1:=Lib.hid htl
   clear hts htl
   have main:∀ (Y:ByteArray),rsP c p m (xk,xt) = Y.data.toList → Hid (T (k + 1) = T k ++ Y.data.toList) ∧ (T k).length + Y.size ≤ 1000000:=fun Y hY=>by
    have h1:=HTS1.out
    have h2:=HTL1.out
    rw [hY] at h1 h2
    rw [size_list] at h2
    exact ⟨Lib.hid h1,h2⟩
   by_cases h0:xk = 0
   ·subst h0
    obtain ⟨HM,hml⟩:=main X (by rw [← hsx];rfl)
    clear main
    go_wp2_with fail
    refine (Bl.write_any _ _ _ _ _ hIa (by rw [Bl.cells_length];omega) hqsa).mono ?_
    rintro e w4 ⟨rfl,hI2,hb2,_⟩
    go_wp2_with fail
    exact ⟨⟨k + 1,by go_num,by omega,by rw [HM.out];exact hI2.write,Below.trans hqa hb2⟩,by simp [intOf];omega⟩
   ·have h0b:(xk == 0) = false:=beq_eq_false_iff_ne.2 h0
    by_cases h1:xk = 1
    ·subst h1
     obtain ⟨HM,hml⟩:=main c rfl
     clear main
     go_wp2_with fail
     refine (Bl.write_any _ _ _ _ _ hIa (by rw [Bl.cells_length];omega) hqsa).mono ?_
     rintro e w4 ⟨rfl,hI2,hb2,_⟩
     go_wp2_with fail
     exact ⟨⟨k + 1,by go_num,by omega,by rw [HM.out];exact hI2.write,Below.trans hqa hb2⟩,by simp [intOf];omega⟩
    ·have h1b:(xk == 1) = false:=beq_eq_false_iff_ne.2 h1
     by_cases h2:xk = 2
     ·subst h2
      obtain ⟨HM,hml⟩:=main p rfl
      clear main
      go_wp2_with fail
      refine (Bl.write_any _ _ _ _ _ hIa (by rw [Bl.cells_length];omega) hqsa).mono ?_
      rintro e w4 ⟨rfl,hI2,hb2,_⟩
      go_wp2_with fail
      exact ⟨⟨k + 1,by go_num,by omega,by rw [HM.out];exact hI2.write,Below.trans hqa hb2⟩,by simp [intOf];omega⟩
     ·have h2b:(xk == 2) = false:=beq_eq_false_iff_ne.2 h2
      by_cases h3:xk = 3
      ·subst h3
       obtain ⟨HM,hml⟩:=main m rfl
       clear main
       go_wp2_with fail
       refine (Bl.write_any _ _ _ _ _ hIa (by rw [Bl.cells_length];omega) hqsa).mono ?_
       rintro e w4 ⟨rfl,hI2,hb2,_⟩
       go_wp2_with fail
       exact ⟨⟨k + 1,by go_num,by omega,by rw [HM.out];exact hI2.write,Below.trans hqa hb2⟩,by simp [intOf];omega⟩
      ·have h3b:(xk == 3) = false:=beq_eq_false_iff_ne.2 h3
       have HM:=Lib.hid (show T (k + 1) = T k by
        rw [HTS1.out];unfold rsP
        rw [if_neg h0,if_neg h1,if_neg h2,if_neg h3,List.append_nil])
       clear main
       go_wp2_with fail
       exact ⟨⟨k + 1,by go_num,by omega,by rw [HM.out];exact hIa,hqa⟩,by simp [intOf];omega⟩
  ·have hnlt:¬ (k:Int) < (n:Int):=by omega
   obtain rfl:k = n:=by omega
   go_wp2_with fail
   refine (Bl.done_any _ _ _ _ hI hqs).mono ?_
   rintro e w' ⟨rfl,hb2⟩
   go_wp2_with fail
   go_ret
   exact ⟨rfl,Below.trans hq hb2⟩
end Pg
end Go.Proofs.YtghfdapfnoeanaaGreatDoor
namespace Go.Proofs.YtghfdapfnoeanaaGreatDoor
open Go.RowKit
namespace Pg
open Pt Um
theorem OwnP.one (w:World) (k:Int) (t:ByteArray):OwnP (w.alloc (.cells #[.int .i64 k,.string t] 187)) w.heap.size (.slice (some ⟨w.heap.size,0,none⟩) 1 1) [(k,t.data.toList)] :=
 ⟨rfl,.inr ⟨w.heap.size,1,#[.int .i64 k,.string t],rfl,Nat.le_refl _,heap_alloc_new _ _,Nat.le_refl _,by unfold maxLen;omega,rfl,rfl⟩⟩
theorem OwnP.none (w:World):OwnP (w.alloc (.cells #[] 187)) w.heap.size (.slice (some ⟨w.heap.size,0,none⟩) 0 0) [] :=
 ⟨rfl,.inr ⟨w.heap.size,0,#[],rfl,Nat.le_refl _,heap_alloc_new _ _,Nat.le_refl _,by unfold maxLen;omega,rfl,rfl⟩⟩
set_option maxRecDepth 100000 in
set_option maxHeartbeats 1000000 in
theorem clone_any (v:Value) (l:List Pc.E) (w:World) (hv:Pc.LstP w v l) (hl:l.length ≤ 1000000) :
  Calls Tryz.prog 165 #[v] w fun e w'=>∃ u,e = .returned u ∧ Pc.New w' w.heap.size u l ∧ Q w w':=by
 obtain ⟨n,hn⟩:∃ n,n = l.length:=⟨_,rfl⟩
 have HV:=Lib.hid hv
 obtain ⟨a,cp,rfl,hc1,hc2⟩:=hv.form0 hn.symm
 have HN:=Lib.hid hn
 cases a with
 | none =>
  have hl0:l = []:=by
   rcases hv with ⟨h,_⟩ | ⟨g,off,cap,h,_⟩
   ·exact h
   ·cases h
  subst hl0
  have q22:∀ (w:World) (a:Option Addr) (n c n' c':Nat),(binOp .eql 87 (.slice a n c) (.slice none n' c')).run Tryz.prog w = .ok (.bool a.isNone) w:=fun w a n c n' c'=>Lib.run_eql_slice_nil w _ _ a n c n' c' Tryz.underlying87
  go_enter Tryz.func165,Tryz.ntmps165
  go_wp2_with fail
  go_ret
  exact ⟨_,rfl,⟨Pc.LstP.nil _ _ _ (by unfold maxLen;omega) (fun _=>rfl),fun a n c h=>by cases h⟩,Q.refl _⟩
 | some ad =>
  have ho:=OwnP.none w
  have hqa:=(Q.refl w).alloc (.cells #[] 187)
  have HVA:=Lib.hid (HV.out.q hqa)
  clear hv hn
  have q22:∀ (w:World) (a:Option Addr) (n c n' c':Nat),(binOp .eql 87 (.slice a n c) (.slice none n' c')).run Tryz.prog w = .ok (.bool a.isNone) w:=fun w a n c n' c'=>Lib.run_eql_slice_nil w _ _ a n c n' c' Tryz.underlying87
  go_enter Tryz.func165,Tryz.ntmps165
  go_wp2_with (at_builtin;refine Pc.pushl elP ho HVA.out rfl _ _ rfl (by rfl) (by rfl) (by simp;omega) hqa.le ?_)
  intro v' w4 ho4 hg4 hat4
  have hq4:=hqa.grown hg4 (fun j h=>(ho.lt j h).1)
  have HO:=Lib.hid (show OwnP w4 w.heap.size v' l from ho4)
  clear ho4
  go_wp2_with fail
  go_ret
  exact ⟨_,rfl,HO.out.new,hq4⟩
set_option maxRecDepth 100000 in
set_option maxHeartbeats 1000000 in
theorem negative_any (va vb:Value) (l k:List Pc.E) (w:World) (hv:Pc.LstP w va l) (hu:Pc.LstP w vb k) (hl:l.length ≤ 1000000) (hk:k.length ≤ 1000000) :
  Calls Tryz.prog 127 #[va,vb] w fun e w'=>∃ u v,e = .returned (.tuple #[u,v]) ∧ Pc.New w' w.heap.size u ((3,[]) :: l) ∧ Pc.New w' w.heap.size v k ∧ Q w w':=by
 obtain ⟨a,c,rfl,_,_⟩:=hv.shape2
 obtain ⟨b,d,rfl,_,_⟩:=hu.shape2
 have ho:=OwnP.one w 3 ByteArray.empty
 have hqa:=(Q.refl w).alloc (.cells #[.int .i64 3,.string ByteArray.empty] 187)
 have HVA:=Lib.hid (hv.q hqa)
 have HU:=Lib.hid (fun u (hq:Q w u)=>clone_any _ k u (hu.q hq) hk)
 obtain ⟨n,hn⟩:∃ n,n = l.length:=⟨_,rfl⟩
 obtain ⟨m,hm⟩:∃ m,m = k.length:=⟨_,rfl⟩
 have hlen:([(3,ByteArray.empty.data.toList)]:List Pc.E).length + l.length < 1073741824:=by simp;omega
 rw [← hn] at HVA ⊢
 rw [← hm] at HU ⊢
 clear hv hu hn hm
 go_enter Tryz.func127,Tryz.ntmps127
 go_wp2_with (at_builtin;refine Pc.pushl elP ho HVA.out rfl _ _ rfl (by rfl) (by rfl) hlen hqa.le ?_)
 intro v' w4 ho4 hg4 hat4
 have hq4:=hqa.grown hg4 (fun j h=>(ho.lt j h).1)
 have HO:=Lib.hid (show OwnP w4 w.heap.size v' ((3,[]) :: l) from ho4)
 clear ho4
 go_wp2_with fail
 refine (HU.out _ hq4).mono ?_
 rintro e w5 ⟨v5,rfl,hn5,hq5⟩
 have HN5:=Lib.hid (hn5.mono hq4.le)
 have HO5:=Lib.hid (HO.out.new.q hq5)
 clear hn5
 go_wp2_with fail
 go_ret2
 exact ⟨_,_,rfl,HO5.out,HN5.out,hq4.trans hq5⟩
set_option maxRecDepth 100000 in
set_option maxHeartbeats 1000000 in
theorem countP_any (v:Value) (l:List Pc.E) (kind:Int) (w:World) (hv:Pc.LstP w v l) (hl:l.length ≤ 1000000) :
  Calls Tryz.prog 131 #[v,.int .i64 kind] w fun e w'=>e = .returned (.int .i64 ((l.countP fun p=>p.1 == kind:Nat):Int)) ∧ Q w w':=by
 obtain ⟨n,hn⟩:∃ n,n = l.length:=⟨_,rfl⟩
 have HN:=Lib.hid hn
 have HV:=Lib.hid hv
 obtain ⟨a,cp,rfl,hc1,hc2⟩:=hv.form0 hn.symm
 rw [← hn] at hl
 obtain ⟨T,hT⟩:∃ T:Nat → Nat,T = fun k=>(l.take k).countP fun p=>p.1 == kind:=⟨_,rfl⟩
 have HT1:=Lib.hid (show (l.countP fun p=>p.1 == kind) = T n by rw [hT,hn];simp)
 have HT0:=Lib.hid (show T 0 = 0 by rw [hT];rfl)
 have HTS:=Lib.hid (show ∀ k,k < n → T (k + 1) = T k + (if (l.getD k (0,[])).1 = kind then 1 else 0) from fun k hk=>by
  have hk':k < l.length:=by omega
  rw [hT]
  simp only
  rw [List.take_succ_eq_append_getElem hk',List.countP_append,List.getD_eq_getElem?_getD,List.getElem?_eq_getElem hk']
  simp [List.countP_cons])
 have HTL:=Lib.hid (show ∀ k,T k ≤ k from fun k=>by rw [hT];exact Nat.le_trans List.countP_le_length (List.length_take_le _ _))
 rw [HT1.out]
 clear hn hv hT
 go_enter Tryz.func131,Tryz.ntmps131
 go_wp2_with fail
 go_loopw [5,10] (fun m i wr=>∃ k:Nat,i = .int .i64 k ∧ m = .int .i64 (T k) ∧ k ≤ n ∧ Q w wr) (fun _ i _=>n - (intOf i).toNat)
 case atStart=>exact ⟨0,rfl,by rw [HT0.out];rfl,by omega,Q.refl _⟩
 case round =>
  obtain ⟨k,rfl,rfl,hk,hq⟩:=hrel
  by_cases hlt:k < n
  ·have hlti:(k:Int) < (n:Int):=by omega
   obtain ⟨g,off,cap,hvv,hg,_,_,c1,c2⟩:=(HV.out.q hq).cellOf HN.out.symm hlt
   cases hvv
   have hts:=HTS.out k hlt
   have htl:=HTL.out k
   obtain ⟨x,hx⟩:∃ x,x = l.getD k (0,[]):=⟨_,rfl⟩
   rw [← hx] at c1 c2 hts
   obtain ⟨xk,xt⟩:=x
   unfold Pc.txt at c2
   generalize (⟨xt.toArray⟩:ByteArray) = X at *
   clear hx
   by_cases hxk:xk = kind
   ·rw [if_pos hxk] at hts
    subst hxk
    have HF:=Lib.hid hts
    clear hts
    go_wp2_with fail
    exact ⟨⟨k + 1,by go_num,by rw [HF.out];go_num,by omega,by first | exact hq.alloc _ | exact Q.setCell (Q.setCell (hq.alloc _) hq.le _) hq.le _⟩,by simp [intOf];omega⟩
   ·rw [if_neg hxk] at hts
    have HF:=Lib.hid hts
    have hb:(xk == kind) = false:=beq_eq_false_iff_ne.2 hxk
    clear hts
    go_wp2_with fail
    exact ⟨⟨k + 1,by go_num,by rw [HF.out];go_num,by omega,by first | exact hq.alloc _ | exact Q.setCell (Q.setCell (hq.alloc _) hq.le _) hq.le _⟩,by simp [intOf];omega⟩
  ·have hnlt:¬ (k:Int) < (n:Int):=by omega
   obtain rfl:k = n:=by omega
   go_wp2_with fail
   go_ret
   exact ⟨rfl,hq⟩
end Pg
end Go.Proofs.YtghfdapfnoeanaaGreatDoor
namespace Go.Proofs.YtghfdapfnoeanaaGreatDoor
open Go.RowKit
namespace Pg
open Pt Um
structure Sl where
 a:Option Addr
 n:Nat
 c:Nat
 zs:List (Int × Int)
def Sl.v (s:Sl):Value:=.slice s.a s.n s.c
theorem Sl.one (s:Sl):(Sl.v s).oneCell' = true:=rfl
def Sl.ok (w:World) (s:Sl):Prop:=Sg.LstP w s.v s.zs ∧ s.zs.length = s.n
theorem elemGs:Elem 170 168 (.slice none 0 0) 24:=⟨by kernel_rfl,Tryz.underlying168,rfl,by omega⟩
def ntD (x:Int × Int):Bool:=!isD x
def splitD:List (Int × Int) → List (List (Int × Int))
 | []=>[[]]
 | x :: r=>if isD x = true then [] :: splitD r else match splitD r with
  | []=>[[x]]
  | a :: b=>(x :: a) :: b
theorem splitD_end (l:List (Int × Int)) (h:ah ntD l = l.length):splitD l = [l]:=by
 induction l with
 | nil=>rfl
 | cons x r ih =>
  unfold ah at h
  rw [List.takeWhile_cons] at h
  split at h
  ·rename_i hx
   have hx:isD x = false:=by simpa [ntD] using hx
   have:=ih (by unfold ah;simpa using h)
   unfold splitD
   rw [if_neg (by rw [hx];simp),this]
  ·simp at h
theorem splitD_cut (l:List (Int × Int)) (h:ah ntD l < l.length):splitD l = l.take (ah ntD l) :: splitD (l.drop (ah ntD l + 1)):=by
 induction l with
 | nil=>simp at h
 | cons x r ih =>
  unfold ah at h ⊢
  rw [List.takeWhile_cons] at h ⊢
  split at h
  ·rename_i hx
   have hx':isD x = false:=by simpa [ntD] using hx
   have:=ih (by unfold ah;simpa using h)
   unfold ah at this
   rw [if_pos hx,splitD,if_neg (by rw [hx'];simp),this]
   simp
  ·rename_i hx
   have hx':isD x = true:=by simpa [ntD] using hx
   rw [if_neg hx,splitD,if_pos hx']
   simp
set_option maxHeartbeats 4000000 in
theorem halves_any (v:Value) (l:List (Int × Int)) (w:World) (hv:Sg.LstP w v l) (hl:l.length ≤ 1000000) :
  Calls Tryz.prog 122 #[v] w fun e w'=>∃ (u:Value) (ls:List Sl),e = .returned u ∧ GOwn 170 Sl.v w' w.heap.size u ls ∧ (∀ s ∈ ls,s.ok w) ∧ ls.map Sl.zs = splitD l ∧ Q w w':=by
 obtain ⟨n,hn⟩:∃ n,n = l.length:=⟨_,rfl⟩
 have HN:=Lib.hid hn
 have HV:=Lib.hid hv
 obtain ⟨a,cp,rfl,hc1,hc2⟩:=hv.form0 hn.symm
 rw [← hn] at hl
 clear hn hv
 go_enter Tryz.func122,Tryz.ntmps122
 go_wp2_with fail
 go_loopw [0,3] (fun x u wr=>∃ (k m:Nat) (ls:List Sl) (ad:Option Addr) (c:Nat),x = .slice ad m c ∧ k + m = n ∧ Hid (Sg.LstP w (.slice ad m c) (l.drop k)) ∧ GOwn 170 Sl.v wr w.heap.size u ls ∧ Hid (ls.map Sl.zs ++ splitD (l.drop k) = splitD l) ∧ ls.length ≤ k ∧ (∀ s ∈ ls,s.ok w) ∧ Q w wr) (fun x _ _=>(lenOf x))
 case atStart=>exact ⟨0,n,[],a,cp,rfl,by omega,by rw [List.drop_zero];exact HV,GOwn.nil _ _ _ _,Lib.hid (by rw [List.drop_zero];rfl),by simp,by simp,Q.refl _⟩
 case round =>
  obtain ⟨k,m,ls,ad,c,rfl,hkm,HL,ho,HJ,hok,hall,hq⟩:=hrel
  have hqs:=hq.le
  have HALL:=Lib.hid hall
  clear hall
  have HLL:=Lib.hid (show (l.drop k).length = m by rw [List.length_drop,← HN.out];omega)
  obtain ⟨L,hL⟩:∃ L,L = l.drop k:=⟨_,rfl⟩
  have HD:=Lib.hid (fun (z:Nat)=>(show L.drop z = l.drop (k + z) by rw [hL,List.drop_drop]))
  rw [← hL] at HL HLL HJ
  clear hL
  have hfm:=HL.out.form0 HLL.out
  have hcc:m ≤ c ∧ c ≤ maxLen:=by obtain ⟨_,_,hv2,h1,h2⟩:=hfm;cases hv2;exact ⟨h1,h2⟩
  unfold maxLen at hcc
  clear hfm
  have hAH:=fun w hv=>ahead_any 157 ntD notD_any enters45 (.slice ad m c) L w hv (by rw [HLL.out];omega)
  have hAle:=ah_le ntD L
  have HSE:=Lib.hid (splitD_end L)
  have HSC:=Lib.hid (splitD_cut L)
  obtain ⟨A,hA⟩:∃ A,A = ah ntD L:=⟨_,rfl⟩
  rw [← hA] at hAH hAle HSE HSC
  rw [HLL.out] at hAle HSE HSC
  have HAH:=Lib.hid hAH
  clear hA hAH
  have HTK:=Lib.hid (show (Sl.mk ad A c (L.take A)).ok w from ⟨HL.out.take A (by rw [HLL.out];exact hAle),by simp [HLL.out];omega⟩)
  go_wp2_with fail
  refine (HAH.out _ (HL.out.q hq)).mono ?_
  rintro e w2 ⟨rfl,hq2⟩
  have ho2:=ho.q hq2
  have hq22:=hq.trans hq2
  have hqs2:=hq22.le
  go_wp2_with (at_builtin;refine gpush elemGs ho2 rfl _ _ rfl (Sl.mk ad A c (L.take A)) rfl (by rfl) (by rfl) (by omega) hqs2 ?_)
  intro v' w4 ho4 hg4 hat4
  have hq4:=hq22.grown hg4 (fun j h=>(ho2.lt j h).1)
  have HA4:=Lib.hid (show ∀ s ∈ ls ++ [Sl.mk ad A c (L.take A)],s.ok w from fun s hs=>by
   rcases List.mem_append.1 hs with hs | hs
   ·exact HALL.out s hs
   ·rw [List.mem_singleton.1 hs];exact HTK.out)
  by_cases hAm:A = m
  ·have HF:=Lib.hid (show (ls ++ [Sl.mk ad A c (L.take A)]).map Sl.zs = splitD l by
    rw [← HJ.out,HSE.out hAm]
    simp [List.take_of_length_le (show L.length ≤ A by rw [HLL.out];omega)])
   subst hAm
   go_wp2_with fail
   go_ret
   exact ⟨_,rfl,_,ho4,HA4.out,HF.out,hq4⟩
  ·have hlt:A < m:=by omega
   have hlti:(A:Int) + 1 ≤ (m:Int):=by omega
   have hAb:((A:Int) == (m:Int)) = false:=beq_eq_false_iff_ne.2 (by omega)
   have HF:=Lib.hid (show (ls ++ [Sl.mk ad A c (L.take A)]).map Sl.zs ++ splitD (L.drop (A + 1)) = splitD l by
    rw [← HJ.out,HSC.out hlt]
    simp)
   have hlen:(ls ++ [Sl.mk ad A c (L.take A)]).length ≤ k + (A + 1):=by simp;omega
   rcases HL.out.rest HLL.out (show A + 1 ≤ m by omega) with ⟨g3,off3,ha,hlt5,hcc2,hcm,hdp⟩ | ⟨hkn,hcn,hdp⟩ | ⟨ad3,ha,hkn,hcc2,hcm,hdp⟩
   ·cases ha
    have HDP:=Lib.hid hdp
    clear hdp
    go_wp2_with fail
    exact ⟨⟨k + (A + 1),m - (A + 1),_,_,_,rfl,by omega,Lib.hid (by have h:=HDP.out;rw [HD.out] at h;exact h),ho4,Lib.hid (by have h:=HF.out;rw [HD.out] at h;exact h),hlen,HA4.out,hq4⟩,by show m - (A + 1) < m;omega⟩
   ·subst hcn hkn
    have HDP:=Lib.hid hdp
    clear hdp
    go_wp2_with fail
    exact ⟨⟨k + (A + 1),0,_,_,_,rfl,by omega,Lib.hid (by have h:=HDP.out;rw [HD.out] at h;rw [h];exact Sg.LstP.nil _ _ _ (by unfold maxLen;omega) (fun _=>rfl)),ho4,Lib.hid (by have h:=HF.out;rw [HD.out] at h;exact h),hlen,HA4.out,hq4⟩,by show 0 < A + 1;omega⟩
   ·subst hkn
    cases ha
    have HDP:=Lib.hid hdp
    clear hdp
    go_wp2_with fail
    exact ⟨⟨k + (A + 1),0,_,_,_,rfl,by omega,Lib.hid (by have h:=HDP.out;rw [HD.out] at h;rw [h];exact Sg.LstP.nil _ _ _ (by unfold maxLen;omega) (fun h=>nomatch h)),ho4,Lib.hid (by have h:=HF.out;rw [HD.out] at h;exact h),hlen,HA4.out,hq4⟩,by show 0 < A + 1;omega⟩
end Pg
end Go.Proofs.YtghfdapfnoeanaaGreatDoor
namespace Go.Proofs.YtghfdapfnoeanaaGreatDoor
open Go.RowKit
namespace Bl
theorem Is.byte {B b:Nat} {l:List UInt8} {c:UInt8} {w:World} (h:Is B b (Lib.byteCells l ++ [.int .u8 ((c.toNat:Nat):Int)]) w):Is B b (Lib.byteCells (l ++ [c])) w:=by
 rw [Lib.byteCells_append]
 exact h
end Bl
namespace Pg
open Pt Um
end Pg
end Go.Proofs.YtghfdapfnoeanaaGreatDoor
namespace Go.Proofs.YtghfdapfnoeanaaGreatDoor
open Go.RowKit
namespace Im
def txI (l:List E):List UInt8:=l.flatMap fun e=>e.2.1.data.toList
theorem txI_take (l:List E) (k:Nat) (hk:k < l.length):txI (l.take (k + 1)) = txI (l.take k) ++ (l.getD k e0).2.1.data.toList:=by
 unfold txI
 rw [List.take_add_one,List.getElem?_eq_getElem hk,List.flatMap_append,List.getD_eq_getElem?_getD,List.getElem?_eq_getElem hk]
 simp
theorem txI_le (l:List E) (k:Nat):(txI (l.take k)).length ≤ (txI l).length:=by
 have h:txI l = txI (l.take k) ++ txI (l.drop k):=by
  unfold txI
  rw [← List.flatMap_append,List.take_append_drop]
 rw [h,List.length_append]
 omega
def fndI (p:E → Bool):List E → Nat → Int
 | [],_=>-1
 | x :: r,k=>if p x = true then (k:Int) else fndI p r (k + 1)
theorem fndI_at (p:E → Bool) (l:List E) (k:Nat) (hk:k < l.length):fndI p (l.drop k) k = if p (l.getD k e0) = true then (k:Int) else fndI p (l.drop (k + 1)) (k + 1):=by
 rw [List.drop_eq_getElem_cons hk,List.getD_eq_getElem?_getD,List.getElem?_eq_getElem hk]
 rfl
end Im
namespace It
open Um Im
set_option maxHeartbeats 1600000 in
theorem text_any (v:Value) (l:List E) (w:World) (hv:LstI w v l) (hl:l.length ≤ 1000000) (hz:(txI l).length ≤ 1000000) :
  Calls Tryz.prog 58 #[v] w fun e w'=>e = .returned (.string ⟨(txI l).toArray⟩) ∧ Q w w':=by
 obtain ⟨n,hn⟩:∃ n,n = l.length:=⟨_,rfl⟩
 obtain ⟨a,cp,rfl,hc1,hc2⟩:=hv.form0 hn.symm
 have HV:=Lib.hid (fun u (q:Q w u) k (h:k < n)=>(hv.q q).cellOf hn.symm h)
 rw [← hn] at hl
 obtain ⟨T,hT⟩:∃ T:Nat → List UInt8,T = fun k=>txI (l.take k):=⟨_,rfl⟩
 have HT1:=Lib.hid (show txI l = T n by rw [hT,hn];simp)
 have HTS:=Lib.hid (show ∀ k,k < n → T (k + 1) = T k ++ (l.getD k e0).2.1.data.toList from fun k hk=>by rw [hT];exact txI_take l k (by omega))
 have HTL:=Lib.hid (show ∀ k,(T k).length ≤ 1000000 from fun k=>by rw [hT];exact Nat.le_trans (txI_le l k) hz)
 have HB0:=Lib.hid (show Bl.Is w.heap.size w.heap.size (Lib.byteCells (T 0)) (w.alloc (.cells #[.pointer none,.slice none 0 0] 158)) by
  rw [show T 0 = [] by rw [hT];rfl];exact Bl.Is.fresh w)
 rw [HT1.out]
 unfold maxLen at hc2
 clear hn hv hT hz
 go_enter Tryz.func58,Tryz.ntmps58
 go_wp2_with fail
 go_loopw [8] (fun i wr=>∃ k:Nat,i = .int .i64 k ∧ k ≤ n ∧ Bl.Is w.heap.size w.heap.size (Lib.byteCells (T k)) wr ∧ Q w wr) (fun i _=>n - (intOf i).toNat)
 case atStart=>exact ⟨0,rfl,by omega,HB0.out,(Q.refl _).alloc _⟩
 case round =>
  obtain ⟨k,rfl,hk,hI,hq⟩:=hrel
  have hqs:=hq.le
  by_cases hlt:k < n
  ·obtain ⟨g,off,cap,hvv,hg,_,_,c1,c2,c3⟩:=HV.out wr hq k hlt
   cases hvv
   have hts:=HTS.out k hlt
   have htl:=HTL.out (k + 1)
   generalize l.getD k e0 = x at *
   obtain ⟨xa,xt,xb⟩:=x
   dsimp only at c1 c2 c3 hts
   have hqa:=hq.alloc (.cells #[.int .i64 xa,.string xt,.int .i64 xb] 121)
   have hIa:=hI.q ((Q.refl wr).alloc (.cells #[.int .i64 xa,.string xt,.int .i64 xb] 121))
   have hqsa:=hqa.le
   rw [hts,List.length_append,size_list] at htl
   have HTS1:=Lib.hid hts
   clear hts
   go_wp2_with fail
   refine (Bl.write_any _ _ _ _ _ hIa (by rw [Bl.cells_length];omega) hqsa).mono ?_
   rintro e w4 ⟨rfl,hI2,hb2,_⟩
   go_wp2_with fail
   exact ⟨⟨k + 1,by go_num,by omega,by rw [HTS1.out];exact hI2.write,Below.trans hqa hb2⟩,by simp [intOf];omega⟩
  ·obtain rfl:k = n:=by omega
   go_wp2_with fail
   refine (Bl.done_any _ _ _ _ hI hqs).mono ?_
   rintro e w4 ⟨rfl,hb2⟩
   go_wp2_with fail
   go_ret
   exact ⟨rfl,Below.trans hq hb2⟩
set_option maxHeartbeats 1600000 in
theorem rtext_any (v:Value) (l:List E) (w:World) (hv:LstI w v l) (hl:l.length ≤ 1000000) (hz:(txI l).length ≤ 1000000) :
  Calls Tryz.prog 16 #[v] w fun e w'=>e = .returned (.string ⟨(txI l).toArray⟩) ∧ Q w w':=by
 obtain ⟨n,hn⟩:∃ n,n = l.length:=⟨_,rfl⟩
 obtain ⟨a,cp,rfl,hc1,hc2⟩:=hv.form0 hn.symm
 have HV:=Lib.hid (fun k (h:k < n)=>hv.cellOf hn.symm h)
 rw [← hn] at hl
 obtain ⟨T,hT⟩:∃ T:Nat → List UInt8,T = fun k=>txI (l.take k):=⟨_,rfl⟩
 have HT1:=Lib.hid (show txI l = T n by rw [hT,hn];simp)
 have HTS:=Lib.hid (show ∀ k,k < n → T (k + 1) = T k ++ (l.getD k e0).2.1.data.toList from fun k hk=>by rw [hT];exact txI_take l k (by omega))
 have HTL:=Lib.hid (show ∀ k,(T k).length ≤ 1000000 from fun k=>by rw [hT];exact Nat.le_trans (txI_le l k) hz)
 have HT0:=Lib.hid (show T 0 = [] by rw [hT];rfl)
 rw [HT1.out]
 unfold maxLen at hc2
 clear hn hv hT hz
 go_enter Tryz.func16,Tryz.ntmps16
 go_wp2_with fail
 go_loop [3,4] (fun s i=>∃ k:Nat,i = .int .i64 k ∧ k ≤ n ∧ ∃ S:ByteArray,s = .string S ∧ Hid (S = ⟨(T k).toArray⟩)) (fun _ i=>n - (intOf i).toNat)
 case atStart=>exact ⟨0,rfl,by omega,_,rfl,Lib.hid (by rw [HT0.out])⟩
 case round =>
  obtain ⟨k,rfl,hk,S,rfl,HS⟩:=hrel
  by_cases hlt:k < n
  ·obtain ⟨g,off,cap,hvv,hg,_,_,c1,c2,c3⟩:=HV.out k hlt
   cases hvv
   have hts:=HTS.out k hlt
   have htl:=HTL.out (k + 1)
   generalize l.getD k e0 = x at *
   obtain ⟨xa,xt,xb⟩:=x
   dsimp only at c1 c2 c3 hts
   rw [hts,List.length_append,size_list] at htl
   have hss:S.size = (T k).length:=by rw [HS.out];simp [ByteArray.size]
   have hsz:S.size + xt.size ≤ 1000000:=by omega
   have hno:¬ 9223372036854775807 < S.size + xt.size:=by omega
   have HTS1:=Lib.hid (show S ++ xt = ⟨(T (k + 1)).toArray⟩ by
    rw [hts,HS.out]
    apply ByteArray.ext
    rw [ByteArray.data_append]
    apply Array.ext'
    simp)
   clear hts htl hss
   go_wp2_with fail
   exact ⟨⟨k + 1,by go_num,by omega,_,rfl,HTS1⟩,by simp [intOf];omega⟩
  ·obtain rfl:k = n:=by omega
   go_wp2_with fail
   go_ret
   exact ⟨by rw [HS.out];rfl,Q.refl _⟩
set_option maxHeartbeats 1600000 in
theorem tags_any (v:Value) (l:List E) (w:World) (hv:LstI w v l) (hl:l.length ≤ 1000000) :
  Calls Tryz.prog 59 #[v] w fun e w'=>∃ x,e = .returned x ∧ Own w' w.heap.size x (l.map (·.1)) ∧ Q w w':=by
 obtain ⟨n,hn⟩:∃ n,n = l.length:=⟨_,rfl⟩
 obtain ⟨a,cp,rfl,hc1,hc2⟩:=hv.form0 hn.symm
 have HV:=Lib.hid (fun u (q:Q w u) k (h:k < n)=>(hv.q q).cellOf hn.symm h)
 rw [← hn] at hl
 obtain ⟨T,hT⟩:∃ T:Nat → List Int,T = fun k=>(l.take k).map (·.1):=⟨_,rfl⟩
 have HT1:=Lib.hid (show l.map (·.1) = T n by rw [hT,hn];simp)
 have HTS:=Lib.hid (show ∀ k,k < n → T (k + 1) = T k ++ [(l.getD k e0).1] from fun k hk=>by
  rw [hT]
  dsimp only
  rw [List.take_add_one,List.getElem?_eq_getElem (by omega),List.map_append,List.getD_eq_getElem?_getD,List.getElem?_eq_getElem (by omega)]
  rfl)
 have HTL:=Lib.hid (show ∀ k,k ≤ n → (T k).length = k from fun k hk=>by rw [hT];simp;omega)
 have HT0:=Lib.hid (show T 0 = [] by rw [hT];rfl)
 rw [HT1.out]
 unfold maxLen at hc2
 clear hn hv hT
 go_enter Tryz.func59,Tryz.ntmps59
 go_wp2_with fail
 go_loopw [3,8] (fun x i wr=>∃ k:Nat,i = .int .i64 k ∧ k ≤ n ∧ Own wr w.heap.size x (T k) ∧ Q w wr) (fun _ i _=>n - (intOf i).toNat)
 case atStart=>exact ⟨0,rfl,by omega,by rw [HT0.out];exact Own.nil _ _,Q.refl _⟩
 case round =>
  obtain ⟨k,rfl,hk,ho,hq⟩:=hrel
  by_cases hlt:k < n
  ·obtain ⟨g,off,cap,hvv,hg,_,_,c1,c2,c3⟩:=HV.out wr hq k hlt
   cases hvv
   have HTS1:=Lib.hid (HTS.out k hlt)
   have HLK:=Lib.hid (HTL.out k hk)
   generalize l.getD k e0 = x at *
   obtain ⟨xa,xt,xb⟩:=x
   dsimp only at c1 c2 c3 HTS1
   obtain ⟨oa,oc,rfl,_,_⟩:=ho.lst.form0 HLK.out
   obtain ⟨z,hz⟩:∃ y,y = wr.alloc (.cells #[.int .i64 xa,.string xt,.int .i64 xb] 121):=⟨_,rfl⟩
   have hqz:Q wr z:=by rw [hz];exact (Q.refl wr).alloc _
   have HQZ:=Lib.hid (hq.trans hqz)
   have HOZ:=Lib.hid (ho.q hqz)
   have HBX:=Lib.hid (show Bk z wr.heap.size 121 [.int .i64 xa,.string xt,.int .i64 xb] by rw [hz];exact Bk.new _ _ _)
   have hle:=HQZ.out.le
   obtain ⟨bX,hbX⟩:∃ b,b = wr.heap.size:=⟨_,rfl⟩
   rw [← hbX] at HBX
   clear ho hq hqz
   go_upto_region 5 with fail
   rw [← hz,← hbX]
   clear hz hbX c1 c2 c3
   have x0:=HBX.out.cell 0 rfl
   go_wp2_with (at_builtin;refine push_int HOZ.out rfl _ _ rfl xa (by rfl) (by rfl) (by rw [HLK.out];omega) hle ?_)
   intro v' w3 ho3 hg3 hat3
   have HQ3:=Lib.hid (HQZ.out.grown hg3 (fun j h=>(HOZ.out.lt j h).1))
   have HO3:=Lib.hid (show Own w3 w.heap.size v' (T (k + 1)) by rw [HTS1.out];exact ho3)
   clear ho3 hg3 hat3 x0
   go_wp2_with fail
   exact ⟨⟨k + 1,by go_num,by omega,HO3.out,HQ3.out⟩,by simp [intOf];omega⟩
  ·obtain rfl:k = n:=by omega
   have HO:=Lib.hid ho
   have HQ:=Lib.hid hq
   clear ho hq
   go_wp2_with fail
   go_ret
   exact ⟨_,rfl,HO.out,HQ.out⟩
end It
end Go.Proofs.YtghfdapfnoeanaaGreatDoor
