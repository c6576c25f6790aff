/- What the document's own Of comes to, by a walk through it. (and more) -/
import Derived.Test.YteggfkbnnmpcjaaGreatDoorR19
import Derived.IntWalk
import Derived.Lib.SliceRun
set_option linter.all false
set_option maxRecDepth 100000
set_option maxHeartbeats 8000000
namespace Go.Proofs.YteggfkbnnmpcjaaGreatDoor
section
open Go.RowKit
theorem Bk.grown {w w':World} {b B:Nat} {ty:TypeId} {l:List Value} {v:Value} {zs:List Int} (hb:Bk w b ty l) (ho:Own w B v zs) (ht:ty ≠ 3) (hg:w.grownBy w' v.ownBlock):Bk w' b ty l:=by
 refine (hg.block b hb.lt ?_).trans hb;intro e;obtain ⟨cur,hc⟩:=ho.cells b e.symm;unfold Bk at hb;rw [hb] at hc;simp at hc;exact ht hc.2
theorem Own.lie {w:World} {B g n c:Nat} {u v:Value} {zs:List Int} (h:Own w B u zs) (ha:Apart v u) (hat:v.ownBlock = some g \/ g = w.heap.size + 1):Apart (.slice (some ⟨g,0,none⟩) n c) u:=by
 intro k hk hu;cases hk;rcases hat with e | e
 ·exact ha _ e hu
 ·have:=(h.lt g hu).2
  omega
namespace Tm
end Tm
namespace Tr
open Tm
end Tr
end
section
open Go.RowKit
namespace Pg
open Pt Um
theorem fm_snoc {α:Type} (f:α -> List UInt8) (l:List α) (k:Nat) (x:α) (hk:l[k]? = some x):(l.take (k + 1)).flatMap f = (l.take k).flatMap f ++ f x:=by
 have hk':=(List.getElem?_eq_some_iff.1 hk).1;have e:=(List.getElem?_eq_some_iff.1 hk).2;rw [List.take_succ_eq_append_getElem hk',List.flatMap_append,e];simp
theorem fm_le {α:Type} (f:α -> List UInt8) (l:List α) (k:Nat):((l.take k).flatMap f).length <= (l.flatMap f).length:=by
 conv=>rhs;rw [<- List.take_append_drop k l,List.flatMap_append,List.length_append]
 omega
def rsP (c p m:ByteArray) (x:Pc.E):List UInt8:=if x.1 = 0 then x.2 else if x.1 = 1 then c.data.toList else if x.1 = 2 then p.data.toList else if x.1 = 3 then m.data.toList else []
theorem resolveP_any (v:Value) (l:List Pc.E) (c p m:ByteArray) (w:World) (hv:Pc.LstP w v l) (hl:l.length <= 1000000) (hz:(l.flatMap (rsP c p m)).length <= 1000000) :
  Calls Tryz.prog 156 #[v,.string c,.string p,.string m] w fun e w'=>e = .returned (.string ⟨(l.flatMap (rsP c p m)).toArray⟩) /\ Q w w':=by
 obtain ⟨n,hn⟩:∃ n,n = l.length:=⟨_,rfl⟩;have HN:=Hd hn;have HV:=Hd hv;obtain ⟨a,cp,rfl,hc1,hc2⟩:=hv.form0 hn.symm;rw [<- hn] at hl;obtain ⟨T,hT⟩:∃ T:Nat -> List UInt8,T = fun k=>(l.take k).flatMap (rsP c p m):=⟨_,rfl⟩;have HT1:=Hd (show l.flatMap (rsP c p m) = T n by rw [hT,hn];simp);have HTS:=Hd (show ∀ k x,l[k]? = some x -> T (k + 1) = T k ++ rsP c p m x from fun k x hk=>by rw [hT];exact fm_snoc _ _ _ _ hk);have HTL:=Hd (show ∀ k,(T k).length <= 1000000 from fun k=>by rw [hT];exact Nat.le_trans (fm_le _ _ _) hz);have HB0:=Hd (show Bl.Is w.heap.size w.heap.size (Lib.byteCells (T 0)) (w.alloc (.cells #[.pointer none,.slice none 0 0] 93)) by
  rw [show T 0 = [] by rw [hT];rfl];exact Bl.Is.fresh w)
 rw [HT1.out];clear hn hv hT hz;go_enter Tryz.func156,Tryz.ntmps156
 go_wp2_with fail
 go_loopw [14] (fun i wr=>∃ k:Nat,i = .int .i64 k /\ k <= n /\ Bl.Is w.heap.size w.heap.size (Lib.byteCells (T k)) wr /\ Q w wr) (fun i _=>n - (intOf i).toNat)
 case atStart=>exact ⟨0,rfl,by omega,HB0.out,(Q.refl _).alloc _⟩
 case round =>
  obtain ⟨k,rfl,hk,hI,hq⟩:=hrel;have hqs:=hq.le;by_cases hlt:k < n
  ·have hlti:(k:Int) < (n:Int):=by omega
   have hkl:k < l.length:=by have:=HN.out;omega
   obtain ⟨g,off,cap,hvv,hg,_,_,c1,c2⟩:=(HV.out.q hq).cellOf HN.out.symm hlt;cases hvv;have hx:l[k]? = some (l.getD k (0,[])):=by rw [List.getD_eq_getElem?_getD,List.getElem?_eq_getElem hkl];rfl
   have hts:=HTS.out k _ hx;have htl:=HTL.out (k + 1);obtain ⟨x,hx⟩:∃ x,x = l.getD k (0,[]):=⟨_,rfl⟩;rw [<- hx] at c1 c2 hts;obtain ⟨xk,xt⟩:=x;unfold Pc.txt at c2;have hsx:xt = (⟨xt.toArray⟩:ByteArray).data.toList:=by simp
   obtain ⟨X,hX⟩:∃ X:ByteArray,X = ⟨xt.toArray⟩:=⟨_,rfl⟩;rw [<- hX] at c2 hsx;clear hx hX;have hqa:=hq.alloc (.cells #[.int .i64 xk,.string X] 196);have hIa:=hI.q ((Q.refl wr).alloc (.cells #[.int .i64 xk,.string X] 196));have hqsa:=hqa.le;rw [hts,List.length_append] at htl;have HTS1:=Hd hts;have HTL1:=Hd htl;clear hts htl;have main:∀ (Y:ByteArray),rsP c p m (xk,xt) = Y.data.toList -> Hid (T (k + 1) = T k ++ Y.data.toList) /\ (T k).length + Y.size <= 1000000:=fun Y hY=>by
    have h1:=HTS1.out;have h2:=HTL1.out;rw [hY] at h1 h2;rw [size_list] at h2;exact ⟨Hd h1,h2⟩
   by_cases h0:xk = 0
   ·subst h0
    obtain ⟨HM,hml⟩:=main X (by rw [<- hsx];rfl);clear main;go_wp2_with fail
    refine (Bl.write_any _ _ _ _ _ hIa (by rw [Bl.cells_length];omega) hqsa).mono ?_;rintro e w4 ⟨rfl,hI2,hb2,_⟩;go_wp2_with fail
    exact ⟨⟨k + 1,by go_num,by omega,by rw [HM.out];exact hI2.write,Below.trans hqa hb2⟩,by simp [intOf];omega⟩
   ·have h0b:(xk == 0) = false:=beq_eq_false_iff_ne.2 h0
    by_cases h1:xk = 1
    ·subst h1
     obtain ⟨HM,hml⟩:=main c rfl;clear main;go_wp2_with fail
     refine (Bl.write_any _ _ _ _ _ hIa (by rw [Bl.cells_length];omega) hqsa).mono ?_;rintro e w4 ⟨rfl,hI2,hb2,_⟩;go_wp2_with fail
     exact ⟨⟨k + 1,by go_num,by omega,by rw [HM.out];exact hI2.write,Below.trans hqa hb2⟩,by simp [intOf];omega⟩
    ·have h1b:(xk == 1) = false:=beq_eq_false_iff_ne.2 h1
     by_cases h2:xk = 2
     ·subst h2
      obtain ⟨HM,hml⟩:=main p rfl;clear main;go_wp2_with fail
      refine (Bl.write_any _ _ _ _ _ hIa (by rw [Bl.cells_length];omega) hqsa).mono ?_;rintro e w4 ⟨rfl,hI2,hb2,_⟩;go_wp2_with fail
      exact ⟨⟨k + 1,by go_num,by omega,by rw [HM.out];exact hI2.write,Below.trans hqa hb2⟩,by simp [intOf];omega⟩
     ·have h2b:(xk == 2) = false:=beq_eq_false_iff_ne.2 h2
      by_cases h3:xk = 3
      ·subst h3
       obtain ⟨HM,hml⟩:=main m rfl;clear main;go_wp2_with fail
       refine (Bl.write_any _ _ _ _ _ hIa (by rw [Bl.cells_length];omega) hqsa).mono ?_;rintro e w4 ⟨rfl,hI2,hb2,_⟩;go_wp2_with fail
       exact ⟨⟨k + 1,by go_num,by omega,by rw [HM.out];exact hI2.write,Below.trans hqa hb2⟩,by simp [intOf];omega⟩
      ·have h3b:(xk == 3) = false:=beq_eq_false_iff_ne.2 h3
       have HM:=Hd (show T (k + 1) = T k by
        rw [HTS1.out];unfold rsP;rw [if_neg h0,if_neg h1,if_neg h2,if_neg h3,List.append_nil])
       clear main;go_wp2_with fail
       exact ⟨⟨k + 1,by go_num,by omega,by rw [HM.out];exact hIa,hqa⟩,by simp [intOf];omega⟩
  ·have hnlt:¬ (k:Int) < (n:Int):=by omega
   obtain rfl:k = n:=by omega
   go_wp2_with fail
   refine (Bl.done_any _ _ _ _ hI hqs).mono ?_;rintro e w' ⟨rfl,hb2⟩;go_wp2_with fail
   go_ret
   exact ⟨rfl,Below.trans hq hb2⟩
end Pg
end
section
open Go.RowKit
namespace Pg
open Pt Um
theorem OwnP.one (w:World) (k:Int) (t:ByteArray):OwnP (w.alloc (.cells #[.int .i64 k,.string t] 196)) w.heap.size (.slice (some ⟨w.heap.size,0,none⟩) 1 1) [(k,t.data.toList)] :=
 ⟨rfl,.inr ⟨w.heap.size,1,#[.int .i64 k,.string t],rfl,Nat.le_refl _,heap_alloc_new _ _,Nat.le_refl _,by unfold maxLen;omega,rfl,rfl⟩⟩
theorem OwnP.none (w:World):OwnP (w.alloc (.cells #[] 196)) w.heap.size (.slice (some ⟨w.heap.size,0,none⟩) 0 0) [] :=
 ⟨rfl,.inr ⟨w.heap.size,0,#[],rfl,Nat.le_refl _,heap_alloc_new _ _,Nat.le_refl _,by unfold maxLen;omega,rfl,rfl⟩⟩
theorem clone_any (v:Value) (l:List Pc.E) (w:World) (hv:Pc.LstP w v l) (hl:l.length <= 1000000) :
  Calls Tryz.prog 180 #[v] w fun e w'=>∃ u,e = .returned u /\ Pc.New w' w.heap.size u l /\ Q w w':=by
 obtain ⟨n,hn⟩:∃ n,n = l.length:=⟨_,rfl⟩;have HV:=Hd hv;obtain ⟨a,cp,rfl,hc1,hc2⟩:=hv.form0 hn.symm;have HN:=Hd hn;cases a with
 | none =>
  have hl0:l = []:=by
   rcases hv with ⟨h,_⟩ | ⟨g,off,cap,h,_⟩
   ·exact h
   ·cases h
  subst hl0;have q22:∀ (w:World) (a:Option Addr) (n c n' c':Nat),(binOp .eql 102 (.slice a n c) (.slice none n' c')).run Tryz.prog w = .ok (.bool a.isNone) w:=fun w a n c n' c'=>Lib.run_eql_slice_nil w _ _ a n c n' c' Tryz.underlying102;go_enter Tryz.func180,Tryz.ntmps180
  go_wp2_with fail
  go_ret
  exact ⟨_,rfl,⟨Pc.LstP.nil _ _ _ (by unfold maxLen;omega) (fun _=>rfl),fun a n c h=>by cases h⟩,Q.refl _⟩
 | some ad =>
  have ho:=OwnP.none w;have hqa:=(Q.refl w).alloc (.cells #[] 196);have HVA:=Hd (HV.out.q hqa);clear hv hn;have q22:∀ (w:World) (a:Option Addr) (n c n' c':Nat),(binOp .eql 102 (.slice a n c) (.slice none n' c')).run Tryz.prog w = .ok (.bool a.isNone) w:=fun w a n c n' c'=>Lib.run_eql_slice_nil w _ _ a n c n' c' Tryz.underlying102;go_enter Tryz.func180,Tryz.ntmps180
  go_wp2_with (at_builtin;refine Pc.pushl elP ho HVA.out rfl _ _ rfl (by rfl) (by rfl) (by simp;omega) hqa.le ?_)
  intro v' w4 ho4 hg4 hat4;have hq4:=hqa.grown hg4 (fun j h=>(ho.lt j h).1);have HO:=Hd (show OwnP w4 w.heap.size v' l from ho4);clear ho4;go_wp2_with fail
  go_ret
  exact ⟨_,rfl,HO.out.new,hq4⟩
theorem negative_any (va vb:Value) (l k:List Pc.E) (w:World) (hv:Pc.LstP w va l) (hu:Pc.LstP w vb k) (hl:l.length <= 1000000) (hk:k.length <= 1000000) :
  Calls Tryz.prog 145 #[va,vb] w fun e w'=>∃ u v,e = .returned (.tuple #[u,v]) /\ Pc.New w' w.heap.size u ((3,[]) :: l) /\ Pc.New w' w.heap.size v k /\ Q w w':=by
 obtain ⟨a,c,rfl,_,_⟩:=hv.shape2;obtain ⟨b,d,rfl,_,_⟩:=hu.shape2;have ho:=OwnP.one w 3 ByteArray.empty;have hqa:=(Q.refl w).alloc (.cells #[.int .i64 3,.string ByteArray.empty] 196);have HVA:=Hd (hv.q hqa);have HU:=Hd (fun u (hq:Q w u)=>clone_any _ k u (hu.q hq) hk);obtain ⟨n,hn⟩:∃ n,n = l.length:=⟨_,rfl⟩;obtain ⟨m,hm⟩:∃ m,m = k.length:=⟨_,rfl⟩;have hlen:([(3,ByteArray.empty.data.toList)]:List Pc.E).length + l.length < 1073741824:=by simp;omega
 rw [<- hn] at HVA |-;rw [<- hm] at HU |-;clear hv hu hn hm;go_enter Tryz.func145,Tryz.ntmps145
 go_wp2_with (at_builtin;refine Pc.pushl elP ho HVA.out rfl _ _ rfl (by rfl) (by rfl) hlen hqa.le ?_)
 intro v' w4 ho4 hg4 hat4;have hq4:=hqa.grown hg4 (fun j h=>(ho.lt j h).1);have HO:=Hd (show OwnP w4 w.heap.size v' ((3,[]) :: l) from ho4);clear ho4;go_wp2_with fail
 refine (HU.out _ hq4).mono ?_;rintro e w5 ⟨v5,rfl,hn5,hq5⟩;have HN5:=Hd (hn5.mono hq4.le);have HO5:=Hd (HO.out.new.q hq5);clear hn5;go_wp2_with fail
 go_ret2
 exact ⟨_,_,rfl,HO5.out,HN5.out,hq4.trans hq5⟩
theorem countP_any (v:Value) (l:List Pc.E) (kind:Int) (w:World) (hv:Pc.LstP w v l) (hl:l.length <= 1000000) :
  Calls Tryz.prog 148 #[v,.int .i64 kind] w fun e w'=>e = .returned (.int .i64 ((l.countP fun p=>p.1 == kind:Nat):Int)) /\ Q w w':=by
 obtain ⟨n,hn⟩:∃ n,n = l.length:=⟨_,rfl⟩;have HN:=Hd hn;have HV:=Hd hv;obtain ⟨a,cp,rfl,hc1,hc2⟩:=hv.form0 hn.symm;rw [<- hn] at hl;obtain ⟨T,hT⟩:∃ T:Nat -> Nat,T = fun k=>(l.take k).countP fun p=>p.1 == kind:=⟨_,rfl⟩;have HT1:=Hd (show (l.countP fun p=>p.1 == kind) = T n by rw [hT,hn];simp);have HT0:=Hd (show T 0 = 0 by rw [hT];rfl);have HTS:=Hd (show ∀ k,k < n -> T (k + 1) = T k + (if (l.getD k (0,[])).1 = kind then 1 else 0) from fun k hk=>by
  have hk':k < l.length:=by omega
  rw [hT];simp only;rw [List.take_succ_eq_append_getElem hk',List.countP_append,List.getD_eq_getElem?_getD,List.getElem?_eq_getElem hk'];simp [List.countP_cons])
 have HTL:=Hd (show ∀ k,T k <= k from fun k=>by rw [hT];exact Nat.le_trans List.countP_le_length (List.length_take_le _ _));rw [HT1.out];clear hn hv hT;go_enter Tryz.func148,Tryz.ntmps148
 go_wp2_with fail
 go_loopw [5,10] (fun m i wr=>∃ k:Nat,i = .int .i64 k /\ m = .int .i64 (T k) /\ k <= n /\ Q w wr) (fun _ i _=>n - (intOf i).toNat)
 case atStart=>exact ⟨0,rfl,by rw [HT0.out];rfl,by omega,Q.refl _⟩
 case round =>
  obtain ⟨k,rfl,rfl,hk,hq⟩:=hrel;by_cases hlt:k < n
  ·have hlti:(k:Int) < (n:Int):=by omega
   obtain ⟨g,off,cap,hvv,hg,_,_,c1,c2⟩:=(HV.out.q hq).cellOf HN.out.symm hlt;cases hvv;have hts:=HTS.out k hlt;have htl:=HTL.out k;obtain ⟨x,hx⟩:∃ x,x = l.getD k (0,[]):=⟨_,rfl⟩;rw [<- hx] at c1 c2 hts;obtain ⟨xk,xt⟩:=x;unfold Pc.txt at c2;generalize (⟨xt.toArray⟩:ByteArray) = X at *;clear hx;by_cases hxk:xk = kind
   ·rw [if_pos hxk] at hts
    subst hxk;have HF:=Hd hts;clear hts;go_wp2_with fail
    exact ⟨⟨k + 1,by go_num,by rw [HF.out];go_num,by omega,by first | exact hq.alloc _ | exact Q.setCell (Q.setCell (hq.alloc _) hq.le _) hq.le _⟩,by simp [intOf];omega⟩
   ·rw [if_neg hxk] at hts
    have HF:=Hd hts;have hb:(xk == kind) = false:=beq_eq_false_iff_ne.2 hxk;clear hts;go_wp2_with fail
    exact ⟨⟨k + 1,by go_num,by rw [HF.out];go_num,by omega,by first | exact hq.alloc _ | exact Q.setCell (Q.setCell (hq.alloc _) hq.le _) hq.le _⟩,by simp [intOf];omega⟩
  ·have hnlt:¬ (k:Int) < (n:Int):=by omega
   obtain rfl:k = n:=by omega
   go_wp2_with fail
   go_ret
   exact ⟨rfl,hq⟩
end Pg
end
section
open Go.RowKit
namespace Pg
open Pt Um
structure Sl where
 a:Option Addr
 n:Nat
 c:Nat
 zs:List (Int × Int)
def Sl.v (s:Sl):Value:=.slice s.a s.n s.c
theorem Sl.one (s:Sl):(Sl.v s).oneCell' = true:=rfl
def Sl.ok (w:World) (s:Sl):Prop:=Sg.LstP w s.v s.zs /\ s.zs.length = s.n
theorem elemGs:Elem 179 177 (.slice none 0 0) 24:=⟨by kernel_rfl,Tryz.underlying177,rfl,by omega⟩
def ntD (x:Int × Int):Bool:=!isD x
def splitD:List (Int × Int) -> List (List (Int × Int))
 | []=>[[]]
 | x :: r=>if isD x = true then [] :: splitD r else match splitD r with
  | []=>[[x]]
  | a :: b=>(x :: a) :: b
theorem splitD_end (l:List (Int × Int)) (h:ah ntD l = l.length):splitD l = [l]:=by
 induction l with
 | nil=>rfl
 | cons x r ih =>
  unfold ah at h;rw [List.takeWhile_cons] at h;split at h
  ·rename_i hx
   have hx:isD x = false:=by simpa [ntD] using hx
   have:=ih (by unfold ah;simpa using h);unfold splitD;rw [if_neg (by rw [hx];simp),this]
  ·simp at h
theorem splitD_cut (l:List (Int × Int)) (h:ah ntD l < l.length):splitD l = l.take (ah ntD l) :: splitD (l.drop (ah ntD l + 1)):=by
 induction l with
 | nil=>simp at h
 | cons x r ih =>
  unfold ah at h |-;rw [List.takeWhile_cons] at h |-;split at h
  ·rename_i hx
   have hx':isD x = false:=by simpa [ntD] using hx
   have:=ih (by unfold ah;simpa using h);unfold ah at this;rw [if_pos hx,splitD,if_neg (by rw [hx'];simp),this];simp
  ·rename_i hx
   have hx':isD x = true:=by simpa [ntD] using hx
   rw [if_neg hx,splitD,if_pos hx'];simp
theorem halves_any (v:Value) (l:List (Int × Int)) (w:World) (hv:Sg.LstP w v l) (hl:l.length <= 1000000) :
  Calls Tryz.prog 140 #[v] w fun e w'=>∃ (u:Value) (ls:List Sl),e = .returned u /\ GOwn 179 Sl.v w' w.heap.size u ls /\ (∀ s ∈ ls,s.ok w) /\ ls.map Sl.zs = splitD l /\ Q w w':=by
 obtain ⟨n,hn⟩:∃ n,n = l.length:=⟨_,rfl⟩;have HN:=Hd hn;have HV:=Hd hv;obtain ⟨a,cp,rfl,hc1,hc2⟩:=hv.form0 hn.symm;rw [<- hn] at hl;clear hn hv;go_enter Tryz.func140,Tryz.ntmps140
 go_wp2_with fail
 go_loopw [0,3] (fun x u wr=>∃ (k m:Nat) (ls:List Sl) (ad:Option Addr) (c:Nat),x = .slice ad m c /\ k + m = n /\ Hid (Sg.LstP w (.slice ad m c) (l.drop k)) /\ GOwn 179 Sl.v wr w.heap.size u ls /\ Hid (ls.map Sl.zs ++ splitD (l.drop k) = splitD l) /\ ls.length <= k /\ (∀ s ∈ ls,s.ok w) /\ Q w wr) (fun x _ _=>(lenOf x))
 case atStart=>exact ⟨0,n,[],a,cp,rfl,by omega,by rw [List.drop_zero];exact HV,GOwn.nil _ _ _ _,Hd (by rw [List.drop_zero];rfl),by simp,by simp,Q.refl _⟩
 case round =>
  obtain ⟨k,m,ls,ad,c,rfl,hkm,HL,ho,HJ,hok,hall,hq⟩:=hrel;have hqs:=hq.le;have HALL:=Hd hall;clear hall;have HLL:=Hd (show (l.drop k).length = m by rw [List.length_drop,<- HN.out];omega);obtain ⟨L,hL⟩:∃ L,L = l.drop k:=⟨_,rfl⟩;have HD:=Hd (fun (z:Nat)=>(show L.drop z = l.drop (k + z) by rw [hL,List.drop_drop]));rw [<- hL] at HL HLL HJ;clear hL;have hfm:=HL.out.form0 HLL.out;have hcc:m <= c /\ c <= maxLen:=by obtain ⟨_,_,hv2,h1,h2⟩:=hfm;cases hv2;exact ⟨h1,h2⟩
  unfold maxLen at hcc;clear hfm;have hAH:=fun w hv=>ahead_any 172 ntD notD_any enters45 (.slice ad m c) L w hv (by rw [HLL.out];omega);have hAle:=ah_le ntD L;have HSE:=Hd (splitD_end L);have HSC:=Hd (splitD_cut L);obtain ⟨A,hA⟩:∃ A,A = ah ntD L:=⟨_,rfl⟩;rw [<- hA] at hAH hAle HSE HSC;rw [HLL.out] at hAle HSE HSC;have HAH:=Hd hAH;clear hA hAH;have HTK:=Hd (show (Sl.mk ad A c (L.take A)).ok w from ⟨HL.out.take A (by rw [HLL.out];exact hAle),by simp [HLL.out];omega⟩);go_wp2_with fail
  refine (HAH.out _ (HL.out.q hq)).mono ?_;rintro e w2 ⟨rfl,hq2⟩;have ho2:=ho.q hq2;have hq22:=hq.trans hq2;have hqs2:=hq22.le;go_wp2_with (at_builtin;refine gpush elemGs ho2 rfl _ _ rfl (Sl.mk ad A c (L.take A)) rfl (by rfl) (by rfl) (by omega) hqs2 ?_)
  intro v' w4 ho4 hg4 hat4;have hq4:=hq22.grown hg4 (fun j h=>(ho2.lt j h).1);have HA4:=Hd (show ∀ s ∈ ls ++ [Sl.mk ad A c (L.take A)],s.ok w from fun s hs=>by
   rcases List.mem_append.1 hs with hs | hs
   ·exact HALL.out s hs
   ·rw [List.mem_singleton.1 hs];exact HTK.out)
  by_cases hAm:A = m
  ·have HF:=Hd (show (ls ++ [Sl.mk ad A c (L.take A)]).map Sl.zs = splitD l by
    rw [<- HJ.out,HSE.out hAm];simp [List.take_of_length_le (show L.length <= A by rw [HLL.out];omega)])
   subst hAm;go_wp2_with fail
   go_ret
   exact ⟨_,rfl,_,ho4,HA4.out,HF.out,hq4⟩
  ·have hlt:A < m:=by omega
   have hlti:(A:Int) + 1 <= (m:Int):=by omega
   have hAb:((A:Int) == (m:Int)) = false:=beq_eq_false_iff_ne.2 (by omega);have HF:=Hd (show (ls ++ [Sl.mk ad A c (L.take A)]).map Sl.zs ++ splitD (L.drop (A + 1)) = splitD l by
    rw [<- HJ.out,HSC.out hlt];simp)
   have hlen:(ls ++ [Sl.mk ad A c (L.take A)]).length <= k + (A + 1):=by simp;omega
   rcases HL.out.rest HLL.out (show A + 1 <= m by omega) with ⟨g3,off3,ha,hlt5,hcc2,hcm,hdp⟩ | ⟨hkn,hcn,hdp⟩ | ⟨ad3,ha,hkn,hcc2,hcm,hdp⟩
   ·cases ha
    have HDP:=Hd hdp;clear hdp;go_wp2_with fail
    exact ⟨⟨k + (A + 1),m - (A + 1),_,_,_,rfl,by omega,Hd (by have h:=HDP.out;rw [HD.out] at h;exact h),ho4,Hd (by have h:=HF.out;rw [HD.out] at h;exact h),hlen,HA4.out,hq4⟩,by show m - (A + 1) < m;omega⟩
   ·subst hcn hkn
    have HDP:=Hd hdp;clear hdp;go_wp2_with fail
    exact ⟨⟨k + (A + 1),0,_,_,_,rfl,by omega,Hd (by have h:=HDP.out;rw [HD.out] at h;rw [h];exact Sg.LstP.nil _ _ _ (by unfold maxLen;omega) (fun _=>rfl)),ho4,Hd (by have h:=HF.out;rw [HD.out] at h;exact h),hlen,HA4.out,hq4⟩,by show 0 < A + 1;omega⟩
   ·subst hkn
    cases ha;have HDP:=Hd hdp;clear hdp;go_wp2_with fail
    exact ⟨⟨k + (A + 1),0,_,_,_,rfl,by omega,Hd (by have h:=HDP.out;rw [HD.out] at h;rw [h];exact Sg.LstP.nil _ _ _ (by unfold maxLen;omega) (fun h=>nomatch h)),ho4,Hd (by have h:=HF.out;rw [HD.out] at h;exact h),hlen,HA4.out,hq4⟩,by show 0 < A + 1;omega⟩
end Pg
end
end Go.Proofs.YteggfkbnnmpcjaaGreatDoor
