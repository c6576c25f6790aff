/- The document's own answers on patterns: joined, SamePieces. (and more) -/
import Derived.Test.YtdjhkbholijnmaaGreatDoorR09
import Derived.Test.YtdjhkbholijnmaaGreatDoorR11
set_option linter.all false
set_option maxRecDepth 100000
set_option maxHeartbeats 8000000
namespace Go.Proofs.YtdjhkbholijnmaaGreatDoor
section
open Go.RowKit
namespace Pr
open Pt Um
def joinE:List UInt8 -> List Pc.E -> List Pc.E
 | t,[]=>if t = [] then [] else [(0,t)]
 | t,p :: r=>if p.1 = 0 then joinE (t ++ p.2) r else (if t = [] then [] else [(0,t)]) ++ (p.1,[]) :: joinE [] r
theorem joinE_tk (l:List (Int × Int)):∀ t,joinE t (tkP l) = joinT t l:=by
 induction l with
 | nil=>intro t;rfl
 | cons x r ih =>
  intro t;show (if x.1 = 0 then joinE (t ++ encL x.2) (tkP r) else (if t = [] then [] else [(0,t)]) ++ (x.1,[]) :: joinE [] (tkP r)) = _
  rw [ih,ih];rfl
theorem joinE_cons (t:List UInt8) (p:Pc.E) (r:List Pc.E):joinE t (p :: r) = if p.1 = 0 then joinE (t ++ p.2) r else (if t = [] then [] else [(0,t)]) ++ (p.1,[]) :: joinE [] r:=rfl
theorem joinE_nil (t:List UInt8):joinE t [] = if t = [] then [] else [(0,t)]:=rfl
theorem joinE_len (l:List Pc.E):∀ t,(joinE t l).length <= 2 * l.length + 1:=by
 induction l with
 | nil=>intro t;unfold joinE;split <;> simp
 | cons p r ih =>
  intro t;rw [joinE_cons];split
  ·have:=ih (t ++ p.2);simp;omega
  ·have:=ih []
   split <;> simp <;> omega
theorem dropE_at (l:List Pc.E) (k:Nat) (hk:k < l.length):l.drop k = l.getD k (0,[]) :: l.drop (k + 1):=by
 rw [List.getD_eq_getElem?_getD,List.getElem?_eq_getElem hk];exact List.drop_eq_getElem_cons hk
theorem app_eq (a:List UInt8) (b:List UInt8):(⟨a.toArray⟩:ByteArray) ++ ⟨b.toArray⟩ = ⟨(a ++ b).toArray⟩:=by
 apply ba_ext;rw [ByteArray.data_append];simp
theorem empty_iff (t:List UInt8):(⟨t.toArray⟩:ByteArray).toList.isEmpty = decide (t = []):=by
 rw [ByteArray.toList_eq,Bool.eq_iff_iff];simp
theorem empty_iff2 (t:List UInt8):((⟨t.toArray⟩:ByteArray).toList == []) = decide (t = []):=by
 rw [ByteArray.toList_eq,Bool.eq_iff_iff];simp
theorem joined_any (v:Value) (l:List Pc.E) (w:World) (hv:Pc.LstP w v l) (hl:l.length <= 1000000) (hb:∀ p ∈ l,p.2.length <= 1000000) :
  Calls Tryz.prog 180 #[v] w fun e w'=>∃ u,e = .returned u /\ OwnB w' w.heap.size u (joinE [] l) /\ Q w w':=by
 obtain ⟨n,hn⟩:∃ n,n = l.length:=⟨_,rfl⟩;have HN:=Hd hn;have HV:=Hd hv;have HB:=Hd hb;obtain ⟨a,cp,rfl,_,_⟩:=hv.form0 hn.symm;rw [<- hn] at hl;clear hv hn hb;go_enter Tryz.func180,Tryz.ntmps180
 go_wp2_with fail
 go_loopw [3,4,5] (fun u t i wr=>∃ (k:Nat) (x:List UInt8) (o:List Pc.E),i = .int .i64 k /\ t = .string ⟨x.toArray⟩ /\ k <= n /\ OwnB wr w.heap.size u o /\ x.length <= 1000000 * k /\ o.length <= 2 * k /\ o ++ joinE x (l.drop k) = joinE [] l /\ Q w wr) (fun _ _ i _=>n - (intOf i).toNat)
 case atStart=>exact ⟨0,[],[],rfl,rfl,by omega,Pc.OwnE.nil _ _ _,by simp,by simp,by simp,Q.refl _⟩
 case round =>
  obtain ⟨k,x,o,rfl,rfl,hk,ho,hx,hol,hj,hq⟩:=hrel;have hqs:=hq.le;have HJ:=Hd hj;have hol2:o.length < 1073741824:=by omega
  have he1:=empty_iff x;have he2:=empty_iff2 x;have hsz:(⟨x.toArray⟩:ByteArray).size = x.length:=by rw [<- size_list]
  obtain ⟨X,hX⟩:∃ X,X = (⟨x.toArray⟩:ByteArray):=⟨_,rfl⟩;rw [<- hX] at he1 he2 hsz |-;have HX:=Hd hX;clear hj hX;by_cases hlt:k < n
  ·have hlti:(k:Int) < (n:Int):=by omega
   have hkl:k < l.length:=by have:=HN.out;omega
   have hj:=HJ.out;rw [dropE_at l k hkl] at hj;have hbk:(l.getD k (0,[])).2.length <= 1000000:=HB.out _ (by rw [List.getD_eq_getElem?_getD,List.getElem?_eq_getElem hkl];exact List.getElem_mem hkl);obtain ⟨g,off,cap,hvv,hg,hnc,hcm,d1,d2⟩:=HV.out.cellOf HN.out.symm hlt;cases hvv;have c1:=(World.cell?_of_block (w:=w) (hq.block hg) (a:=⟨g,off + k * 2,none⟩)).trans d1;have c2:=(World.cell?_of_block (w:=w) (hq.block hg) (a:=⟨g,off + k * 2 + 1,none⟩)).trans d2;unfold Pc.txt at c2;generalize l.getD k (0,[]) = p at c1 c2 d1 hj hbk;obtain ⟨pk,pt⟩:=p;simp only at c1 c2 d1 hbk;have hpz:(⟨pt.toArray⟩:ByteArray).size = pt.length:=by rw [<- size_list]
   have hap:=app_eq x pt;obtain ⟨T,hT⟩:∃ T,T = (⟨pt.toArray⟩:ByteArray):=⟨_,rfl⟩;rw [<- hT] at c2 hpz hap;rw [<- HX.out] at hap;have HAP:=Hd hap;have HD1:=Hd d1;clear hT hap d1 d2;by_cases h0:pk = 0
   ·subst h0
    rw [joinE_cons,if_pos rfl] at hj;have HJ2:=Hd hj;have hcat:X.size + T.size <= 9223372036854775807:=by omega
    clear hj he1 he2;go_wp2_with fail
    go_roundw
    case rel=>exact ⟨k + 1,x ++ pt,o,by go_num,by rw [HAP.out],by omega,ho,by rw [List.length_append];omega,by omega,HJ2.out,hq⟩
    case measure=>simp [intOf];omega
   ·have h0b:(pk == 0) = false:=beq_eq_false_iff_ne.2 h0
    rw [joinE_cons,if_neg h0] at hj;have HJ2:=Hd hj;clear hj h0;by_cases hxe:x = []
    ·have he3:X.toList.isEmpty = true:=by rw [he1];exact decide_eq_true hxe
     have he4:(X.toList == []) = true:=by rw [he2];exact decide_eq_true hxe
     have HJ3:Hid (o ++ [(pk,[])] ++ joinE [] (l.drop (k + 1)) = joinE [] l):=Hd (by rw [<- HJ2.out,if_pos hxe];simp);have HXE:=Hd hxe;clear he1 he2 hxe;go_wp2_with (at_builtin;refine Pc.push elB ho rfl _ _ rfl pk ⟨#[]⟩ (by rfl) (by rfl) hol2 hqs ?_)
     intro v' w4 ho4 hg4 hat4;have HO4:Hid (OwnB w4 w.heap.size v' (o ++ [(pk,[])])):=Hd ho4;have hq4:=hq.grown hg4 (fun j h=>(ho.lt j h).1);clear ho4;go_wp2_with fail
     go_roundw
     case rel=>exact ⟨k + 1,x,o ++ [(pk,[])],by go_num,by rw [HX.out],by omega,HO4.out,by omega,by simp;omega,by rw [HXE.out];exact HJ3.out,hq4⟩
     case measure=>simp [intOf];omega
    ·have he3:X.toList.isEmpty = false:=by rw [he1];exact decide_eq_false hxe
     have he4:(X.toList == []) = false:=by rw [he2];exact decide_eq_false hxe
     have HJ3:Hid (o ++ [(0,x)] ++ [(pk,[])] ++ joinE [] (l.drop (k + 1)) = joinE [] l):=Hd (by rw [<- HJ2.out,if_neg hxe];simp);clear he1 he2 hxe;go_wp2_with (at_builtin;refine Pc.push elB ho rfl _ _ rfl 0 X (by rfl) (by rfl) hol2 hqs ?_)
     intro v' w4 ho4 hg4 hat4;have ho5:OwnB w4 w.heap.size v' (o ++ [(0,x)]):=by
      have:=ho4;rw [HX.out] at this;exact this
     have hq4:=hq.grown hg4 (fun j h=>(ho.lt j h).1);have hqs4:=hq4.le;have hol3:(o ++ [((0:Int),x)]).length < 1073741824:=by rw [List.length_append];simp;omega
     have c14:=(World.cell?_of_block (w:=w) (hq4.block hg) (a:=⟨g,off + k * 2,none⟩)).trans HD1.out;clear ho4 ho c1 c2;go_wp2_with (at_builtin;refine Pc.push elB ho5 rfl _ _ rfl pk ⟨#[]⟩ (by rfl) (by rfl) hol3 hqs4 ?_)
     intro v6 w6 ho6 hg6 hat6;have HO6:Hid (OwnB w6 w.heap.size v6 (o ++ [(0,x)] ++ [(pk,[])])):=Hd (by first | exact ho6 | (rw [List.append_assoc];exact ho6));have hq6:=hq4.grown hg6 (fun j h=>(ho5.lt j h).1);clear ho6;go_wp2_with fail
     go_roundw
     case rel=>exact ⟨k + 1,[],o ++ [(0,x)] ++ [(pk,[])],by go_num,rfl,by omega,HO6.out,by simp,by simp;omega,HJ3.out,hq6⟩
     case measure=>simp [intOf];omega
  ·have hnlt:¬ (k:Int) < (n:Int):=by omega
   have hj:=HJ.out;rw [List.drop_eq_nil_of_le (by have:=HN.out;omega)] at hj;rw [joinE_nil] at hj;by_cases hxe:x = []
   ·have he3:X.toList.isEmpty = true:=by rw [he1];exact decide_eq_true hxe
    have he4:(X.toList == []) = true:=by rw [he2];exact decide_eq_true hxe
    rw [if_pos hxe,List.append_nil] at hj;have HJ3:=Hd hj;clear he1 he2 hxe hj;go_wp2_with fail
    go_ret
    rw [<- HJ3.out];exact ⟨_,rfl,ho,hq⟩
   ·have he3:X.toList.isEmpty = false:=by rw [he1];exact decide_eq_false hxe
    have he4:(X.toList == []) = false:=by rw [he2];exact decide_eq_false hxe
    rw [if_neg hxe] at hj;have HJ3:=Hd hj;clear he1 he2 hxe hj;go_wp2_with (at_builtin;refine Pc.push elB ho rfl _ _ rfl 0 X (by rfl) (by rfl) hol2 hqs ?_)
    intro v' w4 ho4 hg4 hat4;have HO4:Hid (OwnB w4 w.heap.size v' (o ++ [(0,x)])):=Hd (by
     have:=ho4;rw [HX.out] at this;exact this)
    have hq4:=hq.grown hg4 (fun j h=>(ho.lt j h).1);clear ho4;go_wp2_with fail
    go_ret
    rw [<- HJ3.out];exact ⟨_,rfl,HO4.out,hq4⟩
end Pr
end
section
open Go.RowKit
namespace Tm
theorem LD.zero (w:World) (B:Nat):LD w B (.agg #[.bool false,.slice none 0 0,.bool false,.slice none 0 0]) T0:=⟨none,0,none,0,rfl,Own.nil w B,Own.nil w B⟩
end Tm
namespace Tp
open Tm
theorem of_any (g:Bool) (v:Value) (L:List Int) (w:World) (hv:Lst w v L) (hl:L.length < 1000000) :
  Calls Tryz.prog 65 #[.bool g,v] w fun e w'=>∃ x,e = .returned (.tuple #[x,.int .i64 (ofC L)]) /\ LD w' (w.heap.size + 1) x (ofR g L) /\ Q w w':=by
 obtain ⟨n,hn⟩:∃ n,n = L.length:=⟨_,rfl⟩;obtain ⟨a,c,rfl,hnc,hcm⟩:=hv.form0 hn.symm;have HA:=Hd (fun u (q:Q w u)=>areAtoms_any _ L u (hv.q q) (by omega));have HI:=Hd (fun u (q:Q w u)=>Ts.index_any _ L u (hv.q q) (by omega));have HO:=Hd (fun u (q:Q w u)=>own_any _ L u (hv.q q) hl);obtain ⟨k,hk⟩:∃ k,k = (ahd L).length:=⟨_,rfl⟩;have hkn:k <= n:=by rw [hk,hn];exact ahd_le L
 have hhas:=has_lt L;rw [<- hk,<- hn] at hhas;have e1:ahd L = L.take k:=by rw [hk];exact ahd_eq L
 have e2:bhd L = L.drop (k + 1):=by rw [hk];exact bhd_eq L
 obtain ⟨m,hm⟩:∃ m,m = n - (k + 1):=⟨_,rfl⟩;have hbl:(bhd L).length = m:=by rw [e2,List.length_drop,hm,hn]
 have HC1:=Hd (fun u (q:Q w u)=>(by
  have h:=cut_any _ L 0 k u (hv.q q) (by omega) (by omega);rw [Nat.sub_zero,List.drop_zero,<- e1] at h;exact h:Calls Tryz.prog 66 #[.slice a n c,.int .i64 0,.int .i64 k] u fun e w'=>∃ a,e = .returned (.slice a k k) /\ Lst u (.slice a k k) (ahd L) /\ u = w'))
 have HC2:=Hd (fun u (q:Q w u) (hlt:k < n) (x:Int) (hx:x = (k:Int) + 1)=>(by
  subst hx;have h:=cut_any _ L (k + 1) n u (hv.q q) (by omega) (by omega);rw [<- hm,List.take_of_length_le (by rw [List.length_drop];omega),<- e2] at h;exact h:Calls Tryz.prog 66 #[.slice a n c,.int .i64 x,.int .i64 n] u fun e w'=>∃ a,e = .returned (.slice a m m) /\ Lst u (.slice a m m) (bhd L) /\ u = w'))
 have HOA:=Hd (fun u x (h:Lst u x (ahd L))=>own_any _ (ahd L) u h (by omega));have HOB:=Hd (fun u x (h:Lst u x (bhd L))=>own_any _ (bhd L) u h (by omega));have HCN:=Hd (fun u x (h:Lst u x (bhd L))=>Ts.contains_any _ (bhd L) u h (by omega));have hbad:=fun (h:okA L = false)=>And.intro (ofC_bad h) (ofR_bad (g:=g) h);have htwo:=fun (h:okA L = true) (h2:has (bhd L) = true)=>And.intro (ofC_two h h2) (ofR_two (g:=g) h h2);have hok:=fun (h:okA L = true) (h2:has (bhd L) = false)=>And.intro (ofC_ok h h2) (ofR_ok (g:=g) h h2);have hno:=has_no L;have hix:ix L = if has L = true then ((ahd L).length:Int) else -1:=rfl
 rw [<- hk] at hix;have HK:=Hd (show (ahd L).length = k /\ (bhd L).length = m /\ L.length = n from ⟨hk.symm,hbl,hn.symm⟩);have HD:=Hd (show ofD g L = ⟨g,ahd L,has L,bhd L⟩ from rfl);generalize hR:ofR g L = R at *;generalize hD:ofD g L = D at *;generalize hC:ofC L = C at *;generalize okA L = r at *;generalize hr2e:has (bhd L) = r2 at *;generalize hhl:has L = r3 at *;generalize ix L = x at *;obtain ⟨z,hz⟩:∃ y,y = w.alloc (.cells #[.bool false,.slice none 0 0,.bool false,.slice none 0 0] 39):=⟨_,rfl⟩;have HQ:=Hd (show Q w z by rw [hz];exact (Q.refl w).alloc _);have HB:=Hd (show Bk z w.heap.size 39 [.bool false,.slice none 0 0,.bool false,.slice none 0 0] by rw [hz];exact Bk.new _ _ _);have HZ:=Hd (show z.heap.size = w.heap.size + 1 by rw [hz];simp);have HWB:=Hd (Nat.le_refl w.heap.size);unfold maxLen at hcm;have HHAS:=Hd hhas;clear hv hn hl hk hm hbl e1 e2 hhas hR hD hC hhl;cases r
 ·obtain ⟨rfl,rfl⟩:=hbad rfl
  clear hbad htwo hok;go_enter Tryz.func65,Tryz.ntmps65
  go_upto_region 1 with fail
  rw [<- hz];clear hz;go_wp2_with fail
  refine (HA.out _ HQ.out).mono ?_;rintro e w1 ⟨rfl,rfl⟩;have b0:=HB.out.cell 0 rfl;have f0:=HB.out.free 0;have b1:=HB.out.cell 1 rfl;have f1:=HB.out.free 1;have b2:=HB.out.cell 2 rfl;have f2:=HB.out.free 2;have b3:=HB.out.cell 3 rfl;have f3:=HB.out.free 3;go_wp2_with fail
  exact ret_d2 rfl rfl rfl rfl ((((HB.out.set 0 _).set 1 _).set 2 _).set 3 _) rfl ⟨_,rfl,LD.zero _ _,Q.setCell (Q.setCell (Q.setCell (Q.setCell HQ.out HWB.out _) HWB.out _) HWB.out _) HWB.out _⟩
 ·clear hbad
  cases r3
  ·rw [if_neg (by decide)] at hix
   subst hix;obtain ⟨hn1,hn2⟩:=hno rfl;have hr2:r2 = false:=by rw [<- hr2e,hn2];rfl
   obtain ⟨rfl,rfl⟩:=hok rfl hr2;have HX:=Hd (show R.g = g /\ R.i = L /\ R.s = false /\ R.f = [] by rw [HD.out];exact ⟨rfl,hn1,rfl,hn2⟩);clear htwo hok hr2e hno HD hn1 hn2;go_enter Tryz.func65,Tryz.ntmps65
   go_upto_region 1 with fail
   rw [<- hz];clear hz;go_wp2_with fail
   refine (HA.out _ HQ.out).mono ?_;rintro e w1 ⟨rfl,rfl⟩;have b0:=HB.out.cell 0 rfl;have f0:=HB.out.free 0;have b1:=HB.out.cell 1 rfl;have f1:=HB.out.free 1;have b2:=HB.out.cell 2 rfl;have f2:=HB.out.free 2;have b3:=HB.out.cell 3 rfl;have f3:=HB.out.free 3;go_wp2_with fail
   refine (HI.out _ HQ.out).mono ?_;rintro e w1 ⟨rfl,rfl⟩;go_wp2_with fail
   refine (HO.out _ HQ.out).mono ?_;rintro e z1 ⟨u,rfl,hu,hq⟩;obtain ⟨ua,uc,rfl,_,_⟩:=hu.lst.form0 HK.out.2.2;have HB1:=Hd (HB.out.q hq);have HU:=Hd hu;have HQ1:=Hd (HQ.out.trans hq);clear hu hq b0 b1 b2 b3 f0 f1 f2 f3;have b0:=HB1.out.cell 0 rfl;have f0:=HB1.out.free 0;have b1:=HB1.out.cell 1 rfl;have f1:=HB1.out.free 1;have b2:=HB1.out.cell 2 rfl;have f2:=HB1.out.free 2;have b3:=HB1.out.cell 3 rfl;have f3:=HB1.out.free 3;go_wp2_with fail
   have hfin:=Own_past (Own_past (Own_past (Own_past HU.out HB1.out (by decide) 0 (.bool g)) (HB1.out.set 0 _) (by decide) 1 (.slice ua n uc)) ((HB1.out.set 0 _).set 1 _) (by decide) 2 (.bool false)) (((HB1.out.set 0 _).set 1 _).set 2 _) (by decide) 3 (.slice none 0 0);rw [HZ.out] at hfin;refine ret_d2 rfl rfl rfl rfl ((((HB1.out.set 0 _).set 1 _).set 2 _).set 3 _) rfl ⟨_,rfl,?_,Q.setCell (Q.setCell (Q.setCell (Q.setCell HQ1.out HWB.out _) HWB.out _) HWB.out _) HWB.out _⟩;obtain ⟨Dg,Di,Ds,Df⟩:=R;obtain ⟨rfl,rfl,rfl,rfl⟩:=HX.out;exact ⟨ua,uc,none,0,by rw [HK.out.2.2];rfl,by rw [HK.out.2.2];exact hfin,Own.nil _ _⟩
  ·rw [if_pos rfl] at hix
   subst hix;have hkn2:k < n:=of_decide_eq_true HHAS.out.symm;have hk0:¬ ((k:Int) < 0):=by omega
   cases r2
   ·obtain ⟨rfl,rfl⟩:=hok rfl rfl
    have HX:=Hd (show R.g = g /\ R.i = ahd L /\ R.s = true /\ R.f = bhd L by rw [HD.out];exact ⟨rfl,rfl,rfl,rfl⟩);clear htwo hok hr2e hno HD;go_enter Tryz.func65,Tryz.ntmps65
    go_upto_region 1 with fail
    rw [<- hz];clear hz;go_wp2_with fail
    refine (HA.out _ HQ.out).mono ?_;rintro e w1 ⟨rfl,rfl⟩;have b0:=HB.out.cell 0 rfl;have f0:=HB.out.free 0;have b1:=HB.out.cell 1 rfl;have f1:=HB.out.free 1;have b2:=HB.out.cell 2 rfl;have f2:=HB.out.free 2;have b3:=HB.out.cell 3 rfl;have f3:=HB.out.free 3;go_wp2_with fail
    refine (HI.out _ HQ.out).mono ?_;rintro e w1 ⟨rfl,rfl⟩;go_wp2_with fail
    refine (HC1.out _ HQ.out).mono ?_;rintro e w1 ⟨ca,rfl,hca,rfl⟩;go_wp2_with fail
    refine (HC2.out _ HQ.out hkn2 _ (by first | rfl | omega)).mono ?_;rintro e w1 ⟨cb,rfl,hcb,rfl⟩;go_wp2_with fail
    refine (HCN.out _ _ hcb).mono ?_;rintro e w1 ⟨rfl,rfl⟩;go_wp2_with fail
    refine (HOA.out _ _ hca).mono ?_;rintro e z1 ⟨u,rfl,hu,hq⟩;obtain ⟨ua,uc,rfl,_,_⟩:=hu.lst.form0 HK.out.1;have HB1:=Hd (HB.out.q hq);have HU:=Hd hu;have HCB:=Hd (hcb.q hq);have HQ1:=Hd (HQ.out.trans hq);have HZ1:=Hd (Nat.le_trans (Nat.le_of_eq HZ.out.symm) hq.le);clear hu hq hcb hca b0 b1 b2 b3 f0 f1 f2 f3;go_wp2_with fail
    refine (HOB.out _ _ HCB.out).mono ?_;rintro e z2 ⟨u2,rfl,hu2,hq⟩;obtain ⟨va,vc,rfl,_,_⟩:=hu2.lst.form0 HK.out.2.1;have HB2:=Hd (HB1.out.q hq);have HU1:=Hd (HU.out.q hq);have HU2:=Hd hu2;have HQ2:=Hd (HQ1.out.trans hq);clear hu2 hq;have b0:=HB2.out.cell 0 rfl;have f0:=HB2.out.free 0;have b1:=HB2.out.cell 1 rfl;have f1:=HB2.out.free 1;have b2:=HB2.out.cell 2 rfl;have f2:=HB2.out.free 2;have b3:=HB2.out.cell 3 rfl;have f3:=HB2.out.free 3;go_wp2_with fail
    have hf1:=Own_past (Own_past (Own_past (Own_past HU1.out HB2.out (by decide) 0 (.bool g)) (HB2.out.set 0 _) (by decide) 1 (.slice ua k uc)) ((HB2.out.set 0 _).set 1 _) (by decide) 2 (.bool true)) (((HB2.out.set 0 _).set 1 _).set 2 _) (by decide) 3 (.slice va m vc);have hf2:=Own_past (Own_past (Own_past (Own_past HU2.out HB2.out (by decide) 0 (.bool g)) (HB2.out.set 0 _) (by decide) 1 (.slice ua k uc)) ((HB2.out.set 0 _).set 1 _) (by decide) 2 (.bool true)) (((HB2.out.set 0 _).set 1 _).set 2 _) (by decide) 3 (.slice va m vc);rw [HZ.out] at hf1;replace hf2:=hf2.mono HZ1.out;refine ret_d2 rfl rfl rfl rfl ((((HB2.out.set 0 _).set 1 _).set 2 _).set 3 _) rfl ⟨_,rfl,?_,Q.setCell (Q.setCell (Q.setCell (Q.setCell HQ2.out HWB.out _) HWB.out _) HWB.out _) HWB.out _⟩;obtain ⟨Dg,Di,Ds,Df⟩:=R;obtain ⟨rfl,rfl,rfl,rfl⟩:=HX.out;exact ⟨ua,uc,va,vc,by rw [HK.out.1,HK.out.2.1];rfl,by rw [HK.out.1];exact hf1,by rw [HK.out.2.1];exact hf2⟩
   ·obtain ⟨rfl,rfl⟩:=htwo rfl rfl
    clear htwo hok hr2e hno HD;go_enter Tryz.func65,Tryz.ntmps65
    go_upto_region 1 with fail
    rw [<- hz];clear hz;go_wp2_with fail
    refine (HA.out _ HQ.out).mono ?_;rintro e w1 ⟨rfl,rfl⟩;have b0:=HB.out.cell 0 rfl;have f0:=HB.out.free 0;have b1:=HB.out.cell 1 rfl;have f1:=HB.out.free 1;have b2:=HB.out.cell 2 rfl;have f2:=HB.out.free 2;have b3:=HB.out.cell 3 rfl;have f3:=HB.out.free 3;go_wp2_with fail
    refine (HI.out _ HQ.out).mono ?_;rintro e w1 ⟨rfl,rfl⟩;go_wp2_with fail
    refine (HC1.out _ HQ.out).mono ?_;rintro e w1 ⟨ca,rfl,hca,rfl⟩;go_wp2_with fail
    refine (HC2.out _ HQ.out hkn2 _ (by first | rfl | omega)).mono ?_;rintro e w1 ⟨cb,rfl,hcb,rfl⟩;go_wp2_with fail
    refine (HCN.out _ _ hcb).mono ?_;rintro e w1 ⟨rfl,rfl⟩;go_wp2_with fail
    exact ret_d2 rfl rfl rfl rfl ((((HB.out.set 0 _).set 1 _).set 2 _).set 3 _) rfl ⟨_,rfl,LD.zero _ _,Q.setCell (Q.setCell (Q.setCell (Q.setCell HQ.out HWB.out _) HWB.out _) HWB.out _) HWB.out _⟩
end Tp
end
end Go.Proofs.YtdjhkbholijnmaaGreatDoor
