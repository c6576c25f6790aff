/- An affix as it stands around a number; what stands around a number. (and more) -/
import Derived.Test.YtdjhkbholijnmaaGreatDoorR29
set_option linter.all false
set_option maxRecDepth 100000
set_option maxHeartbeats 8000000
namespace Go.Proofs.YtdjhkbholijnmaaGreatDoor
section
open Go.RowKit
namespace Lo
open Um Cm Gm
theorem elPt:Pb.El 155 110:=⟨by kernel_rfl,Tryz.underlying110⟩
def parP (r:Lm.Rec) (A:List Pc.E):List Pb.E :=
 if mPl A 0 < 0 then [((false,Lm.atx r A):Pb.E)].filter keepP
 else [((false,Lm.atx r (A.take (mPl A 0).toNat)):Pb.E),(true,[]),(false,Lm.atx r (A.drop ((mPl A 0).toNat + 1)))].filter keepP
theorem mPl_bd (A:List Pc.E):∀ k,mPl A k = -1 \/ ((k:Int) <= mPl A k /\ mPl A k < (k + A.length:Nat)):=by
 induction A with
 | nil=>intro k;exact .inl rfl
 | cons p r ih =>
  intro k;unfold mPl;split
  ·refine .inr ⟨Int.le_refl _,?_⟩
   simp only [List.length_cons];omega
  ·rcases ih (k + 1) with h | ⟨h1,h2⟩
   ·exact .inl h
   ·refine .inr ⟨by omega,?_⟩
    simp only [List.length_cons];omega
theorem own_at {w:World} {B n c:Nat} {a:Option Addr} {l:List Pb.E} (h:Pb.OwnE 155 w B (.slice a n c) l) (hn:0 < n):∃ g,a = some ⟨g,0,none⟩ /\ B <= g:=by
 rcases h.2 with ⟨hv,_⟩ | ⟨g,cap,cur,hv,hg,_⟩
 ·cases hv;omega
 ·cases hv;exact ⟨g,rfl,hg⟩
theorem atx_le (r:Lm.Rec) (A:List Pc.E) (k:Nat):(Lm.atx r (A.take k)).length <= (Lm.atx r A).length /\ (Lm.atx r (A.drop k)).length <= (Lm.atx r A).length:=by
 have h:Lm.atx r A = Lm.atx r (A.take k) ++ Lm.atx r (A.drop k):=by
  unfold Lm.atx;rw [<- List.flatMap_append,List.take_append_drop]
 rw [h,List.length_append];omega
theorem parts_none (g:Nat) (r:Lm.Rec) (X:Pt.Pat) (a b c d cl v:Value) (A:List Pc.E) (w:World) (hB:LB w g r X a b c d cl) (hv:Pc.LstP w v A) (hA:A.length <= 1000) (hz:(Lm.atx r A).length <= 100000) (hm:∀ x ∈ A,x.1 = 3 -> x.2 = []) (hR:mPl A 0 = -1) :
  Calls Tryz.prog 76 #[.pointer (some ⟨g,0,none⟩),v] w fun e w'=>∃ u,e = .returned u /\ Pb.LstP w' u (parP r A) /\ Q w w':=by
 have HM:=Hd (minus_any v A w hv (by omega) hm);rw [hR] at HM;have HT:=Hd (fun u (hq:Q w u)=>text_any g r X a b c d cl v A u (hB.q hq) (hv.q hq) (by omega) (by omega));have HPP:=Hd (show parP r A = [((false,(Lm.bs (Lm.atx r A)).data.toList):Pb.E)].filter keepP by unfold parP;rw [hR,if_pos (by omega),Lm.bs_list]);obtain ⟨n,hn⟩:∃ n,n = A.length:=⟨_,rfl⟩;obtain ⟨va,vc,rfl,hc1,hc2⟩:=hv.form0 hn.symm;rw [<- hn] at hA;generalize Lm.bs (Lm.atx r A) = S at *;clear hB hv hz hm hR hn;go_enter Tryz.func76,Tryz.ntmps76
 go_wp2_with fail
 refine HM.out.mono ?_;rintro e w1 ⟨rfl,hq1⟩;go_wp2_with fail
 refine (HT.out _ hq1).mono ?_;rintro e w2 ⟨rfl,hq2⟩;have hq12:=hq1.trans hq2;go_wp2_with (at_builtin;refine Pb.push elPt (Pb.OwnE.nil _ w2 w.heap.size) rfl _ _ rfl false S (by rfl) (by rfl) (by simp) hq12.le ?_)
 intro v' w3 ho3 hg3 hat3;have HQ3:=Hd (hq12.grown hg3 (fun j h=>by cases h));have HO3:=Hd (show Pb.OwnE 155 w3 w.heap.size v' [((false,S.data.toList):Pb.E)] from ho3);clear ho3 hg3 hat3;obtain ⟨qa,qc,rfl,_,_⟩:=HO3.out.lst.form0 (n:=1) rfl;obtain ⟨gq,rfl,hgq⟩:=own_at HO3.out (by omega);have HDL:=Hd (del_any gq 1 qc w.heap.size _ w _ HQ3.out hgq HO3.out rfl (by omega));go_wp2_with fail
 refine HDL.out.mono ?_;rintro e wz ⟨uv,rfl,huv,hqz⟩;have HUV:=Hd huv;obtain ⟨ua,uc,rfl⟩:=huv.shape;generalize (List.filter keepP [((false,S.data.toList):Pb.E)]).length = un at *;clear huv;go_wp2_with fail
 go_ret
 refine ⟨_,rfl,?_,hqz⟩;rw [HPP.out];exact HUV.out
end Lo
end
section
open Go.RowKit
namespace Lo
open Um Cm Gm
theorem parts_some (g:Nat) (r:Lm.Rec) (X:Pt.Pat) (a b c d cl v:Value) (A:List Pc.E) (w:World) (hB:LB w g r X a b c d cl) (hv:Pc.LstP w v A) (hA:A.length <= 1000) (hz:(Lm.atx r A).length <= 100000) (hm:∀ x ∈ A,x.1 = 3 -> x.2 = []) (m:Nat) (hR:mPl A 0 = m) (hmA:m < A.length) :
  Calls Tryz.prog 76 #[.pointer (some ⟨g,0,none⟩),v] w fun e w'=>∃ u,e = .returned u /\ Pb.LstP w' u (parP r A) /\ Q w w':=by
 have HM:=Hd (minus_any v A w hv (by omega) hm);rw [hR] at HM;have hle:=atx_le r A m;have hle2:=atx_le r A (m + 1);have HPP:=Hd (show parP r A = [((false,(Lm.bs (Lm.atx r (A.take m))).data.toList):Pb.E),(true,[]),(false,(Lm.bs (Lm.atx r (A.drop (m + 1)))).data.toList)].filter keepP by
  unfold parP;rw [hR,if_neg (by omega),Lm.bs_list,Lm.bs_list];rfl)
 obtain ⟨n,hn⟩:∃ n,n = A.length:=⟨_,rfl⟩;obtain ⟨va,vc,rfl,hc1,hc2⟩:=hv.form0 hn.symm;have hcut:=hv.rest (z:=m + 1) hn.symm (by omega);have HT:=Hd (fun u (hq:Q w u)=>text_any g r X a b c d cl (.slice va m vc) (A.take m) u (hB.q hq) ((hv.take m (by omega)).q hq) (by rw [List.length_take];omega) (by omega));have HTB:=Hd (fun (x:Value) (hx:Pc.LstP w x (A.drop (m + 1))) u (hq:Q w u)=>text_any g r X a b c d cl x (A.drop (m + 1)) u (hB.q hq) (hx.q hq) (by rw [List.length_drop];omega) (by omega));rw [<- hn] at hA hmA;have hmi:(m:Int) < (n:Int):=by omega
 have hmi2:(m:Int) <= (n:Int):=by omega
 have hmi3:(m:Int) + 1 <= (n:Int):=by omega
 have hmn:m <= n:=by omega
 have hmc:m <= vc:=by omega
 have hmn1:m + 1 <= n:=by omega
 have hm0:(0:Int) <= (m:Int):=by omega
 unfold maxLen at hc2;generalize Lm.bs (Lm.atx r (A.take m)) = S1 at *;generalize Lm.bs (Lm.atx r (A.drop (m + 1))) = S2 at *;clear hB hv hz hm hR hn hle hle2;go_enter Tryz.func76,Tryz.ntmps76
 go_wp2_with fail
 refine HM.out.mono ?_;rintro e w1 ⟨rfl,hq1⟩;go_wp2_with fail
 refine (HT.out _ hq1).mono ?_;rintro e w2 ⟨rfl,hq2⟩;have hq12:=hq1.trans hq2;have hq12a:=hq12.alloc (.cells #[.bool false,.string S1,.bool true,.string ⟨#[]⟩] 155);have HL2:=Hd (show Pb.LstP (w2.alloc (.cells #[.bool false,.string S1,.bool true,.string ⟨#[]⟩] 155)) (.slice (some ⟨w2.heap.size,0,none⟩) 2 2) [((false,S1.data.toList):Pb.E),(true,[])] from
  LstP_of (Bk.new w2 155 [.bool false,.string S1,.bool true,.string ⟨#[]⟩]) rfl (by omega) (by unfold maxLen;omega) (by simp [Pb.flat,Pb.txt]))
 have hle12:=hq12a.le;go_wp2_with (at_builtin;refine Pb.pushl elPt (Pb.OwnE.nil _ _ w.heap.size) HL2.out rfl _ _ rfl (by rfl) (by rfl) (by simp) hle12 ?_)
 intro v' w3 ho3 hg3 hat3;have HQ3:=Hd (hq12a.grown hg3 (fun j h=>by cases h));have HO3:=Hd (show Pb.OwnE 155 w3 w.heap.size v' [((false,S1.data.toList):Pb.E),(true,[])] from ho3);clear ho3 hg3 hat3 hq12 hq12a hle12 HL2;obtain ⟨pa,pc,rfl,_,_⟩:=HO3.out.lst.form0 (n:=2) rfl;rcases hcut with ⟨rg,roff,rfl,hz1,hz2,hz3,hrl⟩ | ⟨hz1,hz2,hrn⟩ | ⟨rad,rfl,hz1,hz2,hz3,hrn⟩
 ·have HRL:=Hd hrl
  have hz1i:(m:Int) + 1 < (n:Int):=by omega
  have hz2i:(n:Int) <= (vc:Int):=by omega
  clear hrl;go_wp2_with fail
  refine (HTB.out _ HRL.out _ HQ3.out).mono ?_;rintro e w4 ⟨rfl,hq4⟩;have HQ4:=Hd (HQ3.out.trans hq4);have HO4:=Hd (HO3.out.q hq4);have hle4:=HQ4.out.le;clear hq4;go_wp2_with (at_builtin;refine Pb.push elPt HO4.out rfl _ _ rfl false S2 (by rfl) (by rfl) (by simp) hle4 ?_)
  intro v2' w5 ho5 hg5 hat5;have HQ5:=Hd (HQ4.out.grown hg5 (fun j h=>(HO4.out.lt j h).1));have HO5:=Hd (show Pb.OwnE 155 w5 w.heap.size v2' [((false,S1.data.toList):Pb.E),(true,[]),(false,S2.data.toList)] from ho5);clear ho5 hg5 hat5;obtain ⟨qa,qc,rfl,_,_⟩:=HO5.out.lst.form0 (n:=3) rfl;obtain ⟨gq,rfl,hgq⟩:=own_at HO5.out (by omega);have HDL:=Hd (del_any gq 3 qc w.heap.size _ w _ HQ5.out hgq HO5.out rfl (by omega));go_wp2_with fail
  refine HDL.out.mono ?_;rintro e wz ⟨uv,rfl,huv,hqz⟩;have HUV:=Hd huv;obtain ⟨ua,uc,rfl⟩:=huv.shape;generalize (List.filter keepP [((false,S1.data.toList):Pb.E),(true,[]),(false,S2.data.toList)]).length = un at *;clear huv;go_wp2_with fail
  go_ret
  refine ⟨_,rfl,?_,hqz⟩;rw [HPP.out];exact HUV.out
 ·obtain rfl:vc = n:=hz2
  have HRL:=Hd (show Pc.LstP w (.slice va 0 0) (A.drop (m + 1)) by rw [hrn];exact Pc.LstP.nil _ _ _ (by unfold maxLen;omega) (fun _=>rfl));obtain rfl:vc = m + 1:=hz1.symm;clear hrn;go_wp2_with fail
  refine (HTB.out _ HRL.out _ HQ3.out).mono ?_;rintro e w4 ⟨rfl,hq4⟩;have HQ4:=Hd (HQ3.out.trans hq4);have HO4:=Hd (HO3.out.q hq4);have hle4:=HQ4.out.le;clear hq4;go_wp2_with (at_builtin;refine Pb.push elPt HO4.out rfl _ _ rfl false S2 (by rfl) (by rfl) (by simp) hle4 ?_)
  intro v2' w5 ho5 hg5 hat5;have HQ5:=Hd (HQ4.out.grown hg5 (fun j h=>(HO4.out.lt j h).1));have HO5:=Hd (show Pb.OwnE 155 w5 w.heap.size v2' [((false,S1.data.toList):Pb.E),(true,[]),(false,S2.data.toList)] from ho5);clear ho5 hg5 hat5;obtain ⟨qa,qc,rfl,_,_⟩:=HO5.out.lst.form0 (n:=3) rfl;obtain ⟨gq,rfl,hgq⟩:=own_at HO5.out (by omega);have HDL:=Hd (del_any gq 3 qc w.heap.size _ w _ HQ5.out hgq HO5.out rfl (by omega));go_wp2_with fail
  refine HDL.out.mono ?_;rintro e wz ⟨uv,rfl,huv,hqz⟩;have HUV:=Hd huv;obtain ⟨ua,uc,rfl⟩:=huv.shape;generalize (List.filter keepP [((false,S1.data.toList):Pb.E),(true,[]),(false,S2.data.toList)]).length = un at *;clear huv;go_wp2_with fail
  go_ret
  refine ⟨_,rfl,?_,hqz⟩;rw [HPP.out];exact HUV.out
 ·have HRL:=Hd (show Pc.LstP w (.slice (some (rad.add (n * 2))) 0 (vc - n)) (A.drop (m + 1)) by rw [hrn];exact Pc.LstP.nil _ _ _ (by unfold maxLen;omega) (fun h=>by cases h))
  obtain rfl:n = m + 1:=hz1.symm;clear hrn;go_wp2_with fail
  refine (HTB.out _ HRL.out _ HQ3.out).mono ?_;rintro e w4 ⟨rfl,hq4⟩;have HQ4:=Hd (HQ3.out.trans hq4);have HO4:=Hd (HO3.out.q hq4);have hle4:=HQ4.out.le;clear hq4;go_wp2_with (at_builtin;refine Pb.push elPt HO4.out rfl _ _ rfl false S2 (by rfl) (by rfl) (by simp) hle4 ?_)
  intro v2' w5 ho5 hg5 hat5;have HQ5:=Hd (HQ4.out.grown hg5 (fun j h=>(HO4.out.lt j h).1));have HO5:=Hd (show Pb.OwnE 155 w5 w.heap.size v2' [((false,S1.data.toList):Pb.E),(true,[]),(false,S2.data.toList)] from ho5);clear ho5 hg5 hat5;obtain ⟨qa,qc,rfl,_,_⟩:=HO5.out.lst.form0 (n:=3) rfl;obtain ⟨gq,rfl,hgq⟩:=own_at HO5.out (by omega);have HDL:=Hd (del_any gq 3 qc w.heap.size _ w _ HQ5.out hgq HO5.out rfl (by omega));go_wp2_with fail
  refine HDL.out.mono ?_;rintro e wz ⟨uv,rfl,huv,hqz⟩;have HUV:=Hd huv;obtain ⟨ua,uc,rfl⟩:=huv.shape;generalize (List.filter keepP [((false,S1.data.toList):Pb.E),(true,[]),(false,S2.data.toList)]).length = un at *;clear huv;go_wp2_with fail
  go_ret
  refine ⟨_,rfl,?_,hqz⟩;rw [HPP.out];exact HUV.out
end Lo
end
section
open Go.RowKit
namespace Ro
open Um Cm Gm Lo
def tx1 (s:List UInt8):List Pb.E:=if s.isEmpty then [] else [(false,s)]
def refP (r:Lm.Rec):List Pc.E -> List UInt8 -> List Pb.E
 | [],s=>tx1 s
 | p :: A,s=>if p.1 = 3 then tx1 s ++ ((true,[]):Pb.E) :: refP r A [] else refP r A (s ++ Lm.ptx r p)
theorem tx1_eq (s:List UInt8):tx1 s = [((false,s):Pb.E)].filter keepP:=by
 unfold tx1;cases s <;> simp [keepP]
theorem refP_plain (r:Lm.Rec):∀ (A:List Pc.E) (s:List UInt8),Lm.cnt 3 A = 0 -> refP r A s = tx1 (s ++ Lm.atx r A)
 | [],s,_=>by simp [refP,Lm.atx]
 | p :: A,s,h=>by
  unfold Lm.cnt at h;rw [List.countP_cons] at h;have hp:p.1 ≠ 3:=fun e=>by simp [e] at h
  have hA:Lm.cnt 3 A = 0:=by unfold Lm.cnt;omega
  rw [refP,if_neg hp,refP_plain r A _ hA];simp [Lm.atx]
theorem refP_gen (r:Lm.Rec):∀ (A:List Pc.E) (s:List UInt8) (k:Nat),Lm.cnt 3 A <= 1 -> (∀ x ∈ A,x.1 = 3 -> x.2 = []) ->
  refP r A s = if mPl A k < 0 then tx1 (s ++ Lm.atx r A) else tx1 (s ++ Lm.atx r (A.take (mPl A k - k).toNat)) ++ ((true,[]):Pb.E) :: tx1 (Lm.atx r (A.drop ((mPl A k - k).toNat + 1)))
 | [],s,k,_,_=>by simp [refP,Lm.atx,mPl]
 | p :: A,s,k,h,hx=>by
  unfold Lm.cnt at h;rw [List.countP_cons] at h;by_cases hp:p.1 = 3
  ·have e:p = (3,[]):=Prod.ext hp (hx p (by simp) hp)
   have hA:Lm.cnt 3 A = 0:=by
    have h1:(if ((p.1 == 3) = true) then 1 else 0) = 1:=by rw [hp];rfl
    rw [h1] at h;unfold Lm.cnt;omega
   have hm:mPl (p :: A) k = (k:Int):=by unfold mPl;rw [if_pos e]
   rw [refP,if_pos hp,refP_plain r A [] hA,hm,if_neg (by omega)];have h0:((k:Int) - (k:Int)).toNat = 0:=by omega
   rw [h0];simp [Lm.atx]
  ·have e:¬ p = (3,[]):=fun e=>hp (by rw [e])
   have hA:Lm.cnt 3 A <= 1:=by unfold Lm.cnt;omega
   have hm:mPl (p :: A) k = mPl A (k + 1):=by rw [mPl,if_neg e]
   rw [refP,if_neg hp,refP_gen r A _ (k + 1) hA (fun x hxx=>hx x (by simp [hxx])),hm];rcases mPl_bd A (k + 1) with h1 | ⟨h1,h2⟩
   ·rw [h1,if_pos (by omega),if_pos (by omega)]
    simp [Lm.atx]
   ·rw [if_neg (by omega),if_neg (by omega)]
    have hn:(mPl A (k + 1) - (k:Int)).toNat = (mPl A (k + 1) - ((k + 1:Nat):Int)).toNat + 1:=by omega
    rw [hn];simp [Lm.atx]
theorem refP_eq (r:Lm.Rec) (A:List Pc.E) (h:Lm.cnt 3 A <= 1) (hx:∀ x ∈ A,x.1 = 3 -> x.2 = []):refP r A [] = parP r A:=by
 rw [refP_gen r A [] 0 h hx];unfold parP;split
 ·rw [tx1_eq];rfl
 ·rw [tx1_eq,tx1_eq]
  simp only [List.nil_append,List.filter_cons,List.filter_nil];simp [keepP];split <;> simp
def refO (r:Lm.Rec):List Pc.E -> List UInt8 -> List Pb.E × List UInt8
 | [],s=>([],s)
 | p :: A,s=>if p.1 = 3 then (tx1 s ++ ((true,[]):Pb.E) :: (refO r A []).1,(refO r A []).2) else refO r A (s ++ Lm.ptx r p)
theorem refO_all (r:Lm.Rec):∀ (A:List Pc.E) (s:List UInt8),refP r A s = (refO r A s).1 ++ tx1 (refO r A s).2
 | [],s=>by simp [refP,refO]
 | p :: A,s=>by
  unfold refP refO;split
  ·rw [refO_all r A []];simp
  ·exact refO_all r A _
theorem refO_snoc (r:Lm.Rec) (p:Pc.E):∀ (A:List Pc.E) (s:List UInt8),refO r (A ++ [p]) s = if p.1 = 3 then ((refO r A s).1 ++ tx1 (refO r A s).2 ++ [((true,[]):Pb.E)],[]) else ((refO r A s).1,(refO r A s).2 ++ Lm.ptx r p)
 | [],s=>by
  simp only [List.nil_append,refO]
 | q :: A,s=>by
  rw [List.cons_append,refO,refO];by_cases hq:q.1 = 3
  ·rw [if_pos hq,if_pos hq,refO_snoc r p A []]
   split <;> simp
  ·rw [if_neg hq,if_neg hq]
   exact refO_snoc r p A _
theorem refO_len (r:Lm.Rec):∀ (A:List Pc.E) (s:List UInt8),(refO r A s).2.length <= s.length + (Lm.atx r A).length
 | [],s=>by simp [refO,Lm.atx]
 | p :: A,s=>by
  rw [refO];split
  ·have:=refO_len r A []
   simp [Lm.atx] at this |-;omega
  ·have:=refO_len r A (s ++ Lm.ptx r p)
   simp [Lm.atx] at this |-;omega
theorem refO_few (r:Lm.Rec):∀ (A:List Pc.E) (s:List UInt8),(refO r A s).1.length <= 2 * A.length
 | [],s=>by simp [refO]
 | p :: A,s=>by
  rw [refO];split
  ·have:=refO_few r A []
   have h2:(tx1 s).length <= 1:=by unfold tx1;split <;> simp
   simp only [List.length_append,List.length_cons];omega
  ·have:=refO_few r A (s ++ Lm.ptx r p)
   simp only [List.length_cons];omega
end Ro
end
end Go.Proofs.YtdjhkbholijnmaaGreatDoor
