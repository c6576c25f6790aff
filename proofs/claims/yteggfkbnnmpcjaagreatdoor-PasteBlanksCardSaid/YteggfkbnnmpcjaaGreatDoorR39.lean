/- Whether a record groups as it should; whether a text may stand at its places; all clusters; names. (and more) -/
import Derived.Test.YteggfkbnnmpcjaaGreatDoorR32
import Derived.Test.YteggfkbnnmpcjaaGreatDoorR38
set_option linter.all false
set_option maxRecDepth 100000
set_option maxHeartbeats 8000000
namespace Go.Proofs.YteggfkbnnmpcjaaGreatDoor
section
open Go.RowKit
namespace Lo
open Um Cm Gm
theorem grouped_yes (g:Nat) (r:Lm.Rec) (X:Pt.Pat) (a b c d cl:Value) (w:World) (hB:LB w g r X a b c d cl) (hp:0 < X.pr) (hs:Lm.symB r.grp = true) (hl:r.grp.length <= 1000000) :
  Calls Tryz.prog 102 #[.pointer (some ⟨g,0,none⟩)] w fun e w'=>e = .returned (.bool true) /\ Q w w':=by
 have hy:=symbol_any (Lm.bs r.grp) w (by rw [Lm.bs_size];exact hl);rw [Lm.bs_list,hs] at hy;have HY:=Hd hy;have c4:=hB.1.cell 4 rfl;have c12:=hB.1.cell 12 rfl;generalize X.pr = p at *;generalize Lm.bs r.grp = G at *;clear hB hs hl hy;go_enter Tryz.func102,Tryz.ntmps102
 go_wp2_with fail
 refine HY.out.mono ?_;rintro e w1 ⟨rfl,hq1⟩;go_wp2_with fail
 go_ret
 exact ⟨rfl,hq1⟩
theorem grouped_no (g:Nat) (r:Lm.Rec) (X:Pt.Pat) (a b c d cl:Value) (w:World) (hB:LB w g r X a b c d cl) (hp:¬ 0 < X.pr) (hs:r.grp = []) :
  Calls Tryz.prog 102 #[.pointer (some ⟨g,0,none⟩)] w fun e w'=>e = .returned (.bool true) /\ Q w w':=by
 have hg:Lm.bs r.grp = ⟨#[]⟩:=by rw [hs];rfl
 have c0:=hB.1.cell 0 rfl;have c1:=hB.1.cell 1 rfl;have c2:=hB.1.cell 2 rfl;have c3:=hB.1.cell 3 rfl;have c4:=hB.1.cell 4 rfl;have c5:=hB.1.cell 5 rfl;have c6:=hB.1.cell 6 rfl;have c7:=hB.1.cell 7 rfl;have c12:=hB.1.cell 12 rfl;rw [hg] at c4;have HB:=Hd (show ∀ u,Q w u -> u.cell? ⟨g,0,none⟩ = some (.string (Lm.bs r.nam)) /\ u.cell? ⟨g,1,none⟩ = some (.string (Lm.bs r.pat)) /\ u.cell? ⟨g,2,none⟩ = some (.string (Lm.bs r.sys)) /\ u.cell? ⟨g,3,none⟩ = some (.string (Lm.bs r.dec)) /\ u.cell? ⟨g,4,none⟩ = some (.string (⟨#[]⟩)) /\ u.cell? ⟨g,5,none⟩ = some (.string (Lm.bs r.min)) /\ u.cell? ⟨g,6,none⟩ = some (.string (Lm.bs r.per)) /\ u.cell? ⟨g,7,none⟩ = some (.string (Lm.bs r.cur)) from fun u hq=>by
  have hb:=(hB.q hq).1;rw [<- hg];exact ⟨hb.cell 0 rfl,hb.cell 1 rfl,hb.cell 2 rfl,hb.cell 3 rfl,hb.cell 4 rfl,hb.cell 5 rfl,hb.cell 6 rfl,hb.cell 7 rfl⟩)
 generalize X.pr = p at *;generalize Lm.bs r.nam = s0 at *;generalize Lm.bs r.pat = s1 at *;generalize Lm.bs r.sys = s2 at *;generalize Lm.bs r.dec = s3 at *;generalize Lm.bs r.min = s5 at *;generalize Lm.bs r.per = s6 at *;generalize Lm.bs r.cur = s7 at *;clear hB hs hg;obtain ⟨z,hz⟩:∃ z,z = (w.alloc (.cells #[.string s0,.string s1,.string s2,.string s3,.string ⟨#[]⟩,.string s5,.string s6,.string s7] 70)):=⟨_,rfl⟩;have HQZ:=Hd (show Q w z by rw [hz];exact (Q.refl w).alloc _);have HBZ:=Hd (show Bk z w.heap.size 70 [.string s0,.string s1,.string s2,.string s3,.string ⟨#[]⟩,.string s5,.string s6,.string s7] by rw [hz];exact Bk.new _ _ _);go_enter Tryz.func102,Tryz.ntmps102
 go_upto_region 5 with fail
 rw [<- hz];clear hz c0 c1 c2 c3 c4 c5 c6 c7 c12;generalize w.heap.size = bz at *;refine wp_region_held_drew (S:=fun u=>Q z u) (by kernel_rfl) (by exact (Q.refl z).drew) (fun hHeld=>?_);have hS:Q z z.drew:=hHeld;clear hHeld;have hq:Q z z.drew:=(Q.refl _).drew;clear hq;generalize z.drew = yR1x0 at *;refine tk 0 (by simp only [gA,gB,gC];rfl) (by first | kernel_rfl | rfl) (fun uz hSw=>by (try dsimp only at hSw);have kb:=HBZ.out.q hSw;have k0:=kb.cell 0 rfl;have k1:=kb.cell 1 rfl;have k2:=kb.cell 2 rfl;have k3:=kb.cell 3 rfl;have k4:=kb.cell 4 rfl;have k5:=kb.cell 5 rfl;have k6:=kb.cell 6 rfl;have k7:=kb.cell 7 rfl;have kg:=HB.out _ (HQZ.out.trans hSw);obtain ⟨m0,m1,m2,m3,m4,m5,m6,m7⟩:=kg;clear kb;go_simp;try with_reducible rfl) pq hS ?_;try simp only [Act.put,sA,sB,sC]
 refine tk 1 (by simp only [gA,gB,gC];rfl) (by first | kernel_rfl | rfl) (fun uz _=>by go_simp;try with_reducible rfl) pq hS ?_;try simp only [Act.put,sA,sB,sC]
 refine tk 2 (by simp only [gA,gB,gC];rfl) (by first | kernel_rfl | rfl) (fun uz _=>by go_simp;try with_reducible rfl) pq hS ?_;try simp only [Act.put,sA,sB,sC]
 refine tk 3 (by simp only [gA,gB,gC];rfl) (by first | kernel_rfl | rfl) (fun uz _=>by go_simp;try with_reducible rfl) pq hS ?_;try simp only [Act.put,sA,sB,sC]
 refine tk 4 (by simp only [gA,gB,gC];rfl) (by first | kernel_rfl | rfl) (fun uz hSw=>by (try dsimp only at hSw);have kb:=HBZ.out.q hSw;have k0:=kb.cell 0 rfl;have k1:=kb.cell 1 rfl;have k2:=kb.cell 2 rfl;have k3:=kb.cell 3 rfl;have k4:=kb.cell 4 rfl;have k5:=kb.cell 5 rfl;have k6:=kb.cell 6 rfl;have k7:=kb.cell 7 rfl;have kg:=HB.out _ (HQZ.out.trans hSw);obtain ⟨m0,m1,m2,m3,m4,m5,m6,m7⟩:=kg;clear kb;go_simp;try with_reducible rfl) pq hS ?_;try simp only [Act.put,sA,sB,sC]
 refine tk 5 (by simp only [gA,gB,gC];rfl) (by first | kernel_rfl | rfl) (fun uz _=>by go_simp;try with_reducible rfl) pq hS ?_;try simp only [Act.put,sA,sB,sC]
 refine tk 6 (by simp only [gA,gB,gC];rfl) (by first | kernel_rfl | rfl) (fun uz _=>by go_simp;try with_reducible rfl) pq hS ?_;try simp only [Act.put,sA,sB,sC]
 refine wpAnyH_done (by kernel_rfl) ?_ _;have HQ:=Hd (HQZ.out.trans hS);clear hS;go_wp2_with fail
 try (rename_i dx1 d1 hx1;have hy1:(some 2:Option Tmp) = some d1:=hx1;obtain rfl:=Option.some.inj hy1;clear hx1 hy1)
 go_ret
 exact ⟨rfl,HQ.out⟩
/-! ### places of a kind -/
theorem placed_no (v:Value) (A:List Pc.E) (kind:Int) (b:Nat) (w:World) (hv:Pc.LstP w v A) (hA:A.length <= 1000000) (hn:Lm.cnt kind A = 0) (hb:Bk w b 3 [.int .i64 kind]) :
  Calls Tryz.prog 150 #[v,.pointer (some ⟨b,0,none⟩)] w fun e w'=>e = .returned (.bool false) /\ Q w w':=by
 have hc:=Pg.countP_any v A kind w hv hA;rw [show ((A.countP fun p=>p.1 == kind:Nat):Int) = 0 by rw [show (A.countP fun p=>p.1 == kind) = 0 from hn];rfl] at hc;have HC:=Hd hc;have c0:=hb.cell 0 rfl;obtain ⟨a,cp,rfl⟩:=hv.shape;generalize A.length = m at *;clear hv hA hc hn hb;go_enter Tryz.func150,Tryz.ntmps150
 go_wp2_with fail
 refine HC.out.mono ?_;rintro e w' ⟨rfl,hq'⟩;go_wp2_with fail
 go_ret
 exact ⟨rfl,hq'⟩
theorem worded_yes (g:Nat) (s:List UInt8) (kind:Int) (w:World) (hl:s.length <= 1000000) (hw:Lm.wordB s = true) :
  Calls Tryz.prog 105 #[.pointer (some ⟨g,0,none⟩),.string (Lm.bs s),.int .i64 kind] w fun e w'=>e = .returned (.bool true) /\ Q w w':=by
 have hy:=fun u=>word_any (Lm.bs s) u (by rw [Lm.bs_size];exact hl);rw [Lm.bs_list,hw] at hy;have HY:=Hd hy;generalize Lm.bs s = S at *;clear hl hw hy;go_enter Tryz.func105,Tryz.ntmps105
 go_wp2_with fail
 refine (HY.out _).mono ?_;rintro e w1 ⟨rfl,hq1⟩;go_wp2_with fail
 go_ret
 exact ⟨rfl,Q.trans ((Q.refl w).alloc _) hq1⟩
theorem worded_none (g:Nat) (r:Lm.Rec) (X:Pt.Pat) (a b c d cl:Value) (kind:Int) (w:World) (hB:LB w g r X a b c d cl) (hA:∀ A ∈ Lm.affs X,A.length <= 1000000) (hn:∀ A ∈ Lm.affs X,Lm.cnt kind A = 0) :
  Calls Tryz.prog 105 #[.pointer (some ⟨g,0,none⟩),.string ⟨#[]⟩,.int .i64 kind] w fun e w'=>e = .returned (.bool true) /\ Q w w':=by
 have hy:=fun u=>word_any ⟨#[]⟩ u (by decide);rw [show Lm.wordB (⟨#[]⟩:ByteArray).data.toList = false by decide +kernel] at hy;have HY:=Hd hy;obtain ⟨z,hz⟩:∃ z,z = w.alloc (.cells #[.int .i64 kind] 3):=⟨_,rfl⟩;have HQZ:=Hd (show Q w z by rw [hz];exact (Q.refl w).alloc _);have HBZ:=Hd (show Bk z w.heap.size 3 [.int .i64 kind] by rw [hz];exact Bk.new _ _ _);have HA:=Hd (fun u (hq:Q z u)=>affixes_any g r X a b c d cl u (hB.q (HQZ.out.trans hq)));have HN:=Hd (fun u v (hq:Q z u) (hv:GLst id u v [a,b,c,d])=>noL 150 #[] #[.pointer (some ⟨w.heap.size,0,none⟩)] (enters_of Tryz.func150 (by kernel_rfl) rfl) v [a,b,c,d] u hv (aff_len a b c d) (fun k x hx u2 hq2=>by
  obtain ⟨A,_,hm,hv2⟩:=aff_at (hB.q (HQZ.out.trans (hq.trans hq2))) hx;exact placed_no x A kind w.heap.size u2 hv2 (hA A hm) (hn A hm) (HBZ.out.q (hq.trans hq2))))
 have hb1:(⟨#[]⟩:ByteArray).toList.isEmpty = true:=by decide +kernel
 have hb2:((⟨#[]⟩:ByteArray).toList == []) = true:=by decide +kernel
 clear hy hB hA hn;go_enter Tryz.func105,Tryz.ntmps105
 go_wp2_with fail
 rw [<- hz];clear hz;refine (HY.out _).mono ?_;rintro e w1 ⟨rfl,hq1⟩;go_wp2_with fail
 refine (HA.out _ hq1).mono ?_;rintro e w2 ⟨v2,rfl,hv2,hq2⟩;obtain ⟨va,vc,rfl⟩:=hv2.shape;go_wp2_with fail
 refine (HN.out _ _ (hq1.trans hq2) hv2).mono ?_;rintro e w3 ⟨rfl,hq3⟩;go_wp2_with fail
 go_ret
 exact ⟨rfl,HQZ.out.trans (hq1.trans (hq2.trans hq3))⟩
end Lo
end
section
open Go.RowKit
namespace Lo
open Um Cm Gm
def clT (r:Lm.Rec) (X:Pt.Pat) (k:Nat):List ByteArray:=((Lm.affs X).take k).flatMap fun A=>pcs (Lm.bs (Lm.atx r A))
theorem clT_succ (r:Lm.Rec) (X:Pt.Pat) (k:Nat) (A:List Pc.E) (h:(Lm.affs X)[k]? = some A):clT r X (k + 1) = clT r X k ++ pcs (Lm.bs (Lm.atx r A)):=by
 obtain ⟨hk,e⟩:=List.getElem?_eq_some_iff.1 h;unfold clT;rw [List.take_succ_eq_append_getElem hk,List.flatMap_append,e];simp
theorem split_any (g:Nat) (r:Lm.Rec) (X:Pt.Pat) (a b c d cl:Value) (w:World) (hB:LB w g r X a b c d cl) (hA:∀ A ∈ Lm.affs X,A.length <= 1000000 /\ (Lm.atx r A).length <= 1000000) :
  Calls Tryz.prog 60 #[.pointer (some ⟨g,0,none⟩)] w fun e w'=>∃ v,e = .returned v /\ SOwn w' w.heap.size v (Lm.clus r X) /\ Q w w':=by
 have HF:=Hd (affixes_any g r X a b c d cl w hB);have HB:=Hd hB;have HT:=Hd (fun u x A (hq:Q w u) (hv:Pc.LstP u x A) (hm:A ∈ Lm.affs X)=>text_any g r X a b c d cl x A u (hB.q hq) hv (hA A hm).1 (hA A hm).2);have HS:=Hd (fun u A (hm:A ∈ Lm.affs X)=>csplit_any (Lm.bs (Lm.atx r A)) u (by rw [Lm.bs_size];have:=(hA A hm).2;omega));have HL:=Hd (fun A (hm:A ∈ Lm.affs X)=>(show (pcs (Lm.bs (Lm.atx r A))).length <= 1000000 by
  rw [pcs_length];have h1:=begL_length (Lm.bs (Lm.atx r A)).data.toList;have h2:=(hA A hm).2;rw [Lm.bs_list] at h1 |-;omega))
 have HN:=Hd (clT_succ r X);have HZ:=Hd (show clT r X 4 = Lm.clus r X from rfl);have h00:clT r X 0 = []:=rfl;rw [<- HZ.out];generalize clT r X = T at *;clear hB hA HZ;go_enter Tryz.func60,Tryz.ntmps60
 go_wp2_with fail
 refine HF.out.mono ?_;rintro e w1 ⟨v1,rfl,hv1,hq1⟩;obtain ⟨va,vc,rfl,_,_⟩:=hv1.form0 (n:=4) rfl;have HV:=Hd hv1;have HQ1:=Hd hq1;have ho0:SOwn w1 w1.heap.size (.slice none 0 0) (T 0):=by rw [h00];exact GOwn.nil _ _ _ _
 have hl0:(T 0).length <= 0:=by rw [h00];exact Nat.le_refl _
 have HO0:=Hd ho0;have HL0:=Hd hl0;obtain ⟨B0,hB0⟩:∃ z,z = w1.heap.size:=⟨_,rfl⟩;have HW:=Hd (show ∀ u,Q w1 u -> B0 <= u.heap.size from fun u hq=>by rw [hB0];exact hq.le);have HW1:=Hd (show w1.heap.size <= B0 from Nat.le_of_eq hB0.symm);have HWM:=Hd (show w.heap.size <= B0 by rw [hB0];exact HQ1.out.le);rw [<- hB0] at HO0;clear hv1 hq1 ho0 hl0 h00 HF hB0;go_wp2_with fail
 go_loopw [3,9] (fun al i wr=>∃ k:Nat,i = .int .i64 k /\ k <= 4 /\ SOwn wr B0 al (T k) /\ Hid ((T k).length <= k * 1000000) /\ Q w1 wr) (fun _ i _=>4 - (intOf i).toNat)
 case atStart=>exact ⟨0,rfl,by omega,HO0.out,Hd (by have:=HL0.out;omega),Q.refl _⟩
 case round =>
  obtain ⟨k,rfl,hk,ho,HK,hq⟩:=hrel;by_cases hlt:k < 4
  ·have hlti:(k:Int) < 4:=by omega
   obtain ⟨x,hx⟩:∃ x,[a,b,c,d][k]? = some x:=⟨_,List.getElem?_eq_getElem (by simpa using hlt)⟩;obtain ⟨gg,off,cp',hvv,hg,_,_,c1⟩:=(HV.out.q hq).cellOf (n:=4) rfl hx;cases hvv;obtain ⟨A,hA,hm,hvx⟩:=aff_at (HB.out.q (HQ1.out.trans hq)) hx;have hts:=HN.out k A hA;have HTK:=Hd (show T (k + 1) = T k ++ pcs (Lm.bs (Lm.atx r A)) from hts);have ht:=HT.out wr x A (HQ1.out.trans hq) hvx hm;have hs:=fun u=>HS.out u A hm;have hpl:=HL.out A hm;obtain ⟨xa,xc,rfl⟩:=hvx.shape;generalize pcs (Lm.bs (Lm.atx r A)) = PS at *;generalize Lm.bs (Lm.atx r A) = S at *;generalize A.length = m at *;have HPL:=Hd hpl;obtain ⟨tk,htk⟩:∃ t,t = (T k).length:=⟨_,rfl⟩;have HTL:=Hd htk;obtain ⟨aa,ac,rfl,_,_⟩:=ho.lst.form0 htk.symm;have HO:=Hd ho;clear hx hA hm hvx hts hpl ho htk;simp only [id] at c1;go_wp2_with fail
   refine ht.mono ?_;rintro e w2 ⟨rfl,hq2⟩;go_wp2_with fail
   refine (hs _).mono ?_;rintro e w3 ⟨v3,rfl,hv3,hq3⟩;obtain ⟨pl,hpl⟩:∃ t,t = PS.length:=⟨_,rfl⟩;obtain ⟨wa,wc,rfl,_,_⟩:=hv3.lst.form0 hpl.symm;have HO3:=Hd (HO.out.q (hq2.trans hq3));have HV3:=Hd hv3.lst;have HQ3:=Hd (hq.trans (hq2.trans hq3));clear hv3 hpl;have hlen:(T k).length + PS.length < 1099511627776:=by have h1:=HK.out;have h2:=HPL.out;omega
   have hB3:=HW.out _ HQ3.out;go_wp2_with (at_builtin;refine gpushl elemS oneS HO3.out HV3.out rfl _ _ rfl (by rfl) (by rfl) hlen hB3 ?_)
   intro v' w4 ho4 hg4 hat4;have hq4:=HQ3.out.grown hg4 (fun j h=>Nat.le_trans HW1.out (HO3.out.lt j h).1);have HO4:=Hd ho4;obtain ⟨ba,bc,rfl⟩:=ho4.shape;clear ho4;go_wp2_with fail
   exact ⟨⟨k + 1,by go_num,by omega,by rw [HTK.out];exact HO4.out,Hd (by rw [HTK.out,List.length_append];have h1:=HK.out;have h2:=HPL.out;omega),hq4⟩,by simp [intOf];omega⟩
  ·have hnlt:¬ (k:Int) < 4:=by omega
   obtain rfl:k = 4:=by omega
   obtain ⟨aa,ac,rfl⟩:=ho.shape;have HO:=Hd ho;clear ho;go_wp2_with fail
   go_ret
   refine ⟨_,rfl,?_,HQ1.out.trans hq⟩;exact HO.out.mono HWM.out
end Lo
end
section
open Go.RowKit
namespace Lo
open Um Cm Gm
def mPl:List Pc.E -> Nat -> Int
 | [],_=>-1
 | p :: r,k=>if p = (3,[]) then (k:Int) else mPl r (k + 1)
end Lo
end
section
open Go.RowKit
namespace Lo
open Um Cm Gm
def parP (r:Lm.Rec) (A:List Pc.E):List Pb.E :=
 if mPl A 0 < 0 then [((false,Lm.atx r A):Pb.E)].filter keepP
 else [((false,Lm.atx r (A.take (mPl A 0).toNat)):Pb.E),(true,[]),(false,Lm.atx r (A.drop ((mPl A 0).toNat + 1)))].filter keepP
theorem mPl_bd (A:List Pc.E):∀ k,mPl A k = -1 \/ ((k:Int) <= mPl A k /\ mPl A k < (k + A.length:Nat)):=by
 induction A with
 | nil=>intro k;exact .inl rfl
 | cons p r ih =>
  intro k;unfold mPl;split
  ·refine .inr ⟨Int.le_refl _,?_⟩
   simp only [List.length_cons];omega
  ·rcases ih (k + 1) with h | ⟨h1,h2⟩
   ·exact .inl h
   ·refine .inr ⟨by omega,?_⟩
    simp only [List.length_cons];omega
theorem atx_le (r:Lm.Rec) (A:List Pc.E) (k:Nat):(Lm.atx r (A.take k)).length <= (Lm.atx r A).length /\ (Lm.atx r (A.drop k)).length <= (Lm.atx r A).length:=by
 have h:Lm.atx r A = Lm.atx r (A.take k) ++ Lm.atx r (A.drop k):=by
  unfold Lm.atx;rw [<- List.flatMap_append,List.take_append_drop]
 rw [h,List.length_append];omega
end Lo
end
section
open Go.RowKit
namespace Ro
open Um Cm Gm Lo
def tx1 (s:List UInt8):List Pb.E:=if s.isEmpty then [] else [(false,s)]
def refP (r:Lm.Rec):List Pc.E -> List UInt8 -> List Pb.E
 | [],s=>tx1 s
 | p :: A,s=>if p.1 = 3 then tx1 s ++ ((true,[]):Pb.E) :: refP r A [] else refP r A (s ++ Lm.ptx r p)
theorem tx1_eq (s:List UInt8):tx1 s = [((false,s):Pb.E)].filter keepP:=by
 unfold tx1;cases s <;> simp [keepP]
theorem refP_plain (r:Lm.Rec):∀ (A:List Pc.E) (s:List UInt8),Lm.cnt 3 A = 0 -> refP r A s = tx1 (s ++ Lm.atx r A)
 | [],s,_=>by simp [refP,Lm.atx]
 | p :: A,s,h=>by
  unfold Lm.cnt at h;rw [List.countP_cons] at h;have hp:p.1 ≠ 3:=fun e=>by simp [e] at h
  have hA:Lm.cnt 3 A = 0:=by unfold Lm.cnt;omega
  rw [refP,if_neg hp,refP_plain r A _ hA];simp [Lm.atx]
theorem refP_gen (r:Lm.Rec):∀ (A:List Pc.E) (s:List UInt8) (k:Nat),Lm.cnt 3 A <= 1 -> (∀ x ∈ A,x.1 = 3 -> x.2 = []) ->
  refP r A s = if mPl A k < 0 then tx1 (s ++ Lm.atx r A) else tx1 (s ++ Lm.atx r (A.take (mPl A k - k).toNat)) ++ ((true,[]):Pb.E) :: tx1 (Lm.atx r (A.drop ((mPl A k - k).toNat + 1)))
 | [],s,k,_,_=>by simp [refP,Lm.atx,mPl]
 | p :: A,s,k,h,hx=>by
  unfold Lm.cnt at h;rw [List.countP_cons] at h;by_cases hp:p.1 = 3
  ·have e:p = (3,[]):=Prod.ext hp (hx p (by simp) hp)
   have hA:Lm.cnt 3 A = 0:=by
    have h1:(if ((p.1 == 3) = true) then 1 else 0) = 1:=by rw [hp];rfl
    rw [h1] at h;unfold Lm.cnt;omega
   have hm:mPl (p :: A) k = (k:Int):=by unfold mPl;rw [if_pos e]
   rw [refP,if_pos hp,refP_plain r A [] hA,hm,if_neg (by omega)];have h0:((k:Int) - (k:Int)).toNat = 0:=by omega
   rw [h0];simp [Lm.atx]
  ·have e:¬ p = (3,[]):=fun e=>hp (by rw [e])
   have hA:Lm.cnt 3 A <= 1:=by unfold Lm.cnt;omega
   have hm:mPl (p :: A) k = mPl A (k + 1):=by rw [mPl,if_neg e]
   rw [refP,if_neg hp,refP_gen r A _ (k + 1) hA (fun x hxx=>hx x (by simp [hxx])),hm];rcases mPl_bd A (k + 1) with h1 | ⟨h1,h2⟩
   ·rw [h1,if_pos (by omega),if_pos (by omega)]
    simp [Lm.atx]
   ·rw [if_neg (by omega),if_neg (by omega)]
    have hn:(mPl A (k + 1) - (k:Int)).toNat = (mPl A (k + 1) - ((k + 1:Nat):Int)).toNat + 1:=by omega
    rw [hn];simp [Lm.atx]
theorem refP_eq (r:Lm.Rec) (A:List Pc.E) (h:Lm.cnt 3 A <= 1) (hx:∀ x ∈ A,x.1 = 3 -> x.2 = []):refP r A [] = parP r A:=by
 rw [refP_gen r A [] 0 h hx];unfold parP;split
 ·rw [tx1_eq];rfl
 ·rw [tx1_eq,tx1_eq]
  simp only [List.nil_append,List.filter_cons,List.filter_nil];simp [keepP];split <;> simp
def refO (r:Lm.Rec):List Pc.E -> List UInt8 -> List Pb.E × List UInt8
 | [],s=>([],s)
 | p :: A,s=>if p.1 = 3 then (tx1 s ++ ((true,[]):Pb.E) :: (refO r A []).1,(refO r A []).2) else refO r A (s ++ Lm.ptx r p)
theorem refO_all (r:Lm.Rec):∀ (A:List Pc.E) (s:List UInt8),refP r A s = (refO r A s).1 ++ tx1 (refO r A s).2
 | [],s=>by simp [refP,refO]
 | p :: A,s=>by
  unfold refP refO;split
  ·rw [refO_all r A []];simp
  ·exact refO_all r A _
theorem refO_snoc (r:Lm.Rec) (p:Pc.E):∀ (A:List Pc.E) (s:List UInt8),refO r (A ++ [p]) s = if p.1 = 3 then ((refO r A s).1 ++ tx1 (refO r A s).2 ++ [((true,[]):Pb.E)],[]) else ((refO r A s).1,(refO r A s).2 ++ Lm.ptx r p)
 | [],s=>by
  simp only [List.nil_append,refO]
 | q :: A,s=>by
  rw [List.cons_append,refO,refO];by_cases hq:q.1 = 3
  ·rw [if_pos hq,if_pos hq,refO_snoc r p A []]
   split <;> simp
  ·rw [if_neg hq,if_neg hq]
   exact refO_snoc r p A _
theorem refO_len (r:Lm.Rec):∀ (A:List Pc.E) (s:List UInt8),(refO r A s).2.length <= s.length + (Lm.atx r A).length
 | [],s=>by simp [refO,Lm.atx]
 | p :: A,s=>by
  rw [refO];split
  ·have:=refO_len r A []
   simp [Lm.atx] at this |-;omega
  ·have:=refO_len r A (s ++ Lm.ptx r p)
   simp [Lm.atx] at this |-;omega
theorem refO_few (r:Lm.Rec):∀ (A:List Pc.E) (s:List UInt8),(refO r A s).1.length <= 2 * A.length
 | [],s=>by simp [refO]
 | p :: A,s=>by
  rw [refO];split
  ·have:=refO_few r A []
   have h2:(tx1 s).length <= 1:=by unfold tx1;split <;> simp
   simp only [List.length_append,List.length_cons];omega
  ·have:=refO_few r A (s ++ Lm.ptx r p)
   simp only [List.length_cons];omega
end Ro
end
section
open Go.RowKit
namespace Ro
open Um Lo
theorem getD_bs (l:List (List UInt8)) (k:Nat):(l.map Lm.bs).getD k ⟨#[]⟩ = Lm.bs (l.getD k []):=by
 rw [List.getD_eq_getElem?_getD,List.getD_eq_getElem?_getD,List.getElem?_map];cases l[k]? <;> rfl
theorem par_pat:∀ p,p < 10 -> (Pt.parseC (allL (Lm.patB.getD p []))).1 = Lm.pX p:=fun p hp=>by
 obtain ⟨h1,h2,h3⟩:=Lm.f_pat p hp;rw [<- h1,allL_join _ (fun c hc=>List.all_eq_true.1 h3 c hc),h2]
theorem infoR:(Tryz.prog.info? 26).map (·.size) = some 8:=by kernel_rfl
def IsMk (r:Lm.Rec) (X:Pt.Pat):Prop:=∃ s p d m u c q,s < 20 /\ p < 10 /\ d < 4 /\ m < 4 /\ u < 2 /\ c < 4 /\ q < 6 /\ r = Lm.mk s p d m u c q /\ X = Lm.pX p
theorem pat_le:∀ p,p < 10 -> (Lm.patB.getD p []).length <= 100:=by decide +kernel
theorem good_any (g0 g1 g2 g3 g4 g5:Int) (w:World) (h0:-9223372036854775808 <= g0 /\ g0 <= 9223372036854775807) (h1:-9223372036854775808 <= g1 /\ g1 <= 9223372036854775807) (h2:-9223372036854775808 <= g2 /\ g2 <= 9223372036854775807) (h3:-9223372036854775808 <= g3 /\ g3 <= 9223372036854775807) (h4:-9223372036854775808 <= g4 /\ g4 <= 9223372036854775807) (h5:-9223372036854775808 <= g5 /\ g5 <= 9223372036854775807) :
  Calls Tryz.prog 53 #[.agg #[.int .i64 g0,.int .i64 g1,.int .i64 g2,.int .i64 g3,.int .i64 g4,.int .i64 g5]] w fun e w'=>∃ r,e = .returned (recV r) /\ (∃ X,IsMk r X) /\ Q w w':=by
 have HN:=Hd (fun u=>Sr.name_any g0 u h0.1 h0.2);have HSI:=Hd (Sm.idx_lt g0);have HK2:=Hd (fun u v (hv:SLst u v (Lm.patB.map Lm.bs))=>pick_any v (Lm.patB.map Lm.bs) g1 u hv (by simp [Lm.patB]) (by simp [Lm.patB]) h1.1 h1.2);have HL2:Hid ((Lm.patB.map Lm.bs).length = 10):=Hd rfl;have HM2:Hid (∀ u:World,SLst (u.alloc (.cells #[.string ⟨#[35,44,35,35,48,46,48,48]⟩,.string ⟨#[48,46,35,35]⟩,.string ⟨#[35,44,35,35,44,35,35,48,46,35,35,35]⟩,.string ⟨#[194,164,35,44,35,35,48,46,48,48]⟩,.string ⟨#[35,44,35,35,48,46,48,48,120,194,164]⟩,.string ⟨#[194,164,120,35,44,35,35,48,46,48,48,59,40,194,164,120,45,35,41]⟩,.string ⟨#[35,44,35,35,48,37]⟩,.string ⟨#[48,46,48,59,48,46,48,45]⟩,.string ⟨#[35,44,35,35,35,48,46,48,48,121,59,121,35,44,35,35,48,46,48,48,45,121]⟩,.string ⟨#[35,44,35,35,44,35,48,46,35,59,39,35,39,35,45,39,35,39]⟩] 9)) (.slice (some ⟨u.heap.size,0,none⟩) 10 10) (Lm.patB.map Lm.bs)):=Hd (fun u=>GLst.made Value.string 9 u (Lm.patB.map Lm.bs) 10 rfl (by unfold maxLen;omega));have HK3:=Hd (fun u v (hv:SLst u v (Lm.decL.map Lm.bs))=>pick_any v (Lm.decL.map Lm.bs) g2 u hv (by simp [Lm.decL]) (by simp [Lm.decL]) h2.1 h2.2);have HL3:Hid ((Lm.decL.map Lm.bs).length = 4):=Hd rfl;have HM3:Hid (∀ u:World,SLst (u.alloc (.cells #[.string ⟨#[46]⟩,.string ⟨#[44]⟩,.string ⟨#[217,171]⟩,.string ⟨#[101,204,129]⟩] 9)) (.slice (some ⟨u.heap.size,0,none⟩) 4 4) (Lm.decL.map Lm.bs)):=Hd (fun u=>GLst.made Value.string 9 u (Lm.decL.map Lm.bs) 4 rfl (by unfold maxLen;omega));have HK4:=Hd (fun u v (hv:SLst u v (Lm.minL.map Lm.bs))=>pick_any v (Lm.minL.map Lm.bs) g4 u hv (by simp [Lm.minL]) (by simp [Lm.minL]) h4.1 h4.2);have HL4:Hid ((Lm.minL.map Lm.bs).length = 4):=Hd rfl;have HM4:Hid (∀ u:World,SLst (u.alloc (.cells #[.string ⟨#[45]⟩,.string ⟨#[226,136,146]⟩,.string ⟨#[226,128,144]⟩,.string ⟨#[45,204,129]⟩] 9)) (.slice (some ⟨u.heap.size,0,none⟩) 4 4) (Lm.minL.map Lm.bs)):=Hd (fun u=>GLst.made Value.string 9 u (Lm.minL.map Lm.bs) 4 rfl (by unfold maxLen;omega));have HK5:=Hd (fun u v (hv:SLst u v (Lm.perL.map Lm.bs))=>pick_any v (Lm.perL.map Lm.bs) g5 u hv (by simp [Lm.perL]) (by simp [Lm.perL]) h5.1 h5.2);have HL5:Hid ((Lm.perL.map Lm.bs).length = 2):=Hd rfl;have HM5:Hid (∀ u:World,SLst (u.alloc (.cells #[.string ⟨#[37]⟩,.string ⟨#[217,170]⟩] 9)) (.slice (some ⟨u.heap.size,0,none⟩) 2 2) (Lm.perL.map Lm.bs)):=Hd (fun u=>GLst.made Value.string 9 u (Lm.perL.map Lm.bs) 2 rfl (by unfold maxLen;omega));have HK6:=Hd (fun u v (hv:SLst u v (Lm.curL.map Lm.bs))=>pick_any v (Lm.curL.map Lm.bs) g5 u hv (by simp [Lm.curL]) (by simp [Lm.curL]) h5.1 h5.2);have HL6:Hid ((Lm.curL.map Lm.bs).length = 4):=Hd rfl;have HM6:Hid (∀ u:World,SLst (u.alloc (.cells #[.string ⟨#[36]⟩,.string ⟨#[226,130,172]⟩,.string ⟨#[67,72,70]⟩,.string ⟨#[107,204,129,114]⟩] 9)) (.slice (some ⟨u.heap.size,0,none⟩) 4 4) (Lm.curL.map Lm.bs)):=Hd (fun u=>GLst.made Value.string 9 u (Lm.curL.map Lm.bs) 4 rfl (by unfold maxLen;omega));have HK9:=Hd (fun u v (hv:SLst u v (Lm.grpL.map Lm.bs))=>pick_any v (Lm.grpL.map Lm.bs) g3 u hv (by simp [Lm.grpL]) (by simp [Lm.grpL]) h3.1 h3.2);have HL9:Hid ((Lm.grpL.map Lm.bs).length = 6):=Hd rfl;have HM9:Hid (∀ u:World,SLst (u.alloc (.cells #[.string ⟨#[39]⟩,.string ⟨#[194,160]⟩,.string ⟨#[226,128,175]⟩,.string ⟨#[95]⟩,.string ⟨#[46]⟩,.string ⟨#[44]⟩] 9)) (.slice (some ⟨u.heap.size,0,none⟩) 6 6) (Lm.grpL.map Lm.bs)):=Hd (fun u=>GLst.made Value.string 9 u (Lm.grpL.map Lm.bs) 6 rfl (by unfold maxLen;omega));have HPP:=Hd (fun (p:Nat) (hp:p < 10) u=>(show Calls Tryz.prog 85 #[.string (Lm.bs (Lm.patB.getD p []))] u fun e w'=>∃ v er,e = .returned (.tuple #[v,.int .i64 er]) /\ Pr.PV w' v (Lm.pX p) /\ Q u w' from
  (Pr.Parse_all (Lm.bs (Lm.patB.getD p [])) u (by rw [Lm.bs_size];have:=pat_le p hp;omega)).mono (fun e w' ⟨v,h1,h2,h3⟩=>⟨v,_,h1,by rw [Lm.bs_list,par_pat p hp] at h2;exact h2,h3⟩)))
 have HEN:=Hd (fun (r:Lm.Rec) (X:Pt.Pat) (u:World) (h:IsMk r X) (hq:Q w u)=>(⟨r,rfl,⟨X,h⟩,hq⟩:∃ r',Ending.returned (recV r) = .returned (recV r') /\ (∃ X',IsMk r' X') /\ Q w u));clear h0 h1 h2 h3 h4 h5;obtain ⟨z0,hz0⟩:∃ z,z = (w.alloc (.cells #[.int .i64 g0,.int .i64 g1,.int .i64 g2,.int .i64 g3,.int .i64 g4,.int .i64 g5] 23)).alloc (.cells #[.string ⟨#[]⟩,.string ⟨#[]⟩,.string ⟨#[]⟩,.string ⟨#[]⟩,.string ⟨#[]⟩,.string ⟨#[]⟩,.string ⟨#[]⟩,.string ⟨#[]⟩] 26):=⟨_,rfl⟩;have HQ0:=Hd (show Q w z0 by rw [hz0];exact ((Q.refl w).alloc _).alloc _);have HG0:=Hd (show Bk z0 w.heap.size 23 [.int .i64 g0,.int .i64 g1,.int .i64 g2,.int .i64 g3,.int .i64 g4,.int .i64 g5] by rw [hz0];exact (Bk.new w _ _).q ((Q.refl _).alloc _));have HE0:=Hd (show Bk z0 (w.heap.size + 1) 26 [.string ⟨#[]⟩,.string ⟨#[]⟩,.string ⟨#[]⟩,.string ⟨#[]⟩,.string ⟨#[]⟩,.string ⟨#[]⟩,.string ⟨#[]⟩,.string ⟨#[]⟩] by rw [hz0,<- size_al w (.cells #[.int .i64 g0,.int .i64 g1,.int .i64 g2,.int .i64 g3,.int .i64 g4,.int .i64 g5] 23)];exact Bk.new _ _ _);go_enter Tryz.func53,Tryz.ntmps53
 go_wp2_with fail
 rw [<- hz0];clear hz0;obtain ⟨bE,hbE⟩:∃ b,b = w.heap.size + 1:=⟨_,rfl⟩;have HWE:=Hd (show w.heap.size <= bE by omega);rw [<- hbE] at HE0 |-;obtain ⟨bG,hbG⟩:∃ b,b = w.heap.size:=⟨_,rfl⟩;have HGE:=Hd (show bG ≠ bE by omega);rw [<- hbG] at HG0 |-;clear hbE hbG;refine (HN.out _).mono ?_;rintro e w1 ⟨rfl,hq1⟩;have HQ1:=Hd (HQ0.out.trans hq1);obtain ⟨S2,hS2⟩:∃ S,S = Lm.bs (Sm.nmL.getD (Sm.idx g0) []):=⟨_,rfl⟩;have HS2:=Hd hS2;rw [show (⟨(Sm.nm g0).toArray⟩:ByteArray) = S2 from hS2.symm];generalize Sm.idx g0 = si at *;clear hS2;obtain ⟨z1,hz1⟩:∃ z,z = w1.alloc (.cells #[.string ⟨#[120,120]⟩,.string ⟨#[]⟩,.string S2,.string ⟨#[]⟩,.string ⟨#[]⟩,.string ⟨#[]⟩,.string ⟨#[]⟩,.string ⟨#[]⟩] 26):=⟨_,rfl⟩;have HQ2:=Hd (show Q w z1 by rw [hz1];exact HQ1.out.alloc _);have HG1:=Hd (HG0.out.q (show Q z0 z1 by rw [hz1];exact hq1.alloc _));have HE1:=Hd (HE0.out.q (show Q z0 z1 by rw [hz1];exact hq1.alloc _));have HR1:=Hd (show Bk z1 w1.heap.size 26 [.string ⟨#[120,120]⟩,.string ⟨#[]⟩,.string S2,.string ⟨#[]⟩,.string ⟨#[]⟩,.string ⟨#[]⟩,.string ⟨#[]⟩,.string ⟨#[]⟩] by rw [hz1];exact Bk.new _ _ _);have HLTE:=Hd (show bE < w1.heap.size from (HE0.out.q hq1).lt);have HLTG:=Hd (show bG < w1.heap.size from (HG0.out.q hq1).lt);have HLTW:=Hd (show w.heap.size <= w1.heap.size from HQ1.out.le);clear hq1;go_upto_region 2 with fail
 rw [<- hz1];clear hz1;generalize w1.heap.size = bR at *;have HRE:=Hd (show bR ≠ bE by have:=HLTE.out;omega);have HRG:=Hd (show bR ≠ bG by have:=HLTG.out;omega);have cg:=(HG1.out.q ((Q.refl z1).alloc (.cells #[.string ⟨#[35,44,35,35,48,46,48,48]⟩,.string ⟨#[48,46,35,35]⟩,.string ⟨#[35,44,35,35,44,35,35,48,46,35,35,35]⟩,.string ⟨#[194,164,35,44,35,35,48,46,48,48]⟩,.string ⟨#[35,44,35,35,48,46,48,48,120,194,164]⟩,.string ⟨#[194,164,120,35,44,35,35,48,46,48,48,59,40,194,164,120,45,35,41]⟩,.string ⟨#[35,44,35,35,48,37]⟩,.string ⟨#[48,46,48,59,48,46,48,45]⟩,.string ⟨#[35,44,35,35,35,48,46,48,48,121,59,121,35,44,35,35,48,46,48,48,45,121]⟩,.string ⟨#[35,44,35,35,44,35,48,46,35,59,39,35,39,35,45,39,35,39]⟩] 9))).cell 1 rfl;have cg0:=HG1.out.cell 1 rfl;go_wp2_with fail
 clear cg cg0;refine (HK2.out _ _ (HM2.out z1)).mono ?_;rintro e wz ⟨⟨p,hp,rfl⟩,rfl⟩;rw [HL2.out] at hp;rw [getD_bs];obtain ⟨S1,hS1⟩:∃ S,S = Lm.bs (Lm.patB.getD p []):=⟨_,rfl⟩;have HS1:=Hd hS1;have Hp:=Hd hp;rw [<- hS1];clear hS1 hp;have hb:=HR1.out.q ((Q.refl z1).alloc (.cells #[.string ⟨#[35,44,35,35,48,46,48,48]⟩,.string ⟨#[48,46,35,35]⟩,.string ⟨#[35,44,35,35,44,35,35,48,46,35,35,35]⟩,.string ⟨#[194,164,35,44,35,35,48,46,48,48]⟩,.string ⟨#[35,44,35,35,48,46,48,48,120,194,164]⟩,.string ⟨#[194,164,120,35,44,35,35,48,46,48,48,59,40,194,164,120,45,35,41]⟩,.string ⟨#[35,44,35,35,48,37]⟩,.string ⟨#[48,46,48,59,48,46,48,45]⟩,.string ⟨#[35,44,35,35,35,48,46,48,48,121,59,121,35,44,35,35,48,46,48,48,45,121]⟩,.string ⟨#[35,44,35,35,44,35,48,46,35,59,39,35,39,35,45,39,35,39]⟩] 9));have cb:=hb.cell 1 rfl;have fb:=hb.free 1;have cb0:=HR1.out.cell 1 rfl;have fb0:=HR1.out.free 1;obtain ⟨z2,hz2⟩:∃ z,z = (z1.alloc (.cells #[.string ⟨#[35,44,35,35,48,46,48,48]⟩,.string ⟨#[48,46,35,35]⟩,.string ⟨#[35,44,35,35,44,35,35,48,46,35,35,35]⟩,.string ⟨#[194,164,35,44,35,35,48,46,48,48]⟩,.string ⟨#[35,44,35,35,48,46,48,48,120,194,164]⟩,.string ⟨#[194,164,120,35,44,35,35,48,46,48,48,59,40,194,164,120,45,35,41]⟩,.string ⟨#[35,44,35,35,48,37]⟩,.string ⟨#[48,46,48,59,48,46,48,45]⟩,.string ⟨#[35,44,35,35,35,48,46,48,48,121,59,121,35,44,35,35,48,46,48,48,45,121]⟩,.string ⟨#[35,44,35,35,44,35,48,46,35,59,39,35,39,35,45,39,35,39]⟩] 9)).setCell ⟨bR,1,none⟩ (.string S1):=⟨_,rfl⟩;have HQ_z2:=Hd (show Q w z2 by rw [hz2];exact Q.setCell (HQ2.out.alloc _) (ad:=⟨bR,1,none⟩) HLTW.out (.string S1));have HR_z2:=Hd (show Bk z2 bR 26 [.string ⟨#[120,120]⟩,.string S1,.string S2,.string ⟨#[]⟩,.string ⟨#[]⟩,.string ⟨#[]⟩,.string ⟨#[]⟩,.string ⟨#[]⟩] by rw [hz2];exact (HR1.out.q ((Q.refl _).alloc _)).set 1 (.string S1));have HE_z2:=Hd (show Bk z2 bE 26 [.string ⟨#[]⟩,.string ⟨#[]⟩,.string ⟨#[]⟩,.string ⟨#[]⟩,.string ⟨#[]⟩,.string ⟨#[]⟩,.string ⟨#[]⟩,.string ⟨#[]⟩] by rw [hz2];exact (HE1.out.q ((Q.refl _).alloc _)).past HRE.out (.string S1));have HG_z2:=Hd (show Bk z2 bG 23 [.int .i64 g0,.int .i64 g1,.int .i64 g2,.int .i64 g3,.int .i64 g4,.int .i64 g5] by rw [hz2];exact (HG1.out.q ((Q.refl _).alloc _)).past HRG.out (.string S1));clear hb;go_upto_region 3 with fail
 rw [<- hz2];clear hz2 cb fb cb0 fb0 HG1 HE1 HR1 HQ2;have cg:=(HG_z2.out.q ((Q.refl z2).alloc (.cells #[.string ⟨#[46]⟩,.string ⟨#[44]⟩,.string ⟨#[217,171]⟩,.string ⟨#[101,204,129]⟩] 9))).cell 2 rfl;have cg0:=HG_z2.out.cell 2 rfl;go_wp2_with fail
 clear cg cg0;refine (HK3.out _ _ (HM3.out z2)).mono ?_;rintro e wz ⟨⟨d,hd,rfl⟩,rfl⟩;rw [HL3.out] at hd;rw [getD_bs];obtain ⟨S3,hS3⟩:∃ S,S = Lm.bs (Lm.decL.getD d []):=⟨_,rfl⟩;have HS3:=Hd hS3;have HdW:=Hd hd;rw [<- hS3];clear hS3 hd;have hb:=HR_z2.out.q ((Q.refl z2).alloc (.cells #[.string ⟨#[46]⟩,.string ⟨#[44]⟩,.string ⟨#[217,171]⟩,.string ⟨#[101,204,129]⟩] 9));have cb:=hb.cell 3 rfl;have fb:=hb.free 3;have cb0:=HR_z2.out.cell 3 rfl;have fb0:=HR_z2.out.free 3;obtain ⟨z3,hz3⟩:∃ z,z = (z2.alloc (.cells #[.string ⟨#[46]⟩,.string ⟨#[44]⟩,.string ⟨#[217,171]⟩,.string ⟨#[101,204,129]⟩] 9)).setCell ⟨bR,3,none⟩ (.string S3):=⟨_,rfl⟩;have HQ_z3:=Hd (show Q w z3 by rw [hz3];exact Q.setCell (HQ_z2.out.alloc _) (ad:=⟨bR,3,none⟩) HLTW.out (.string S3));have HR_z3:=Hd (show Bk z3 bR 26 [.string ⟨#[120,120]⟩,.string S1,.string S2,.string S3,.string ⟨#[]⟩,.string ⟨#[]⟩,.string ⟨#[]⟩,.string ⟨#[]⟩] by rw [hz3];exact (HR_z2.out.q ((Q.refl _).alloc _)).set 3 (.string S3));have HE_z3:=Hd (show Bk z3 bE 26 [.string ⟨#[]⟩,.string ⟨#[]⟩,.string ⟨#[]⟩,.string ⟨#[]⟩,.string ⟨#[]⟩,.string ⟨#[]⟩,.string ⟨#[]⟩,.string ⟨#[]⟩] by rw [hz3];exact (HE_z2.out.q ((Q.refl _).alloc _)).past HRE.out (.string S3));have HG_z3:=Hd (show Bk z3 bG 23 [.int .i64 g0,.int .i64 g1,.int .i64 g2,.int .i64 g3,.int .i64 g4,.int .i64 g5] by rw [hz3];exact (HG_z2.out.q ((Q.refl _).alloc _)).past HRG.out (.string S3));clear hb;go_upto_region 4 with fail
 rw [<- hz3];clear hz3 cb fb cb0 fb0 HG_z2 HE_z2 HR_z2 HQ_z2;have cg:=(HG_z3.out.q ((Q.refl z3).alloc (.cells #[.string ⟨#[45]⟩,.string ⟨#[226,136,146]⟩,.string ⟨#[226,128,144]⟩,.string ⟨#[45,204,129]⟩] 9))).cell 4 rfl;have cg0:=HG_z3.out.cell 4 rfl;go_wp2_with fail
 clear cg cg0;refine (HK4.out _ _ (HM4.out z3)).mono ?_;rintro e wz ⟨⟨m,hm,rfl⟩,rfl⟩;rw [HL4.out] at hm;rw [getD_bs];obtain ⟨S5,hS5⟩:∃ S,S = Lm.bs (Lm.minL.getD m []):=⟨_,rfl⟩;have HS5:=Hd hS5;have Hm:=Hd hm;rw [<- hS5];clear hS5 hm;have hb:=HR_z3.out.q ((Q.refl z3).alloc (.cells #[.string ⟨#[45]⟩,.string ⟨#[226,136,146]⟩,.string ⟨#[226,128,144]⟩,.string ⟨#[45,204,129]⟩] 9));have cb:=hb.cell 5 rfl;have fb:=hb.free 5;have cb0:=HR_z3.out.cell 5 rfl;have fb0:=HR_z3.out.free 5;obtain ⟨z4,hz4⟩:∃ z,z = (z3.alloc (.cells #[.string ⟨#[45]⟩,.string ⟨#[226,136,146]⟩,.string ⟨#[226,128,144]⟩,.string ⟨#[45,204,129]⟩] 9)).setCell ⟨bR,5,none⟩ (.string S5):=⟨_,rfl⟩;have HQ_z4:=Hd (show Q w z4 by rw [hz4];exact Q.setCell (HQ_z3.out.alloc _) (ad:=⟨bR,5,none⟩) HLTW.out (.string S5));have HR_z4:=Hd (show Bk z4 bR 26 [.string ⟨#[120,120]⟩,.string S1,.string S2,.string S3,.string ⟨#[]⟩,.string S5,.string ⟨#[]⟩,.string ⟨#[]⟩] by rw [hz4];exact (HR_z3.out.q ((Q.refl _).alloc _)).set 5 (.string S5));have HE_z4:=Hd (show Bk z4 bE 26 [.string ⟨#[]⟩,.string ⟨#[]⟩,.string ⟨#[]⟩,.string ⟨#[]⟩,.string ⟨#[]⟩,.string ⟨#[]⟩,.string ⟨#[]⟩,.string ⟨#[]⟩] by rw [hz4];exact (HE_z3.out.q ((Q.refl _).alloc _)).past HRE.out (.string S5));have HG_z4:=Hd (show Bk z4 bG 23 [.int .i64 g0,.int .i64 g1,.int .i64 g2,.int .i64 g3,.int .i64 g4,.int .i64 g5] by rw [hz4];exact (HG_z3.out.q ((Q.refl _).alloc _)).past HRG.out (.string S5));clear hb;go_upto_region 5 with fail
 rw [<- hz4];clear hz4 cb fb cb0 fb0 HG_z3 HE_z3 HR_z3 HQ_z3;have cg:=(HG_z4.out.q ((Q.refl z4).alloc (.cells #[.string ⟨#[37]⟩,.string ⟨#[217,170]⟩] 9))).cell 5 rfl;have cg0:=HG_z4.out.cell 5 rfl;go_wp2_with fail
 clear cg cg0;refine (HK5.out _ _ (HM5.out z4)).mono ?_;rintro e wz ⟨⟨u,hu,rfl⟩,rfl⟩;rw [HL5.out] at hu;rw [getD_bs];obtain ⟨S6,hS6⟩:∃ S,S = Lm.bs (Lm.perL.getD u []):=⟨_,rfl⟩;have HS6:=Hd hS6;have Hu:=Hd hu;rw [<- hS6];clear hS6 hu;have hb:=HR_z4.out.q ((Q.refl z4).alloc (.cells #[.string ⟨#[37]⟩,.string ⟨#[217,170]⟩] 9));have cb:=hb.cell 6 rfl;have fb:=hb.free 6;have cb0:=HR_z4.out.cell 6 rfl;have fb0:=HR_z4.out.free 6;obtain ⟨z5,hz5⟩:∃ z,z = (z4.alloc (.cells #[.string ⟨#[37]⟩,.string ⟨#[217,170]⟩] 9)).setCell ⟨bR,6,none⟩ (.string S6):=⟨_,rfl⟩;have HQ_z5:=Hd (show Q w z5 by rw [hz5];exact Q.setCell (HQ_z4.out.alloc _) (ad:=⟨bR,6,none⟩) HLTW.out (.string S6));have HR_z5:=Hd (show Bk z5 bR 26 [.string ⟨#[120,120]⟩,.string S1,.string S2,.string S3,.string ⟨#[]⟩,.string S5,.string S6,.string ⟨#[]⟩] by rw [hz5];exact (HR_z4.out.q ((Q.refl _).alloc _)).set 6 (.string S6));have HE_z5:=Hd (show Bk z5 bE 26 [.string ⟨#[]⟩,.string ⟨#[]⟩,.string ⟨#[]⟩,.string ⟨#[]⟩,.string ⟨#[]⟩,.string ⟨#[]⟩,.string ⟨#[]⟩,.string ⟨#[]⟩] by rw [hz5];exact (HE_z4.out.q ((Q.refl _).alloc _)).past HRE.out (.string S6));have HG_z5:=Hd (show Bk z5 bG 23 [.int .i64 g0,.int .i64 g1,.int .i64 g2,.int .i64 g3,.int .i64 g4,.int .i64 g5] by rw [hz5];exact (HG_z4.out.q ((Q.refl _).alloc _)).past HRG.out (.string S6));clear hb;go_upto_region 6 with fail
 rw [<- hz5];clear hz5 cb fb cb0 fb0 HG_z4 HE_z4 HR_z4 HQ_z4;have cg:=(HG_z5.out.q ((Q.refl z5).alloc (.cells #[.string ⟨#[36]⟩,.string ⟨#[226,130,172]⟩,.string ⟨#[67,72,70]⟩,.string ⟨#[107,204,129,114]⟩] 9))).cell 5 rfl;have cg0:=HG_z5.out.cell 5 rfl;go_wp2_with fail
 clear cg cg0;refine (HK6.out _ _ (HM6.out z5)).mono ?_;rintro e wz ⟨⟨c,hc,rfl⟩,rfl⟩;rw [HL6.out] at hc;rw [getD_bs];obtain ⟨S7,hS7⟩:∃ S,S = Lm.bs (Lm.curL.getD c []):=⟨_,rfl⟩;have HS7:=Hd hS7;have Hc:=Hd hc;rw [<- hS7];clear hS7 hc;have hb:=HR_z5.out.q ((Q.refl z5).alloc (.cells #[.string ⟨#[36]⟩,.string ⟨#[226,130,172]⟩,.string ⟨#[67,72,70]⟩,.string ⟨#[107,204,129,114]⟩] 9));have cb:=hb.cell 7 rfl;have fb:=hb.free 7;have cb0:=HR_z5.out.cell 7 rfl;have fb0:=HR_z5.out.free 7;obtain ⟨z6,hz6⟩:∃ z,z = (z5.alloc (.cells #[.string ⟨#[36]⟩,.string ⟨#[226,130,172]⟩,.string ⟨#[67,72,70]⟩,.string ⟨#[107,204,129,114]⟩] 9)).setCell ⟨bR,7,none⟩ (.string S7):=⟨_,rfl⟩;have HQ_z6:=Hd (show Q w z6 by rw [hz6];exact Q.setCell (HQ_z5.out.alloc _) (ad:=⟨bR,7,none⟩) HLTW.out (.string S7));have HR_z6:=Hd (show Bk z6 bR 26 [.string ⟨#[120,120]⟩,.string S1,.string S2,.string S3,.string ⟨#[]⟩,.string S5,.string S6,.string S7] by rw [hz6];exact (HR_z5.out.q ((Q.refl _).alloc _)).set 7 (.string S7));have HE_z6:=Hd (show Bk z6 bE 26 [.string ⟨#[]⟩,.string ⟨#[]⟩,.string ⟨#[]⟩,.string ⟨#[]⟩,.string ⟨#[]⟩,.string ⟨#[]⟩,.string ⟨#[]⟩,.string ⟨#[]⟩] by rw [hz6];exact (HE_z5.out.q ((Q.refl _).alloc _)).past HRE.out (.string S7));have HG_z6:=Hd (show Bk z6 bG 23 [.int .i64 g0,.int .i64 g1,.int .i64 g2,.int .i64 g3,.int .i64 g4,.int .i64 g5] by rw [hz6];exact (HG_z5.out.q ((Q.refl _).alloc _)).past HRG.out (.string S7));clear hb;go_upto_region 7 with fail
 rw [<- hz6];clear hz6 cb fb cb0 fb0 HG_z5 HE_z5 HR_z5 HQ_z5;have cp:=HR_z6.out.cell 1 rfl;have HP7:=Hd (HPP.out p Hp.out);rw [<- HS1.out] at HP7;go_wp2_with fail
 clear cp;refine (HP7.out _).mono ?_;rintro e w7 ⟨v,er,rfl,⟨a,b,c0,d0,rfl,ha,hb,hc,hd⟩,hq7⟩;obtain ⟨a1,a2,rfl⟩:=ha.shape;obtain ⟨b1,b2,rfl⟩:=hb.shape;obtain ⟨c1,c2,rfl⟩:=hc.shape;obtain ⟨d1,d2,rfl⟩:=hd.shape;clear ha hb hc hd;generalize (Lm.pX p).pre.length = n0 at *;generalize (Lm.pX p).suf.length = n1 at *;generalize (Lm.pX p).npre.length = n2 at *;generalize (Lm.pX p).nsuf.length = n3 at *;unfold Pr.pv;obtain ⟨pr,hpr⟩:∃ x,x = (Lm.pX p).pr:=⟨_,rfl⟩;have HPR:=Hd hpr;rw [<- hpr];clear hpr;generalize (Lm.pX p).se = pse at *;generalize (Lm.pX p).mi = pmi at *;generalize (Lm.pX p).mf = pmf at *;generalize (Lm.pX p).xf = pxf at *;obtain ⟨y,hy⟩:∃ z,z = w7.alloc (.cells #[.slice a1 n0 a2,.slice b1 n1 b2,.slice c1 n2 c2,.slice d1 n3 d2,.int .i64 pr,.int .i64 pse,.int .i64 pmi,.int .i64 pmf,.int .i64 pxf] 29):=⟨_,rfl⟩;have hqy:Q z6 y:=by rw [hy];exact hq7.alloc _
 have HBP:=Hd (show Bk y w7.heap.size 29 [.slice a1 n0 a2,.slice b1 n1 b2,.slice c1 n2 c2,.slice d1 n3 d2,.int .i64 pr,.int .i64 pse,.int .i64 pmi,.int .i64 pmf,.int .i64 pxf] by rw [hy];exact Bk.new _ _ _);have HQY:=Hd (HQ_z6.out.trans hqy);have HGY:=Hd (HG_z6.out.q hqy);have HEY:=Hd (HE_z6.out.q hqy);have HRY:=Hd (HR_z6.out.q hqy);clear hqy hq7;go_upto_region 8 with fail
 rw [<- hy];clear hy;generalize w7.heap.size = bP at *;have c4:=HBP.out.cell 4 rfl;by_cases hgr:0 < pr
 ·have HGR:=Hd (show 0 < (Lm.pX p).pr by rw [<- HPR.out];exact hgr)
  go_upto_region 9 with fail
  clear c4;have cg:=(HGY.out.q ((Q.refl y).alloc (.cells #[.string ⟨#[39]⟩,.string ⟨#[194,160]⟩,.string ⟨#[226,128,175]⟩,.string ⟨#[95]⟩,.string ⟨#[46]⟩,.string ⟨#[44]⟩] 9))).cell 3 rfl;have cg0:=HGY.out.cell 3 rfl;go_wp2_with fail
  clear cg cg0;refine (HK9.out _ _ (HM9.out y)).mono ?_;rintro e wz ⟨⟨q,hq,rfl⟩,rfl⟩;rw [HL9.out] at hq;rw [getD_bs];obtain ⟨S4,hS4⟩:∃ S,S = Lm.bs (Lm.grpL.getD q []):=⟨_,rfl⟩;have HS4:=Hd hS4;have Hq:=Hd hq;rw [<- hS4];clear hS4 hq;have hb:=HRY.out.q ((Q.refl y).alloc (.cells #[.string ⟨#[39]⟩,.string ⟨#[194,160]⟩,.string ⟨#[226,128,175]⟩,.string ⟨#[95]⟩,.string ⟨#[46]⟩,.string ⟨#[44]⟩] 9));have cb:=hb.cell 4 rfl;have fb:=hb.free 4;have cb0:=HRY.out.cell 4 rfl;have fb0:=HRY.out.free 4;obtain ⟨z7,hz7⟩:∃ z,z = (y.alloc (.cells #[.string ⟨#[39]⟩,.string ⟨#[194,160]⟩,.string ⟨#[226,128,175]⟩,.string ⟨#[95]⟩,.string ⟨#[46]⟩,.string ⟨#[44]⟩] 9)).setCell ⟨bR,4,none⟩ (.string S4):=⟨_,rfl⟩;have HQ_z7:=Hd (show Q w z7 by rw [hz7];exact Q.setCell (HQY.out.alloc _) (ad:=⟨bR,4,none⟩) HLTW.out (.string S4));have HR_z7:=Hd (show Bk z7 bR 26 [.string ⟨#[120,120]⟩,.string S1,.string S2,.string S3,.string S4,.string S5,.string S6,.string S7] by rw [hz7];exact (HRY.out.q ((Q.refl _).alloc _)).set 4 (.string S4));have HE_z7:=Hd (show Bk z7 bE 26 [.string ⟨#[]⟩,.string ⟨#[]⟩,.string ⟨#[]⟩,.string ⟨#[]⟩,.string ⟨#[]⟩,.string ⟨#[]⟩,.string ⟨#[]⟩,.string ⟨#[]⟩] by rw [hz7];exact (HEY.out.q ((Q.refl _).alloc _)).past HRE.out (.string S4));have HG_z7:=Hd (show Bk z7 bG 23 [.int .i64 g0,.int .i64 g1,.int .i64 g2,.int .i64 g3,.int .i64 g4,.int .i64 g5] by rw [hz7];exact (HGY.out.q ((Q.refl _).alloc _)).past HRG.out (.string S4));clear hb;go_upto_region 10 with fail
  rw [<- hz7];clear hz7 cb fb cb0 fb0 HGY HEY HRY HQY;have hs4:=HR_z7.out.cell 4 rfl;have hs3:=HR_z7.out.cell 3 rfl;by_cases heq:Lm.grpL.getD q [] = Lm.decL.getD d []
  ·have hSS:S4 = S3:=by rw [HS4.out,HS3.out,heq]
   have hbb:(S4.toList == S3.toList) = true:=by rw [hSS];simp
   have HEQ:=Hd heq;have f4:=HR_z7.out.free 4;clear heq hSS;obtain ⟨x,hx⟩:∃ z,z = z7.setCell ⟨bR,4,none⟩ (.string ⟨#[32]⟩):=⟨_,rfl⟩;have HQX:=Hd (show Q w x by rw [hx];exact Q.setCell HQ_z7.out (ad:=⟨bR,4,none⟩) HLTW.out _);have HRX:=Hd (show Bk x bR 26 [.string ⟨#[120,120]⟩,.string S1,.string S2,.string S3,.string ⟨#[32]⟩,.string S5,.string S6,.string S7] by rw [hx];exact HR_z7.out.set 4 _);have HEX:=Hd (show Bk x bE 26 [.string ⟨#[]⟩,.string ⟨#[]⟩,.string ⟨#[]⟩,.string ⟨#[]⟩,.string ⟨#[]⟩,.string ⟨#[]⟩,.string ⟨#[]⟩,.string ⟨#[]⟩] by rw [hx];exact HE_z7.out.past HRE.out _);go_upto_region 12 with fail
   rw [<- hx];clear hx hs4 hs3 f4 hbb;have r0:=HRX.out.cell 0 rfl;have e0:=HEX.out.cell 0 rfl;have f0:=HEX.out.free 0;have r1:=HRX.out.cell 1 rfl;have e1:=HEX.out.cell 1 rfl;have f1:=HEX.out.free 1;have r2:=HRX.out.cell 2 rfl;have e2:=HEX.out.cell 2 rfl;have f2:=HEX.out.free 2;have r3:=HRX.out.cell 3 rfl;have e3:=HEX.out.cell 3 rfl;have f3:=HEX.out.free 3;have r4:=HRX.out.cell 4 rfl;have e4:=HEX.out.cell 4 rfl;have f4:=HEX.out.free 4;have r5:=HRX.out.cell 5 rfl;have e5:=HEX.out.cell 5 rfl;have f5:=HEX.out.free 5;have r6:=HRX.out.cell 6 rfl;have e6:=HEX.out.cell 6 rfl;have f6:=HEX.out.free 6;have r7:=HRX.out.cell 7 rfl;have e7:=HEX.out.cell 7 rfl;have f7:=HEX.out.free 7;have HFB:=Hd ((((((((HEX.out.set 0 (.string ⟨#[120,120]⟩)).set 1 (.string S1)).set 2 (.string S2)).set 3 (.string S3)).set 4 (.string ⟨#[32]⟩)).set 5 (.string S5)).set 6 (.string S6)).set 7 (.string S7));have HFQ:=Hd (Q.setCell (Q.setCell (Q.setCell (Q.setCell (Q.setCell (Q.setCell (Q.setCell (Q.setCell HQX.out (ad:=⟨bE,0,none⟩) HWE.out (.string ⟨#[120,120]⟩)) (ad:=⟨bE,1,none⟩) HWE.out (.string S1)) (ad:=⟨bE,2,none⟩) HWE.out (.string S2)) (ad:=⟨bE,3,none⟩) HWE.out (.string S3)) (ad:=⟨bE,4,none⟩) HWE.out (.string ⟨#[32]⟩)) (ad:=⟨bE,5,none⟩) HWE.out (.string S5)) (ad:=⟨bE,6,none⟩) HWE.out (.string S6)) (ad:=⟨bE,7,none⟩) HWE.out (.string S7));go_wp2_with fail
   refine ret_bk rfl Tryz.underlying26 (by exact infoR) rfl HFB.out rfl ?_;have hfin:=HEN.out (Lm.mk si p d m u c q) (Lm.pX p) _ ⟨si,p,d,m,u,c,q,HSI.out,Hp.out,HdW.out,Hm.out,Hu.out,Hc.out,Hq.out,rfl,rfl⟩ HFQ.out;have hrec:recV (Lm.mk si p d m u c q) = .agg #[.string ⟨#[120,120]⟩,.string S1,.string S2,.string S3,.string ⟨#[32]⟩,.string S5,.string S6,.string S7]:=by
    unfold recV Lm.mk;rw [HS1.out,HS2.out,HS3.out,HS5.out,HS6.out,HS7.out];rw [if_pos HGR.out];unfold Lm.grpAt;rw [if_pos HEQ.out];rfl
   rw [hrec] at hfin;exact hfin
  ·have hSS:S4 ≠ S3:=fun e=>heq (by have h:=congrArg (fun b=>b.data.toList) e;rw [HS4.out,HS3.out,Lm.bs_list,Lm.bs_list] at h;exact h)
   have hbb:=str_ne hSS;have HEQ:=Hd heq;clear heq hSS;go_upto_region 12 with fail
   clear hs4 hs3 hbb;have r0:=HR_z7.out.cell 0 rfl;have e0:=HE_z7.out.cell 0 rfl;have f0:=HE_z7.out.free 0;have r1:=HR_z7.out.cell 1 rfl;have e1:=HE_z7.out.cell 1 rfl;have f1:=HE_z7.out.free 1;have r2:=HR_z7.out.cell 2 rfl;have e2:=HE_z7.out.cell 2 rfl;have f2:=HE_z7.out.free 2;have r3:=HR_z7.out.cell 3 rfl;have e3:=HE_z7.out.cell 3 rfl;have f3:=HE_z7.out.free 3;have r4:=HR_z7.out.cell 4 rfl;have e4:=HE_z7.out.cell 4 rfl;have f4:=HE_z7.out.free 4;have r5:=HR_z7.out.cell 5 rfl;have e5:=HE_z7.out.cell 5 rfl;have f5:=HE_z7.out.free 5;have r6:=HR_z7.out.cell 6 rfl;have e6:=HE_z7.out.cell 6 rfl;have f6:=HE_z7.out.free 6;have r7:=HR_z7.out.cell 7 rfl;have e7:=HE_z7.out.cell 7 rfl;have f7:=HE_z7.out.free 7;have HFB:=Hd ((((((((HE_z7.out.set 0 (.string ⟨#[120,120]⟩)).set 1 (.string S1)).set 2 (.string S2)).set 3 (.string S3)).set 4 (.string S4)).set 5 (.string S5)).set 6 (.string S6)).set 7 (.string S7));have HFQ:=Hd (Q.setCell (Q.setCell (Q.setCell (Q.setCell (Q.setCell (Q.setCell (Q.setCell (Q.setCell HQ_z7.out (ad:=⟨bE,0,none⟩) HWE.out (.string ⟨#[120,120]⟩)) (ad:=⟨bE,1,none⟩) HWE.out (.string S1)) (ad:=⟨bE,2,none⟩) HWE.out (.string S2)) (ad:=⟨bE,3,none⟩) HWE.out (.string S3)) (ad:=⟨bE,4,none⟩) HWE.out (.string S4)) (ad:=⟨bE,5,none⟩) HWE.out (.string S5)) (ad:=⟨bE,6,none⟩) HWE.out (.string S6)) (ad:=⟨bE,7,none⟩) HWE.out (.string S7));go_wp2_with fail
   refine ret_bk rfl Tryz.underlying26 (by exact infoR) rfl HFB.out rfl ?_;have hfin:=HEN.out (Lm.mk si p d m u c q) (Lm.pX p) _ ⟨si,p,d,m,u,c,q,HSI.out,Hp.out,HdW.out,Hm.out,Hu.out,Hc.out,Hq.out,rfl,rfl⟩ HFQ.out;have hrec:recV (Lm.mk si p d m u c q) = .agg #[.string ⟨#[120,120]⟩,.string S1,.string S2,.string S3,.string S4,.string S5,.string S6,.string S7]:=by
    unfold recV Lm.mk;rw [HS1.out,HS2.out,HS3.out,HS5.out,HS6.out,HS7.out];rw [if_pos HGR.out];unfold Lm.grpAt;rw [if_neg HEQ.out,HS4.out];rfl
   rw [hrec] at hfin;exact hfin
 ·have HGR:=Hd (show ¬ 0 < (Lm.pX p).pr by rw [<- HPR.out];exact hgr)
  go_upto_region 12 with fail
  clear c4;have r0:=HRY.out.cell 0 rfl;have e0:=HEY.out.cell 0 rfl;have f0:=HEY.out.free 0;have r1:=HRY.out.cell 1 rfl;have e1:=HEY.out.cell 1 rfl;have f1:=HEY.out.free 1;have r2:=HRY.out.cell 2 rfl;have e2:=HEY.out.cell 2 rfl;have f2:=HEY.out.free 2;have r3:=HRY.out.cell 3 rfl;have e3:=HEY.out.cell 3 rfl;have f3:=HEY.out.free 3;have r4:=HRY.out.cell 4 rfl;have e4:=HEY.out.cell 4 rfl;have f4:=HEY.out.free 4;have r5:=HRY.out.cell 5 rfl;have e5:=HEY.out.cell 5 rfl;have f5:=HEY.out.free 5;have r6:=HRY.out.cell 6 rfl;have e6:=HEY.out.cell 6 rfl;have f6:=HEY.out.free 6;have r7:=HRY.out.cell 7 rfl;have e7:=HEY.out.cell 7 rfl;have f7:=HEY.out.free 7;have HFB:=Hd ((((((((HEY.out.set 0 (.string ⟨#[120,120]⟩)).set 1 (.string S1)).set 2 (.string S2)).set 3 (.string S3)).set 4 (.string ⟨#[]⟩)).set 5 (.string S5)).set 6 (.string S6)).set 7 (.string S7));have HFQ:=Hd (Q.setCell (Q.setCell (Q.setCell (Q.setCell (Q.setCell (Q.setCell (Q.setCell (Q.setCell HQY.out (ad:=⟨bE,0,none⟩) HWE.out (.string ⟨#[120,120]⟩)) (ad:=⟨bE,1,none⟩) HWE.out (.string S1)) (ad:=⟨bE,2,none⟩) HWE.out (.string S2)) (ad:=⟨bE,3,none⟩) HWE.out (.string S3)) (ad:=⟨bE,4,none⟩) HWE.out (.string ⟨#[]⟩)) (ad:=⟨bE,5,none⟩) HWE.out (.string S5)) (ad:=⟨bE,6,none⟩) HWE.out (.string S6)) (ad:=⟨bE,7,none⟩) HWE.out (.string S7));go_wp2_with fail
  refine ret_bk rfl Tryz.underlying26 (by exact infoR) rfl HFB.out rfl ?_;have hfin:=HEN.out (Lm.mk si p d m u c 0) (Lm.pX p) _ ⟨si,p,d,m,u,c,0,HSI.out,Hp.out,HdW.out,Hm.out,Hu.out,Hc.out,by omega,rfl,rfl⟩ HFQ.out;have hrec:recV (Lm.mk si p d m u c 0) = .agg #[.string ⟨#[120,120]⟩,.string S1,.string S2,.string S3,.string ⟨#[]⟩,.string S5,.string S6,.string S7]:=by
   unfold recV Lm.mk;rw [HS1.out,HS2.out,HS3.out,HS5.out,HS6.out,HS7.out];rw [if_neg (show ¬ 0 < (Lm.pX p).pr by have h:=HGR.out;omega)];rfl
  rw [hrec] at hfin;exact hfin
end Ro
end
end Go.Proofs.YteggfkbnnmpcjaaGreatDoor
