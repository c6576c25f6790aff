/- Whether a record groups as it should; whether a text may stand at its places; all clusters; names. (and more) -/
import Derived.Test.YtdjhkbholijnmaaGreatDoorR27
import Derived.Test.YtdjhkbholijnmaaGreatDoorR25
set_option linter.all false
set_option maxRecDepth 100000
set_option maxHeartbeats 8000000
namespace Go.Proofs.YtdjhkbholijnmaaGreatDoor
section
open Go.RowKit
namespace Lo
open Um Cm Gm
theorem grouped_yes (g:Nat) (r:Lm.Rec) (X:Pt.Pat) (a b c d cl:Value) (w:World) (hB:LB w g r X a b c d cl) (hp:0 < X.pr) (hs:Lm.symB r.grp = true) (hl:r.grp.length <= 1000000) :
  Calls Tryz.prog 99 #[.pointer (some ⟨g,0,none⟩)] w fun e w'=>e = .returned (.bool true) /\ Q w w':=by
 have hy:=symbol_any (Lm.bs r.grp) w (by rw [Lm.bs_size];exact hl);rw [Lm.bs_list,hs] at hy;have HY:=Hd hy;have c4:=hB.1.cell 4 rfl;have c12:=hB.1.cell 12 rfl;generalize X.pr = p at *;generalize Lm.bs r.grp = G at *;clear hB hs hl hy;go_enter Tryz.func99,Tryz.ntmps99
 go_wp2_with fail
 refine HY.out.mono ?_;rintro e w1 ⟨rfl,hq1⟩;go_wp2_with fail
 go_ret
 exact ⟨rfl,hq1⟩
theorem grouped_no (g:Nat) (r:Lm.Rec) (X:Pt.Pat) (a b c d cl:Value) (w:World) (hB:LB w g r X a b c d cl) (hp:¬ 0 < X.pr) (hs:r.grp = []) :
  Calls Tryz.prog 99 #[.pointer (some ⟨g,0,none⟩)] w fun e w'=>e = .returned (.bool true) /\ Q w w':=by
 have hg:Lm.bs r.grp = ⟨#[]⟩:=by rw [hs];rfl
 have c0:=hB.1.cell 0 rfl;have c1:=hB.1.cell 1 rfl;have c2:=hB.1.cell 2 rfl;have c3:=hB.1.cell 3 rfl;have c4:=hB.1.cell 4 rfl;have c5:=hB.1.cell 5 rfl;have c6:=hB.1.cell 6 rfl;have c7:=hB.1.cell 7 rfl;have c12:=hB.1.cell 12 rfl;rw [hg] at c4;have HB:=Hd (show ∀ u,Q w u -> u.cell? ⟨g,0,none⟩ = some (.string (Lm.bs r.nam)) /\ u.cell? ⟨g,1,none⟩ = some (.string (Lm.bs r.pat)) /\ u.cell? ⟨g,2,none⟩ = some (.string (Lm.bs r.sys)) /\ u.cell? ⟨g,3,none⟩ = some (.string (Lm.bs r.dec)) /\ u.cell? ⟨g,4,none⟩ = some (.string (⟨#[]⟩)) /\ u.cell? ⟨g,5,none⟩ = some (.string (Lm.bs r.min)) /\ u.cell? ⟨g,6,none⟩ = some (.string (Lm.bs r.per)) /\ u.cell? ⟨g,7,none⟩ = some (.string (Lm.bs r.cur)) from fun u hq=>by
  have hb:=(hB.q hq).1;rw [<- hg];exact ⟨hb.cell 0 rfl,hb.cell 1 rfl,hb.cell 2 rfl,hb.cell 3 rfl,hb.cell 4 rfl,hb.cell 5 rfl,hb.cell 6 rfl,hb.cell 7 rfl⟩)
 generalize X.pr = p at *;generalize Lm.bs r.nam = s0 at *;generalize Lm.bs r.pat = s1 at *;generalize Lm.bs r.sys = s2 at *;generalize Lm.bs r.dec = s3 at *;generalize Lm.bs r.min = s5 at *;generalize Lm.bs r.per = s6 at *;generalize Lm.bs r.cur = s7 at *;clear hB hs hg;obtain ⟨z,hz⟩:∃ z,z = (w.alloc (.cells #[.string s0,.string s1,.string s2,.string s3,.string ⟨#[]⟩,.string s5,.string s6,.string s7] 84)):=⟨_,rfl⟩;have HQZ:=Hd (show Q w z by rw [hz];exact (Q.refl w).alloc _);have HBZ:=Hd (show Bk z w.heap.size 84 [.string s0,.string s1,.string s2,.string s3,.string ⟨#[]⟩,.string s5,.string s6,.string s7] by rw [hz];exact Bk.new _ _ _);go_enter Tryz.func99,Tryz.ntmps99
 go_upto_region 5 with fail
 rw [<- hz];clear hz c0 c1 c2 c3 c4 c5 c6 c7 c12;generalize w.heap.size = bz at *;refine wp_region_held_drew (S:=fun u=>Q z u) (by kernel_rfl) (by exact (Q.refl z).drew) (fun hHeld=>?_);have hS:Q z z.drew:=hHeld;clear hHeld;have hq:Q z z.drew:=(Q.refl _).drew;clear hq;generalize z.drew = yR1x0 at *;refine tk 0 (by simp only [gA,gB,gC];rfl) (by first | kernel_rfl | rfl) (fun uz hSw=>by (try dsimp only at hSw);have kb:=HBZ.out.q hSw;have k0:=kb.cell 0 rfl;have k1:=kb.cell 1 rfl;have k2:=kb.cell 2 rfl;have k3:=kb.cell 3 rfl;have k4:=kb.cell 4 rfl;have k5:=kb.cell 5 rfl;have k6:=kb.cell 6 rfl;have k7:=kb.cell 7 rfl;have kg:=HB.out _ (HQZ.out.trans hSw);obtain ⟨m0,m1,m2,m3,m4,m5,m6,m7⟩:=kg;clear kb;go_simp;try with_reducible rfl) pq hS ?_;try simp only [Act.put,sA,sB,sC]
 refine tk 1 (by simp only [gA,gB,gC];rfl) (by first | kernel_rfl | rfl) (fun uz _=>by go_simp;try with_reducible rfl) pq hS ?_;try simp only [Act.put,sA,sB,sC]
 refine tk 2 (by simp only [gA,gB,gC];rfl) (by first | kernel_rfl | rfl) (fun uz _=>by go_simp;try with_reducible rfl) pq hS ?_;try simp only [Act.put,sA,sB,sC]
 refine tk 3 (by simp only [gA,gB,gC];rfl) (by first | kernel_rfl | rfl) (fun uz _=>by go_simp;try with_reducible rfl) pq hS ?_;try simp only [Act.put,sA,sB,sC]
 refine tk 4 (by simp only [gA,gB,gC];rfl) (by first | kernel_rfl | rfl) (fun uz hSw=>by (try dsimp only at hSw);have kb:=HBZ.out.q hSw;have k0:=kb.cell 0 rfl;have k1:=kb.cell 1 rfl;have k2:=kb.cell 2 rfl;have k3:=kb.cell 3 rfl;have k4:=kb.cell 4 rfl;have k5:=kb.cell 5 rfl;have k6:=kb.cell 6 rfl;have k7:=kb.cell 7 rfl;have kg:=HB.out _ (HQZ.out.trans hSw);obtain ⟨m0,m1,m2,m3,m4,m5,m6,m7⟩:=kg;clear kb;go_simp;try with_reducible rfl) pq hS ?_;try simp only [Act.put,sA,sB,sC]
 refine tk 5 (by simp only [gA,gB,gC];rfl) (by first | kernel_rfl | rfl) (fun uz _=>by go_simp;try with_reducible rfl) pq hS ?_;try simp only [Act.put,sA,sB,sC]
 refine tk 6 (by simp only [gA,gB,gC];rfl) (by first | kernel_rfl | rfl) (fun uz _=>by go_simp;try with_reducible rfl) pq hS ?_;try simp only [Act.put,sA,sB,sC]
 refine wpAnyH_done (by kernel_rfl) ?_ _;have HQ:=Hd (HQZ.out.trans hS);clear hS;go_wp2_with fail
 try (rename_i dx1 d1 hx1;have hy1:(some 2:Option Tmp) = some d1:=hx1;obtain rfl:=Option.some.inj hy1;clear hx1 hy1)
 go_ret
 exact ⟨rfl,HQ.out⟩
/-! ### places of a kind -/
theorem placed_no (v:Value) (A:List Pc.E) (kind:Int) (b:Nat) (w:World) (hv:Pc.LstP w v A) (hA:A.length <= 1000000) (hn:Lm.cnt kind A = 0) (hb:Bk w b 3 [.int .i64 kind]) :
  Calls Tryz.prog 156 #[v,.pointer (some ⟨b,0,none⟩)] w fun e w'=>e = .returned (.bool false) /\ Q w w':=by
 have hc:=Pg.countP_any v A kind w hv hA;rw [show ((A.countP fun p=>p.1 == kind:Nat):Int) = 0 by rw [show (A.countP fun p=>p.1 == kind) = 0 from hn];rfl] at hc;have HC:=Hd hc;have c0:=hb.cell 0 rfl;obtain ⟨a,cp,rfl⟩:=hv.shape;generalize A.length = m at *;clear hv hA hc hn hb;go_enter Tryz.func156,Tryz.ntmps156
 go_wp2_with fail
 refine HC.out.mono ?_;rintro e w' ⟨rfl,hq'⟩;go_wp2_with fail
 go_ret
 exact ⟨rfl,hq'⟩
theorem worded_yes (g:Nat) (s:List UInt8) (kind:Int) (w:World) (hl:s.length <= 1000000) (hw:Lm.wordB s = true) :
  Calls Tryz.prog 102 #[.pointer (some ⟨g,0,none⟩),.string (Lm.bs s),.int .i64 kind] w fun e w'=>e = .returned (.bool true) /\ Q w w':=by
 have hy:=fun u=>word_any (Lm.bs s) u (by rw [Lm.bs_size];exact hl);rw [Lm.bs_list,hw] at hy;have HY:=Hd hy;generalize Lm.bs s = S at *;clear hl hw hy;go_enter Tryz.func102,Tryz.ntmps102
 go_wp2_with fail
 refine (HY.out _).mono ?_;rintro e w1 ⟨rfl,hq1⟩;go_wp2_with fail
 go_ret
 exact ⟨rfl,Q.trans ((Q.refl w).alloc _) hq1⟩
theorem worded_none (g:Nat) (r:Lm.Rec) (X:Pt.Pat) (a b c d cl:Value) (kind:Int) (w:World) (hB:LB w g r X a b c d cl) (hA:∀ A ∈ Lm.affs X,A.length <= 1000000) (hn:∀ A ∈ Lm.affs X,Lm.cnt kind A = 0) :
  Calls Tryz.prog 102 #[.pointer (some ⟨g,0,none⟩),.string ⟨#[]⟩,.int .i64 kind] w fun e w'=>e = .returned (.bool true) /\ Q w w':=by
 have hy:=fun u=>word_any ⟨#[]⟩ u (by decide);rw [show Lm.wordB (⟨#[]⟩:ByteArray).data.toList = false by decide +kernel] at hy;have HY:=Hd hy;obtain ⟨z,hz⟩:∃ z,z = w.alloc (.cells #[.int .i64 kind] 3):=⟨_,rfl⟩;have HQZ:=Hd (show Q w z by rw [hz];exact (Q.refl w).alloc _);have HBZ:=Hd (show Bk z w.heap.size 3 [.int .i64 kind] by rw [hz];exact Bk.new _ _ _);have HA:=Hd (fun u (hq:Q z u)=>affixes_any g r X a b c d cl u (hB.q (HQZ.out.trans hq)));have HN:=Hd (fun u v (hq:Q z u) (hv:GLst id u v [a,b,c,d])=>noL 156 #[] #[.pointer (some ⟨w.heap.size,0,none⟩)] (enters_of Tryz.func156 (by kernel_rfl) rfl) v [a,b,c,d] u hv (aff_len a b c d) (fun k x hx u2 hq2=>by
  obtain ⟨A,_,hm,hv2⟩:=aff_at (hB.q (HQZ.out.trans (hq.trans hq2))) hx;exact placed_no x A kind w.heap.size u2 hv2 (hA A hm) (hn A hm) (HBZ.out.q (hq.trans hq2))))
 have hb1:(⟨#[]⟩:ByteArray).toList.isEmpty = true:=by decide +kernel
 have hb2:((⟨#[]⟩:ByteArray).toList == []) = true:=by decide +kernel
 clear hy hB hA hn;go_enter Tryz.func102,Tryz.ntmps102
 go_wp2_with fail
 rw [<- hz];clear hz;refine (HY.out _).mono ?_;rintro e w1 ⟨rfl,hq1⟩;go_wp2_with fail
 refine (HA.out _ hq1).mono ?_;rintro e w2 ⟨v2,rfl,hv2,hq2⟩;obtain ⟨va,vc,rfl⟩:=hv2.shape;go_wp2_with fail
 refine (HN.out _ _ (hq1.trans hq2) hv2).mono ?_;rintro e w3 ⟨rfl,hq3⟩;go_wp2_with fail
 go_ret
 exact ⟨rfl,HQZ.out.trans (hq1.trans (hq2.trans hq3))⟩
end Lo
end
section
open Go.RowKit
namespace Lo
open Um Cm Gm
def clT (r:Lm.Rec) (X:Pt.Pat) (k:Nat):List ByteArray:=((Lm.affs X).take k).flatMap fun A=>pcs (Lm.bs (Lm.atx r A))
theorem clT_succ (r:Lm.Rec) (X:Pt.Pat) (k:Nat) (A:List Pc.E) (h:(Lm.affs X)[k]? = some A):clT r X (k + 1) = clT r X k ++ pcs (Lm.bs (Lm.atx r A)):=by
 obtain ⟨hk,e⟩:=List.getElem?_eq_some_iff.1 h;unfold clT;rw [List.take_succ_eq_append_getElem hk,List.flatMap_append,e];simp
theorem split_any (g:Nat) (r:Lm.Rec) (X:Pt.Pat) (a b c d cl:Value) (w:World) (hB:LB w g r X a b c d cl) (hA:∀ A ∈ Lm.affs X,A.length <= 1000000 /\ (Lm.atx r A).length <= 1000000) :
  Calls Tryz.prog 59 #[.pointer (some ⟨g,0,none⟩)] w fun e w'=>∃ v,e = .returned v /\ SOwn w' w.heap.size v (Lm.clus r X) /\ Q w w':=by
 have HF:=Hd (affixes_any g r X a b c d cl w hB);have HB:=Hd hB;have HT:=Hd (fun u x A (hq:Q w u) (hv:Pc.LstP u x A) (hm:A ∈ Lm.affs X)=>text_any g r X a b c d cl x A u (hB.q hq) hv (hA A hm).1 (hA A hm).2);have HS:=Hd (fun u A (hm:A ∈ Lm.affs X)=>csplit_any (Lm.bs (Lm.atx r A)) u (by rw [Lm.bs_size];have:=(hA A hm).2;omega));have HL:=Hd (fun A (hm:A ∈ Lm.affs X)=>(show (pcs (Lm.bs (Lm.atx r A))).length <= 1000000 by
  rw [pcs_length];have h1:=begL_length (Lm.bs (Lm.atx r A)).data.toList;have h2:=(hA A hm).2;rw [Lm.bs_list] at h1 |-;omega))
 have HN:=Hd (clT_succ r X);have HZ:=Hd (show clT r X 4 = Lm.clus r X from rfl);have h00:clT r X 0 = []:=rfl;rw [<- HZ.out];generalize clT r X = T at *;clear hB hA HZ;go_enter Tryz.func59,Tryz.ntmps59
 go_wp2_with fail
 refine HF.out.mono ?_;rintro e w1 ⟨v1,rfl,hv1,hq1⟩;obtain ⟨va,vc,rfl,_,_⟩:=hv1.form0 (n:=4) rfl;have HV:=Hd hv1;have HQ1:=Hd hq1;have ho0:SOwn w1 w1.heap.size (.slice none 0 0) (T 0):=by rw [h00];exact GOwn.nil _ _ _ _
 have hl0:(T 0).length <= 0:=by rw [h00];exact Nat.le_refl _
 have HO0:=Hd ho0;have HL0:=Hd hl0;obtain ⟨B0,hB0⟩:∃ z,z = w1.heap.size:=⟨_,rfl⟩;have HW:=Hd (show ∀ u,Q w1 u -> B0 <= u.heap.size from fun u hq=>by rw [hB0];exact hq.le);have HW1:=Hd (show w1.heap.size <= B0 from Nat.le_of_eq hB0.symm);have HWM:=Hd (show w.heap.size <= B0 by rw [hB0];exact HQ1.out.le);rw [<- hB0] at HO0;clear hv1 hq1 ho0 hl0 h00 HF hB0;go_wp2_with fail
 go_loopw [3,9] (fun al i wr=>∃ k:Nat,i = .int .i64 k /\ k <= 4 /\ SOwn wr B0 al (T k) /\ Hid ((T k).length <= k * 1000000) /\ Q w1 wr) (fun _ i _=>4 - (intOf i).toNat)
 case atStart=>exact ⟨0,rfl,by omega,HO0.out,Hd (by have:=HL0.out;omega),Q.refl _⟩
 case round =>
  obtain ⟨k,rfl,hk,ho,HK,hq⟩:=hrel;by_cases hlt:k < 4
  ·have hlti:(k:Int) < 4:=by omega
   obtain ⟨x,hx⟩:∃ x,[a,b,c,d][k]? = some x:=⟨_,List.getElem?_eq_getElem (by simpa using hlt)⟩;obtain ⟨gg,off,cp',hvv,hg,_,_,c1⟩:=(HV.out.q hq).cellOf (n:=4) rfl hx;cases hvv;obtain ⟨A,hA,hm,hvx⟩:=aff_at (HB.out.q (HQ1.out.trans hq)) hx;have hts:=HN.out k A hA;have HTK:=Hd (show T (k + 1) = T k ++ pcs (Lm.bs (Lm.atx r A)) from hts);have ht:=HT.out wr x A (HQ1.out.trans hq) hvx hm;have hs:=fun u=>HS.out u A hm;have hpl:=HL.out A hm;obtain ⟨xa,xc,rfl⟩:=hvx.shape;generalize pcs (Lm.bs (Lm.atx r A)) = PS at *;generalize Lm.bs (Lm.atx r A) = S at *;generalize A.length = m at *;have HPL:=Hd hpl;obtain ⟨tk,htk⟩:∃ t,t = (T k).length:=⟨_,rfl⟩;have HTL:=Hd htk;obtain ⟨aa,ac,rfl,_,_⟩:=ho.lst.form0 htk.symm;have HO:=Hd ho;clear hx hA hm hvx hts hpl ho htk;simp only [id] at c1;go_wp2_with fail
   refine ht.mono ?_;rintro e w2 ⟨rfl,hq2⟩;go_wp2_with fail
   refine (hs _).mono ?_;rintro e w3 ⟨v3,rfl,hv3,hq3⟩;obtain ⟨pl,hpl⟩:∃ t,t = PS.length:=⟨_,rfl⟩;obtain ⟨wa,wc,rfl,_,_⟩:=hv3.lst.form0 hpl.symm;have HO3:=Hd (HO.out.q (hq2.trans hq3));have HV3:=Hd hv3.lst;have HQ3:=Hd (hq.trans (hq2.trans hq3));clear hv3 hpl;have hlen:(T k).length + PS.length < 1099511627776:=by have h1:=HK.out;have h2:=HPL.out;omega
   have hB3:=HW.out _ HQ3.out;go_wp2_with (at_builtin;refine gpushl elemS oneS HO3.out HV3.out rfl _ _ rfl (by rfl) (by rfl) hlen hB3 ?_)
   intro v' w4 ho4 hg4 hat4;have hq4:=HQ3.out.grown hg4 (fun j h=>Nat.le_trans HW1.out (HO3.out.lt j h).1);have HO4:=Hd ho4;obtain ⟨ba,bc,rfl⟩:=ho4.shape;clear ho4;go_wp2_with fail
   exact ⟨⟨k + 1,by go_num,by omega,by rw [HTK.out];exact HO4.out,Hd (by rw [HTK.out,List.length_append];have h1:=HK.out;have h2:=HPL.out;omega),hq4⟩,by simp [intOf];omega⟩
  ·have hnlt:¬ (k:Int) < 4:=by omega
   obtain rfl:k = 4:=by omega
   obtain ⟨aa,ac,rfl⟩:=ho.shape;have HO:=Hd ho;clear ho;go_wp2_with fail
   go_ret
   refine ⟨_,rfl,?_,HQ1.out.trans hq⟩;exact HO.out.mono HWM.out
end Lo
end
section
open Go.RowKit
namespace Lo
open Um Cm Gm
theorem LstP_of {w:World} {g n cap:Nat} {L:List Value} {l:List Pb.E} (hb:Bk w g 155 L) (hn:l.length = n) (hc:n <= cap) (hm:cap <= maxLen) (hL:L.take (n * 2) = Pb.flat l):Pb.LstP w (.slice (some ⟨g,0,none⟩) n cap) l:=by
 subst hn;refine .inr ⟨g,0,cap,rfl,hb.lt,hc,hm,fun i hi=>?_⟩;obtain ⟨f1,f2⟩:=Pb.flat_get l i hi;rw [<- hL,List.getElem?_take,if_pos (by omega)] at f1 f2;rw [Nat.zero_add];exact ⟨hb.cell _ f1,hb.cell _ f2⟩
theorem size_setCs (g:Nat):∀ (Z:List Value) (o:Nat) (w:World),(w.setCells g o Z).heap.size = w.heap.size
 | [],o,w=>rfl
 | z :: Z,o,w=>by
  show ((w.setCell ⟨g,o,none⟩ z).setCells g (o + 1) Z).heap.size = _;rw [size_setCs g Z (o + 1)];unfold World.setCell;simp
theorem heap_le_setCells (w:World) (g o:Nat) (Z:List Value):w.heap.size <= (w.setCells g o Z).heap.size:=Nat.le_of_eq (size_setCs g Z o w).symm
theorem LstP_set {w:World} {g n cap:Nat} {l:List Pb.E} (h:Pb.LstP w (.slice (some ⟨g,0,none⟩) n cap) l) (Z:List Value):Pb.LstP (w.setCells g (n * 2) Z) (.slice (some ⟨g,0,none⟩) n cap) l:=by
 rcases h with ⟨rfl,a,c,hv,hc,hn⟩ | ⟨g',off,cap',hv,hg,h1,h2,hc⟩
 ·cases hv
  exact .nil _ _ _ hc hn
 ·cases hv
  refine .inr ⟨g,0,cap,rfl,?_,h1,h2,fun i hi=>?_⟩
  ·exact Nat.lt_of_lt_of_le hg (heap_le_setCells w g (l.length * 2) Z)
  ·obtain ⟨c1,c2⟩:=hc i hi
   constructor
   ·rw [World.cell?_setCells_out g Z (l.length * 2) w _ (fun _ _=>.inl (by show 0 + i * 2 < l.length * 2;omega))];exact c1
   ·rw [World.cell?_setCells_out g Z (l.length * 2) w _ (fun _ _=>.inl (by show 0 + i * 2 + 1 < l.length * 2;omega))];exact c2
theorem del_any (g n cap B:Nat) (l:List Pb.E) (w0 w:World) (hq0:Q w0 w) (hB:w0.heap.size <= g) (ho:Pb.OwnE 155 w B (.slice (some ⟨g,0,none⟩) n cap) l) (hn:l.length = n) (hl:n <= 1000) :
  Calls Tryz.prog 139 #[.slice (some ⟨g,0,none⟩) n cap,.func (.func 140) #[] #[]] w fun e w'=>∃ v,e = .returned v /\ Pb.LstP w' v (l.filter keepP) /\ Q w0 w':=by
 have hlst:=ho.lst;rcases ho.2 with ⟨hv,_⟩ | ⟨g',cap',cur,hv,hgB,hh,hnc,hcm,hcs,ht⟩
 ·cases hv
 ·cases hv
  have hbk:Bk w g 155 cur.toList:=by unfold Bk;simpa using hh
  have hlen:cur.toList.length = cap * 2:=by simpa using hcs
  have htk:cur.toList.take (l.length * 2) = Pb.flat l:=ht;generalize cur.toList = L0 at *;clear hn;obtain ⟨n,hn⟩:∃ n,l.length = n:=⟨_,rfl⟩;rw [hn] at hnc hl hlst |-;have HI:=Hd (idxPt _ l w hlst (by omega));have HLS:=Hd hlst;have HBK:=Hd hbk;have HLEN:=Hd hlen;have HTK:=Hd htk;have HN:=Hd hn;have HQ0:=Hd hq0;have HB:=Hd hB;have hcap:cap <= 9223372036854775807:=by unfold maxLen at hcm;omega
  have HCM:=Hd hcm;clear ho hh hcs ht hbk hlen htk hn hq0 hB hlst hcm;go_enter Tryz.func139,Tryz.ntmps139
  go_wp2_with fail
  refine HI.out.mono ?_;rintro e w1 ⟨⟨r,rfl,hr⟩,hq1⟩;rcases hr with ⟨rfl,hall⟩ | ⟨k,rfl,hk,hpre,hdel⟩
  ·have HF:=Hd (show l.filter keepP = l from List.filter_eq_self.2 hall)
   have HL1:=Hd (HLS.out.q hq1);clear hall;go_wp2_with fail
   go_ret
   refine ⟨_,rfl,?_,HQ0.out.trans hq1⟩;rw [HF.out];exact HL1.out
  ·have hkn:k < n:=by have:=HN.out;omega
   have hb1:((k:Int) == -1) = false:=by rw [beq_eq_false_iff_ne];omega
   have HK0:=Hd (KI.start hk HTK.out hpre hdel);have HBK1:=Hd (HBK.out.q hq1);have HQ1:=Hd (HQ0.out.trans hq1);clear hk hpre hdel hq1;go_wp2_with fail
   go_loopw [5,6] (fun vi vj wr=>∃ (i j:Nat) (L:List Value),vi = .int .i64 i /\ vj = .int .i64 j /\ i < j /\ j <= n /\ Hid (KI l L0 i j L) /\ Bk wr g 155 L /\ Q w0 wr) (fun _ j _=>n - (intOf j).toNat)
   case atStart=>exact ⟨k,k + 1,L0,rfl,by go_num,by omega,by omega,HK0,HBK1.out,HQ1.out⟩
   case round =>
    obtain ⟨i,j,L,rfl,rfl,hij,hj,HK,hbk,hq⟩:=hrel;have HBW:=Hd hbk;by_cases hlt:j < n
    ·have hlti:(j:Int) < (n:Int):=by omega
     have hjl:j < l.length:=by have:=HN.out;omega
     obtain ⟨e1,e2⟩:=HK.out.cells hjl HTK.out;have c1:=hbk.cell _ e1;have c2:=hbk.cell _ e2;have HJL:=Hd hjl;obtain ⟨p,hp⟩:∃ p,p = l.getD j (false,[]):=⟨_,rfl⟩;have HP:=Hd hp;rw [<- hp] at c1 c2;obtain ⟨pb,pt⟩:=p;unfold Pb.txt at c2;simp only at c1 c2;clear e1 e2 hjl hp hbk;have hin:i < n:=by omega
     have hini:(i:Int) < (n:Int):=by omega
     have hq2:=hq.alloc (.cells #[.bool pb,.string ⟨pt.toArray⟩] 155);have hc:=part1_any pb pt (wr.alloc (.cells #[.bool pb,.string ⟨pt.toArray⟩] 155));have HQ2:=Hd hq2;have HBW2:=Hd (HBW.out.q ((Q.refl wr).alloc (.cells #[.bool pb,.string ⟨pt.toArray⟩] 155)));have HV2:=Hd (Bk.new wr 155 [.bool pb,.string ⟨pt.toArray⟩]);have HGW:=Hd (show g < wr.heap.size from HBW.out.lt);clear hq2;cases hkp:keepP (pb,pt) with
     | true =>
      rw [hkp] at hc;have HC:=Hd hc;have HKP:=Hd (show keepP (l.getD j (false,[])) = true by rw [<- HP.out];exact hkp);clear hc hkp;have HPT:Hid (Pb.txt pt = .string ⟨pt.toArray⟩):=Hd rfl;generalize (⟨pt.toArray⟩:ByteArray) = T at *;go_wp2_with fail
      refine HC.out.mono ?_;rintro e w3 ⟨rfl,hq3⟩;have hb3:=HBW2.out.q hq3;have hL:=HK.out.len;have hLL:=HLEN.out;obtain ⟨x1,hx1⟩:∃ x,L[i * 2]? = some x:=⟨_,List.getElem?_eq_getElem (by omega)⟩;obtain ⟨x2,hx2⟩:∃ x,L[i * 2 + 1]? = some x:=⟨_,List.getElem?_eq_getElem (by omega)⟩;have d1:=hb3.cell _ hx1;have d2:=hb3.cell _ hx2;have f1:=hb3.free (i * 2);have f2:=hb3.free (i * 2 + 1);have v1:=(HV2.out.q hq3).cell 0 rfl;have v2:=(HV2.out.q hq3).cell 1 rfl;have HB3:=Hd ((hb3.set (i * 2) (.bool pb)).set (i * 2 + 1) (.string T));have HQ3:=Hd (Q.setCell (Q.setCell (HQ2.out.trans hq3) (ad:=⟨g,i * 2,none⟩) HB.out (.bool pb)) (ad:=⟨g,i * 2 + 1,none⟩) HB.out (.string T));have HK3:=Hd (HK.out.put HJL.out (by have:=HN.out;omega) HKP.out);rw [<- HP.out] at HK3;simp only [HPT.out] at HK3;clear hb3 hx1 hx2 hL hLL;go_wp2_with fail
      exact ⟨⟨i + 1,j + 1,_,by go_num,by go_num,by omega,by omega,HK3,HB3.out,HQ3.out⟩,by simp [intOf];omega⟩
     | false =>
      rw [hkp] at hc;have HC:=Hd hc;have HKP:=Hd (show keepP (l.getD j (false,[])) = false by rw [<- HP.out];exact hkp);clear hc hkp;generalize (⟨pt.toArray⟩:ByteArray) = T at *;go_wp2_with fail
      refine HC.out.mono ?_;rintro e w3 ⟨rfl,hq3⟩;go_wp2_with fail
      exact ⟨⟨i,j + 1,L,by first | trivial | rfl,by go_num,by omega,by omega,Hd (HK.out.skip HJL.out HKP.out),HBW2.out.q hq3,HQ2.out.trans hq3⟩,by simp [intOf];omega⟩
    ·have hnlt:¬ (j:Int) < (n:Int):=by omega
     obtain rfl:j = n:=by omega
     have hin:i < j:=hij;have hini:(i:Int) <= (j:Int):=by omega
     have hin2:i <= j:=by omega
     have hic:i <= cap:=by omega
     have hjc:j <= cap:=hnc;have hL:=HK.out.len;have hLL:=HLEN.out;have hfull:l.take j = l:=List.take_of_length_le (by have:=HN.out;omega);have hcl:∀ ty,(Builtin.clear_ #[110] ty #[.slice (some ⟨g,i * 2,none⟩) (j - i) (cap - i)]).run Tryz.prog wr = .ok (.tuple #[]) (wr.setCells g (i * 2) (Builtin.zeroCells #[.bool false,.string ByteArray.empty] (j - i)).toList):=fun ty =>
      clear_pt wr ty g (i * 2) (j - i) (cap - i) (by omega) (fun t ht=>by
       have:i * 2 + t < L.length:=by omega
       rw [HBW.out.cell (i * 2 + t) (List.getElem?_eq_getElem this)];rfl) (fun t ht=>HBW.out.free _)
     have HQF:=Hd (show Q w0 (wr.setCells g (i * 2) (Builtin.zeroCells #[.bool false,.string ByteArray.empty] (j - i)).toList) from below_setCells HB.out _ _ _ hq);have HLF:=Hd (show Pb.LstP (wr.setCells g (i * 2) (Builtin.zeroCells #[.bool false,.string ByteArray.empty] (j - i)).toList) (.slice (some ⟨g,0,none⟩) i cap) (l.filter keepP) by
      have h1:=LstP_of (cap:=cap) HBW.out HK.out.cnt hic HCM.out HK.out.pre;rw [hfull] at h1;exact LstP_set h1 _)
     generalize wr.setCells g (i * 2) (Builtin.zeroCells #[.bool false,.string ByteArray.empty] (j - i)).toList = wf at *;clear hL hLL hfull hbk hq;go_wp2_with fail
     go_ret
     exact ⟨_,rfl,HLF.out,HQF.out⟩
end Lo
end
section
open Go.RowKit
namespace Pr
open Pt Um
theorem kind4 {c:Int} (h:kindC c = 4):∃ b:UInt8,encL c = [b] /\ ((b.toNat:Nat):Int) = c:=by
 have hc:c = 35 \/ c = 48 \/ c = 44 \/ c = 46:=by
  unfold kindC at h;split at h
  ·cases h
  ·split at h
   ·cases h
   ·split at h
    ·cases h
    ·split at h
     ·assumption
     ·split at h
      ·cases h
      ·split at h <;> cases h
 rcases hc with rfl | rfl | rfl | rfl
 ·exact ⟨35,by decide +kernel,by decide⟩
 ·exact ⟨48,by decide +kernel,by decide⟩
 ·exact ⟨44,by decide +kernel,by decide⟩
 ·exact ⟨46,by decide +kernel,by decide⟩
theorem sgnOk_cons {x:Int × Int} {l:List (Int × Int)} (h:x.1 = 4 -> ∃ b:UInt8,encL x.2 = [b] /\ ((b.toNat:Nat):Int) = x.2) (hl:sgnOk l):sgnOk (x :: l):=by
 intro y hy;rcases List.mem_cons.1 hy with rfl | hy
 ·exact h
 ·exact hl y hy
theorem tok_ok (cs:List Int):∀ (q p:Bool) (l:List (Int × Int)),tokS q p cs = some l -> sgnOk l /\ l.length <= cs.length:=by
 induction cs with
 | nil =>
  intro q p l h;simp only [tokS] at h;split at h
  ·cases h
  ·cases h;exact ⟨fun x hx=>absurd hx List.not_mem_nil,Nat.le_refl _⟩
 | cons c r ih =>
  intro q p l h;rw [tokS_cons] at h;split at h
  ·split at h
   ·obtain ⟨m,hm,rfl⟩:=Option.map_eq_some_iff.1 h
    obtain ⟨h1,h2⟩:=ih _ _ _ hm;exact ⟨sgnOk_cons (fun h=>by cases h) h1,by simp;omega⟩
   ·obtain ⟨h1,h2⟩:=ih _ _ _ h
    exact ⟨h1,by simp;omega⟩
  ·split at h
   ·obtain ⟨m,hm,rfl⟩:=Option.map_eq_some_iff.1 h
    obtain ⟨h1,h2⟩:=ih _ _ _ hm;exact ⟨sgnOk_cons (fun h=>by cases h) h1,by simp;omega⟩
   ·split at h
    ·cases h
    ·obtain ⟨m,hm,rfl⟩:=Option.map_eq_some_iff.1 h
     obtain ⟨h1,h2⟩:=ih _ _ _ hm;exact ⟨sgnOk_cons kind4 h1,by simp;omega⟩
theorem Parse_all (s:ByteArray) (w:World) (hs:s.size <= 100000) :
  Calls Tryz.prog 82 #[.string s] w fun e w'=>∃ v,e = .returned (.tuple #[v,.int .i64 (parseC (allL s.data.toList)).2]) /\ PV w' v (parseC (allL s.data.toList)).1 /\ Q w w':=by
 cases h:tkn (allL s.data.toList) with
 | none =>
  have e:parseC (allL s.data.toList) = (pat0,2):=by unfold parseC;rw [h]
  rw [e];exact Parse_no s w hs h
 | some l =>
  have e:parseC (allL s.data.toList) = parseT l:=by unfold parseC;rw [h]
  rw [e];obtain ⟨h1,h2⟩:=tok_ok _ _ _ _ h;have hml:=marks_length s.data.toList;rw [size_list] at hml;have hcl:(allL s.data.toList).length <= 100000:=by unfold allL;simp;omega
  exact Parse_any s l w hs h (Nat.le_trans h2 hcl) h1
end Pr
end
section
open Go.RowKit
namespace Lo
open Um Cm Gm
def mPl:List Pc.E -> Nat -> Int
 | [],_=>-1
 | p :: r,k=>if p = (3,[]) then (k:Int) else mPl r (k + 1)
theorem mPl_at {l:List Pc.E} {k:Nat} (hk:k < l.length):mPl (l.drop k) k = if l.getD k (0,[]) = (3,[]) then (k:Int) else mPl (l.drop (k + 1)) (k + 1):=by
 rw [List.drop_eq_getElem_cons hk];have e:l.getD k (0,[]) = l[k]:=by rw [List.getD_eq_getElem?_getD,List.getElem?_eq_getElem hk];rfl
 rw [e];rfl
theorem minus_any (v:Value) (l:List Pc.E) (w:World) (hv:Pc.LstP w v l) (hx:l.length <= 1000000) (hm:∀ x ∈ l,x.1 = 3 -> x.2 = []) :
  Calls Tryz.prog 138 #[v,.agg #[.int .i64 3,.string ⟨#[]⟩]] w fun e w'=>e = .returned (.int .i64 (mPl l 0)) /\ Q w w':=by
 obtain ⟨n,hn⟩:∃ n,n = l.length:=⟨_,rfl⟩;have HN:=Hd hn;have HV:=Hd hv;have HM:=Hd hm;obtain ⟨a,cp,rfl,hc1,hc2⟩:=hv.form0 hn.symm;rw [<- hn] at hx;obtain ⟨R,hR⟩:∃ R,R = mPl l 0:=⟨_,rfl⟩;have HR:=Hd (show R = mPl (l.drop 0) 0 by rw [hR];rfl);rw [<- hR];obtain ⟨z,hz⟩:∃ z,z = w.alloc (.cells #[.int .i64 3,.string ⟨#[]⟩] 193):=⟨_,rfl⟩;have HQZ:=Hd (show Q w z by rw [hz];exact (Q.refl w).alloc _);have HBZ:=Hd (show Bk z w.heap.size 193 [.int .i64 3,.string ⟨#[]⟩] by rw [hz];exact Bk.new _ _ _);clear hn hv hR hm;go_enter Tryz.func138,Tryz.ntmps138
 go_wp2_with fail
 rw [<- hz];clear hz;generalize w.heap.size = bz at *;go_loopw [8] (fun i wr=>∃ k:Nat,i = .int .i64 k /\ k <= n /\ Hid (R = mPl (l.drop k) k) /\ Q z wr) (fun i _=>n - (intOf i).toNat)
 case atStart=>exact ⟨0,rfl,by omega,HR,Q.refl _⟩
 case round =>
  obtain ⟨k,rfl,hk,HK,hq⟩:=hrel;have HQ:=Hd hq;by_cases hlt:k < n
  ·have hlti:(k:Int) < (n:Int):=by omega
   have hkl:k < l.length:=by have:=HN.out;omega
   obtain ⟨g,off,cap,hvv,hg,_,_,c1,c2⟩:=(HV.out.q (HQZ.out.trans hq)).cellOf HN.out.symm hlt;cases hvv;have hb:=HBZ.out.q hq;have b0:=hb.cell 0 rfl;have b1:=hb.cell 1 rfl;have hp:=mPl_at hkl;have hmm:(l.getD k (0,[])).1 = 3 -> (l.getD k (0,[])).2 = []:=HM.out _ (by rw [List.getD_eq_getElem?_getD,List.getElem?_eq_getElem hkl];exact List.getElem_mem _);have hKR:=HK.out;rw [hp] at hKR;unfold Pc.txt at c2;obtain ⟨x,hxg⟩:∃ x,x = l.getD k (0,[]):=⟨_,rfl⟩;rw [<- hxg] at c1 c2 hKR hmm;obtain ⟨xk,xt⟩:=x;simp only at c1 c2 hmm;clear hp hxg hb hkl hq;by_cases h3:xk = 3
   ·subst h3
    have hxt:=hmm rfl;subst hxt;have HF:=Hd (show R = k by rw [hKR];exact if_pos rfl);have h1:(⟨([]:List UInt8).toArray⟩:ByteArray) = ⟨#[]⟩:=rfl;rw [h1] at c2;have h2:((⟨#[]⟩:ByteArray).toList == (⟨#[]⟩:ByteArray).toList) = true:=by simp
    clear hKR hmm h1;go_wp2_with fail
    go_quiet (fail)
    go_wp2_with fail
    go_ret
    rw [HF.out];exact ⟨rfl,HQZ.out.trans (HQ.out.drewN _)⟩
   ·have HF:=Hd (show R = mPl (l.drop (k + 1)) (k + 1) by rw [hKR];exact if_neg (fun e=>h3 (congrArg Prod.fst e)))
    have h3b:(xk == 3) = false:=beq_eq_false_iff_ne.2 h3;have h3c:((3:Int) == xk) = false:=by rw [beq_eq_false_iff_ne];exact fun e=>h3 e.symm
    generalize (⟨xt.toArray⟩:ByteArray) = T at *;clear hKR hmm h3;go_wp2_with fail
    go_quiet (fail)
    go_wp2_with fail
    exact ⟨⟨k + 1,by go_num,by omega,HF,HQ.out.drewN _⟩,by simp [intOf];omega⟩
  ·have hnlt:¬ (k:Int) < (n:Int):=by omega
   have HF:=Hd (show R = -1 by rw [HK.out,List.drop_eq_nil_of_le (by have:=HN.out;omega)];rfl);go_wp2_with fail
   go_ret
   rw [HF.out];exact ⟨rfl,HQZ.out.trans HQ.out⟩
end Lo
end
end Go.Proofs.YtdjhkbholijnmaaGreatDoor
