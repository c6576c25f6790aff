/- The document's own answers on locales: whether an affix has a cluster. (and more) -/
import Derived.Test.YteggfkbnnmpcjaaGreatDoorR45
set_option linter.all false
set_option maxRecDepth 100000
set_option maxHeartbeats 8000000
namespace Go.Proofs.YteggfkbnnmpcjaaGreatDoor
section
open Go.RowKit
namespace Ro
open Um Cm Gm Lo
theorem raff_at {w:World} {X:Pt.Pat} {a b c d:Value} (hL:LL w X a b c d) {k:Nat} {x:Value} (h:[a,b,c,d][k]? = some x):∃ A,(Lm.affs X)[k]? = some A /\ A ∈ Lm.affs X /\ Pc.LstP w x A:=by
 match k,h with
 | 0,h=>simp at h;subst h;exact ⟨X.pre,rfl,by simp [Lm.affs],hL.1⟩
 | 1,h=>simp at h;subst h;exact ⟨X.suf,rfl,by simp [Lm.affs],hL.2.1⟩
 | 2,h=>simp at h;subst h;exact ⟨X.npre,rfl,by simp [Lm.affs],hL.2.2.1⟩
 | 3,h=>simp at h;subst h;exact ⟨X.nsuf,rfl,by simp [Lm.affs],hL.2.2.2⟩
 | k + 4,h=>simp at h
theorem mem_cl (r:Lm.Rec) (X:Pt.Pat) (k:Nat) (A:List Pc.E) (x:ByteArray) (hA:A ∈ Lm.affs X) (h:x ∈ pcs (Lm.bs (Lm.atx r A))):decide (0 <= Lm.plc x (Lm.clus r X) 0) = true:=by
 rw [decide_eq_true_eq,Lm.plc_neg];exact List.mem_flatMap.2 ⟨A,hA,h⟩
theorem raffix_any (r:Lm.Rec) (X:Pt.Pat) (a b c d:Value) (x:ByteArray) (w:World) (hO:Lm.Ok r X) (hL:LL w X a b c d) :
  Calls Tryz.prog 38 #[lV r X a b c d,.string x] w fun e w'=>e = .returned (.bool (decide (0 <= Lm.plc x (Lm.clus r X) 0))) /\ Q w w':=by
 have HAF:=Hd (fun u (hq:Q w u)=>affixes_any X a b c d u (hL.q hq));have HT:=Hd (fun u y A (hq:Q w u) (hv:Pc.LstP u y A) (hm:A ∈ Lm.affs X)=>text_any r y A u hv (by have:=(hO.aff A hm).1;omega) (fun z hz=>((hO.aff A hm).2 z hz).1) (by have:=hO.len A hm;omega));have HS:=Hd (fun u A (hm:A ∈ Lm.affs X)=>Gr.split_any (Lm.bs (Lm.atx r A)) u (by rw [Lm.bs_size];have:=hO.len A hm;omega));have HPL:=Hd (fun A (hm:A ∈ Lm.affs X)=>(show (pcs (Lm.bs (Lm.atx r A))).length <= 64 by
  rw [pcs_length];have h1:=begL_length (Lm.bs (Lm.atx r A)).data.toList;have h2:=hO.len A hm;rw [Lm.bs_list] at h1 |-;omega))
 have HAT:=Hd (fun u (hq:Q w u) (k:Nat) (y:Value) (h:[a,b,c,d][k]? = some y)=>raff_at (hL.q hq) h);have HMC:=Hd (mem_cl r X);have HCT:=Hd (clT_succ r X);have HC4:=Hd (show x ∉ clT r X 4 -> decide (0 <= Lm.plc x (Lm.clus r X) 0) = false from fun h=>by
  rw [decide_eq_false_iff_not,Lm.plc_neg];exact h)
 have HC0:=Hd (show x ∉ clT r X 0 from fun h=>by unfold clT at h;simp at h);obtain ⟨RR,hR⟩:∃ R,R = decide (0 <= Lm.plc x (Lm.clus r X) 0):=⟨_,rfl⟩;rw [<- hR] at HC4 |-;have HRR:=Hd hR;clear hR;generalize clT r X = T at *;obtain ⟨a1,a2,rfl⟩:=hL.1.shape;obtain ⟨b1,b2,rfl⟩:=hL.2.1.shape;obtain ⟨c1,c2,rfl⟩:=hL.2.2.1.shape;obtain ⟨d1,d2,rfl⟩:=hL.2.2.2.shape;clear hL hO;generalize X.pre.length = n1 at *;generalize X.suf.length = n2 at *;generalize X.npre.length = n3 at *;generalize X.nsuf.length = n4 at *;unfold lV;unfold Pr.pv at HAF;unfold recV at HT;generalize X.pr = p0 at *;generalize X.se = p1 at *;generalize X.mi = p2 at *;generalize X.mf = p3 at *;generalize X.xf = p4 at *;generalize Lm.bs r.nam = s0 at *;generalize Lm.bs r.pat = s1 at *;generalize Lm.bs r.sys = s2 at *;generalize Lm.bs r.dec = s3 at *;generalize Lm.bs r.grp = s4 at *;generalize Lm.bs r.min = s5 at *;generalize Lm.bs r.per = s6 at *;generalize Lm.bs r.cur = s7 at *;obtain ⟨z,hz⟩:∃ z,z = w.alloc (.cells #[.string s0,.string s1,.string s2,.string s3,.string s4,.string s5,.string s6,.string s7,.slice a1 n1 a2,.slice b1 n2 b2,.slice c1 n3 c2,.slice d1 n4 d2,.int .i64 p0,.int .i64 p1,.int .i64 p2,.int .i64 p3,.int .i64 p4] 31):=⟨_,rfl⟩;have HQZ:=Hd (show Q w z by rw [hz];exact (Q.refl w).alloc _);have hbz:Bk z w.heap.size 31 [.string s0,.string s1,.string s2,.string s3,.string s4,.string s5,.string s6,.string s7,.slice a1 n1 a2,.slice b1 n2 b2,.slice c1 n3 c2,.slice d1 n4 d2,.int .i64 p0,.int .i64 p1,.int .i64 p2,.int .i64 p3,.int .i64 p4]:=by rw [hz];exact Bk.new _ _ _
 have HBZ:=Hd hbz;go_enter Tryz.func38,Tryz.ntmps38
 go_upto_region 1 with fail
 rw [<- hz];clear hz;generalize w.heap.size = bz at *;have c8:=hbz.cell 8 rfl;have c9:=hbz.cell 9 rfl;have c10:=hbz.cell 10 rfl;have c11:=hbz.cell 11 rfl;have c12:=hbz.cell 12 rfl;have c13:=hbz.cell 13 rfl;have c14:=hbz.cell 14 rfl;have c15:=hbz.cell 15 rfl;have c16:=hbz.cell 16 rfl;clear hbz;go_wp2_with fail
 clear c8 c9 c10 c11 c12 c13 c14 c15 c16;refine (HAF.out _ HQZ.out).mono ?_;rintro e w1 ⟨v1,rfl,hv1,hq1⟩;obtain ⟨va,vc,rfl,_,_⟩:=hv1.form0 (n:=4) rfl;have HV:=Hd hv1;have HQ1:=Hd (HQZ.out.trans hq1);have HB1:=Hd (HBZ.out.q hq1);clear hv1 hq1;go_wp2_with fail
 go_loopw [6] (fun i wr=>∃ k:Nat,i = .int .i64 k /\ k <= 4 /\ Hid (x ∉ T k) /\ Q w1 wr) (fun i _=>4 - (intOf i).toNat)
 case atStart=>exact ⟨0,rfl,by omega,HC0,Q.refl _⟩
 case round =>
  obtain ⟨k,rfl,hk,HK,hq⟩:=hrel;by_cases hlt:k < 4
  ·have HKB:=Hd hlt
   have hlti:(k:Int) < 4:=by omega
   have hk0:¬ (k:Int) < 0:=by omega
   have HQR:=Hd (HQ1.out.trans hq);have HBR:=Hd (HB1.out.q hq);obtain ⟨y,hy⟩:∃ y,([.slice a1 n1 a2,.slice b1 n2 b2,.slice c1 n3 c2,.slice d1 n4 d2]:List Value)[k]? = some y:=⟨_,List.getElem?_eq_getElem (by simpa using hlt)⟩;obtain ⟨gg,off,cp',hvv,hg,_,_,hcv⟩:=(HV.out.q hq).cellOf (n:=4) rfl hy;cases hvv;simp only [id] at hcv;have HCV:=Hd (fun u (hu:Q wr u)=>(show u.cell? ⟨gg,off + k,none⟩ = some y from (World.cell?_of_block (w:=wr) (hu.block hg)).trans hcv));obtain ⟨A,hA,hm,hvx⟩:=HAT.out wr HQR.out k y hy;have ht:=Hd (fun u (hu:Q wr u)=>HT.out u y A (HQR.out.trans hu) (hvx.q hu) hm);have hs:=Hd (fun u=>HS.out u A hm);have HTS:=Hd (HCT.out k A hA);have HFD:=Hd (fun (h:x ∈ pcs (Lm.bs (Lm.atx r A)))=>(show RR = true by rw [HRR.out];exact HMC.out k A x hm h));have hpl:=HPL.out A hm;obtain ⟨xa,xc,rfl⟩:=hvx.shape;generalize pcs (Lm.bs (Lm.atx r A)) = PS at *;generalize Lm.bs (Lm.atx r A) = S at *;generalize A.length = m at *;have HQW:=Hd hq;clear hy hA hm hvx hcv hq;go_upto_region 5 with fail
   refine wp_region_held_drew (S:=fun u=>Q wr u) (by kernel_rfl) (by exact (Q.refl wr).drew) (fun hHeld=>?_);have hS:Q wr wr.drew:=hHeld;clear hHeld;have hq:Q wr wr.drew:=(Q.refl _).drew;clear hq;generalize wr.drew = yR1x0 at *;change wpAnyH _ _ _ _ _ _ #[ff,ff,ff,ff,ff,ff,ff,ff,ff] _ _;refine tk 0 (by simp only [gA,gB,gC];rfl) (by first | kernel_rfl | rfl) (fun uz _=>by go_simp;try with_reducible rfl) pq hS ?_;try simp only [Act.put,sA,sB,sC]
   refine tk 1 (by simp only [gA,gB,gC];rfl) (by first | kernel_rfl | rfl) (fun uz hSw=>by (try dsimp only at hSw);have kb:=HBR.out.q hSw;have k0:=kb.cell 0 rfl;have k1:=kb.cell 1 rfl;have k2:=kb.cell 2 rfl;have k3:=kb.cell 3 rfl;have k4:=kb.cell 4 rfl;have k5:=kb.cell 5 rfl;have k6:=kb.cell 6 rfl;have k7:=kb.cell 7 rfl;have kv:=HCV.out _ hSw;clear kb;go_simp;try with_reducible rfl) pq hS ?_;try simp only [Act.put,sA,sB,sC]
   refine tk 2 (by simp only [gA,gB,gC];rfl) (by first | kernel_rfl | rfl) (fun uz _=>by go_simp;try with_reducible rfl) pq hS ?_;try simp only [Act.put,sA,sB,sC]
   refine tk 3 (by simp only [gA,gB,gC];rfl) (by first | kernel_rfl | rfl) (fun uz _=>by go_simp;try with_reducible rfl) pq hS ?_;try simp only [Act.put,sA,sB,sC]
   refine tk 4 (by simp only [gA,gB,gC];rfl) (by first | kernel_rfl | rfl) (fun uz _=>by go_simp;try with_reducible rfl) pq hS ?_;try simp only [Act.put,sA,sB,sC]
   refine tk 5 (by simp only [gA,gB,gC];rfl) (by first | kernel_rfl | rfl) (fun uz hSw=>by (try dsimp only at hSw);have kb:=HBR.out.q hSw;have k0:=kb.cell 0 rfl;have k1:=kb.cell 1 rfl;have k2:=kb.cell 2 rfl;have k3:=kb.cell 3 rfl;have k4:=kb.cell 4 rfl;have k5:=kb.cell 5 rfl;have k6:=kb.cell 6 rfl;have k7:=kb.cell 7 rfl;have kv:=HCV.out _ hSw;clear kb;go_simp;try with_reducible rfl) pq hS ?_;try simp only [Act.put,sA,sB,sC]
   refine wpAnyH_ready (rs:=[6]) (by kernel_rfl) (by simp) ?_;refine ar rfl fun K hK=>?_;go_simp
   refine (ht.out _ hS).mono ?_;rintro e yR1x7 ⟨rfl,hq⟩;try (go_wp2_with fail)
   have hS2:=Q.trans hS hq;refine hK.out _ _ (by exact hS2) (fun hHeld=>?_);clear hK K hHeld hS hq;have hS:=hS2;clear hS2;try simp only [Act.put,sA,sB,sC]
   refine wpAnyH_ready (rs:=[7]) (by kernel_rfl) (by simp) ?_;refine ar rfl fun K hK=>?_;go_simp
   refine (hs.out _).mono ?_;rintro e yR1x8 ⟨v3,rfl,hv3,hq⟩;have HV3:=Hd hv3.lst;obtain ⟨pl,hpl2⟩:∃ n,n = PS.length:=⟨_,rfl⟩;obtain ⟨wa,wc,rfl,_,_⟩:=hv3.lst.form0 hpl2.symm;have HPL2:=Hd hpl2;clear hv3 hpl2;try (go_wp2_with fail)
   have hS2:=Q.trans hS hq;refine hK.out _ _ (by exact hS2) (fun hHeld=>?_);clear hK K hHeld hS hq;have hS:=hS2;clear hS2;try simp only [Act.put,sA,sB,sC]
   refine tk 8 (by simp only [gA,gB,gC];rfl) (by first | kernel_rfl | rfl) (fun uz _=>by go_simp;try with_reducible rfl) pq hS ?_;try simp only [Act.put,sA,sB,sC]
   refine wpAnyH_done (by kernel_rfl) ?_ _;have HQ5:=Hd (HQR.out.trans hS);have HQ5w:=Hd (HQW.out.trans hS);clear hS;go_wp2_with fail
   go_loopw [8] (fun i wr2=>∃ j:Nat,i = .int .i64 j /\ j <= pl /\ Hid (x ∉ PS.take j) /\ Q yR1x8 wr2) (fun i _=>pl - (intOf i).toNat)
   case atStart=>exact ⟨0,rfl,by omega,Hd (by simp),Q.refl _⟩
   case round =>
    obtain ⟨j,rfl,hj,HJ,hqj⟩:=hrel;have hpb:pl <= 64:=by have:=HPL2.out;omega
    by_cases hltj:j < pl
    ·have hltji:(j:Int) < (pl:Int):=by omega
     obtain ⟨q,hqq⟩:∃ q,PS[j]? = some q:=⟨_,List.getElem?_eq_getElem (by have:=HPL2.out;omega)⟩;obtain ⟨g5,off5,cp5,hv5,hg5,_,_,c5⟩:=(HV3.out.q hqj).cellOf HPL2.out.symm hqq;cases hv5;by_cases hqx:q = x
     ·have HF:=Hd (HFD.out (by rw [<- hqx];exact List.mem_of_getElem? hqq))
      have hb:(q.toList == x.toList) = true:=by rw [hqx];simp
      clear hqx hqq;go_wp2_with fail
      go_ret
      rw [HF.out];exact ⟨rfl,HQ5.out.trans hqj⟩
     ·have hb:=str_ne hqx
      have HN:=Hd (show x ∉ PS.take (j + 1) from fun h=>by
       obtain ⟨hl,e⟩:=List.getElem?_eq_some_iff.1 hqq;rw [List.take_succ_eq_append_getElem hl] at h;rcases List.mem_append.1 h with h | h
       ·exact HJ.out h
       ·rw [List.mem_singleton.1 h] at hqx;exact hqx e.symm)
      clear hqx hqq;go_wp2_with fail
      exact ⟨⟨j + 1,by go_num,by omega,HN,hqj⟩,by simp [intOf];omega⟩
    ·have hnltj:¬ (j:Int) < (pl:Int):=by omega
     have HN:=Hd (show x ∉ T (k + 1) from fun h=>by
      rw [HTS.out] at h;rcases List.mem_append.1 h with h | h
      ·exact HK.out h
      ·have h2:=HJ.out
       rw [List.take_of_length_le (by have:=HPL2.out;omega)] at h2;exact h2 h)
     go_wp2_with fail
     have hkb:=HKB.out;exact ⟨⟨k + 1,by go_num,by omega,HN,HQ5w.out.trans hqj⟩,by simp [intOf];omega⟩
  ·have hnlt:¬ (k:Int) < 4:=by omega
   obtain rfl:k = 4:=by omega
   have HF:=Hd (HC4.out HK.out);go_wp2_with fail
   go_ret
   rw [HF.out];exact ⟨rfl,HQ1.out.trans hq⟩
end Ro
end
end Go.Proofs.YteggfkbnnmpcjaaGreatDoor
