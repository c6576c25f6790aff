/- What a locale shows of a draft is read as its sign and its atoms. (and more) -/
import Derived.Test.YteggfkbnnmpcjaaGreatDoorR54
set_option linter.all false
set_option maxRecDepth 100000
set_option maxHeartbeats 8000000
namespace Go.Proofs.YteggfkbnnmpcjaaGreatDoor
section
open Go.RowKit
namespace Ps
open Um Cm Gm Im Lo Sx Tm
theorem law_shown (g0 g1 g2 g3 g4 g5 n:Int) (dg ds:Bool) (e1 e2:Option Addr) (m1 m2 f1 f2:Nat) (DI DF:List Int) (w:World) (h0:-9223372036854775808 <= g0 /\ g0 <= 9223372036854775807) (h1:-9223372036854775808 <= g1 /\ g1 <= 9223372036854775807) (h2:-9223372036854775808 <= g2 /\ g2 <= 9223372036854775807) (h3:-9223372036854775808 <= g3 /\ g3 <= 9223372036854775807) (h4:-9223372036854775808 <= g4 /\ g4 <= 9223372036854775807) (h5:-9223372036854775808 <= g5 /\ g5 <= 9223372036854775807) (hn:-9223372036854775808 <= n /\ n <= 9223372036854775807) (hi:Lst w (.slice e1 m1 f1) DI) (hf:Lst w (.slice e2 m2 f2) DF) (q1:DI.length = m1) (q2:DF.length = m2) (bi:∀ n ∈ DI,-9223372036854775808 <= n /\ n <= 9223372036854775807) (bf:∀ n ∈ DF,-9223372036854775808 <= n /\ n <= 9223372036854775807) :
  Calls Tryz.prog 4 #[.agg #[.int .i64 g0,.int .i64 g1,.int .i64 g2,.int .i64 g3,.int .i64 g4,.int .i64 g5],.int .i64 n,.agg #[.bool dg,.slice e1 m1 f1,.bool ds,.slice e2 m2 f2]] w fun e w'=>e = .returned (.bool true) /\ Q w w':=by
 have HBE:=Hd (fun u=>Ps.begin_any g0 g1 g2 g3 g4 g5 n u h0 h1 h2 h3 h4 h5 hn);have hic:=hi.form0 q1;obtain ⟨_,_,hv,hnc,hcm⟩:=hic;cases hv;have hfc:=hf.form0 q2;obtain ⟨_,_,hv,hnf,hfm⟩:=hfc;cases hv;unfold maxLen at hcm hfm;have HGD:=Hd (fun u (q:Q w u)=>Tr.good_any dg ds e1 e2 m1 m2 f1 f2 DI DF u (hi.q q) (hf.q q) q1 q2 (by omega) (by omega) bi bf 10 5 (by omega) (by omega));have hgm:=Tm.gdT_may dg ds DI DF 10 5;have hgl:=Tm.gdT_len dg ds DI DF 10 5;generalize Tm.gdT dg ds DI DF 10 5 = D0 at *;obtain ⟨tg,TI,ts,TF⟩:=D0;dsimp only at hgl;have HGM:=Hd hgm;obtain ⟨k1,hk1⟩:∃ k,k = TI.length:=⟨_,rfl⟩;obtain ⟨k2,hk2⟩:∃ k,k = TF.length:=⟨_,rfl⟩;rw [<- hk1,<- hk2] at hgl;have HK1:=Hd hk1.symm;have HK2:=Hd hk2.symm;obtain ⟨hb1,hb2⟩:=hgl;clear hgm hk1 hk2;clear hi hf q1 q2 bi bf h0 h1 h2 h3 h4 h5 hn hnc hcm hnf hfm;obtain ⟨y0,hy0⟩:∃ z,z = w.alloc (.cells #[.int .i64 g0,.int .i64 g1,.int .i64 g2,.int .i64 g3,.int .i64 g4,.int .i64 g5] 23):=⟨_,rfl⟩;have hq0:Q w y0:=by rw [hy0];exact (Q.refl _).alloc _
 have hs0:y0.heap.size = w.heap.size + 1:=by rw [hy0];simp
 have hc0:Bk y0 w.heap.size 23 [.int .i64 g0,.int .i64 g1,.int .i64 g2,.int .i64 g3,.int .i64 g4,.int .i64 g5]:=by rw [hy0];exact Bk.new _ _ _
 obtain ⟨y1,hy1⟩:∃ z,z = y0.alloc (.cells #[.bool dg,.slice e1 m1 f1,.bool ds,.slice e2 m2 f2] 43):=⟨_,rfl⟩;have hq1:Q y0 y1:=by rw [hy1];exact (Q.refl _).alloc _
 have hs1:y1.heap.size = w.heap.size + 2:=by rw [hy1];simp;omega
 have hc1:Bk y1 y0.heap.size 43 [.bool dg,.slice e1 m1 f1,.bool ds,.slice e2 m2 f2]:=by rw [hy1];exact Bk.new _ _ _
 rw [hs0] at hc1;have HQ:=Hd (hq0.trans hq1);have HGX:=Hd (hc0.q hq1);have HDX:=Hd hc1;have hz2:y1 = (w.alloc (.cells #[.int .i64 g0,.int .i64 g1,.int .i64 g2,.int .i64 g3,.int .i64 g4,.int .i64 g5] 23)).alloc (.cells #[.bool dg,.slice e1 m1 f1,.bool ds,.slice e2 m2 f2] 43):=by rw [hy1,hy0]
 obtain ⟨bG,hbbG⟩:∃ k,k = w.heap.size:=⟨_,rfl⟩;obtain ⟨bD,hbbD⟩:∃ k,k = w.heap.size + 1:=⟨_,rfl⟩;clear hq0 hs0 hc0 hy0 hq1 hs1 hc1 hy1;go_enter Tryz.func4,Tryz.ntmps4
 go_upto_region 1 with fail
 rw [<- hz2,<- hbbD,<- hbbG];rw [<- hbbG] at HGX;rw [<- hbbD] at HDX;clear hz2 hbbG hbbD;have xHGX0:=HGX.out.cell 0 rfl;have xHGX1:=HGX.out.cell 1 rfl;have xHGX2:=HGX.out.cell 2 rfl;have xHGX3:=HGX.out.cell 3 rfl;have xHGX4:=HGX.out.cell 4 rfl;have xHGX5:=HGX.out.cell 5 rfl;go_wp2_with fail
 clear xHGX0 xHGX1 xHGX2 xHGX3 xHGX4 xHGX5;clear HGX;refine (HBE.out _).mono ?_;rintro e w1 ⟨r,X,pv,vv,hok,rfl,⟨g,pa,pb,pc,pd,pcl,rfl,hpl,hsl⟩,⟨la,lb,lc,ld,rfl,hrl⟩,hq⟩;have HOK:=Hd hok.lok;have HPO:=Hd hok;obtain ⟨a1,a2,rfl⟩:=hrl.1.shape;obtain ⟨b1,b2,rfl⟩:=hrl.2.1.shape;obtain ⟨c1,c2,rfl⟩:=hrl.2.2.1.shape;obtain ⟨d1,d2,rfl⟩:=hrl.2.2.2.shape;have HCF:=Hd (show (Lm.clus r X).length <= 1073741824 from Nat.le_trans (Lo.clus_len hok.lok.ok) (by omega));have HRE:=Hd (fun u (q:Q w1 u) s hs=>Ps.read_any g r X pa pb pc pd pcl s u (hpl.q q) (hsl.q q) (HCF.out) hs);have HTX:=Hd (fun u (q:Q w1 u) A B e1 e2 m1 m2 f1 f2 I F hi hf k1 k2 l1 l2 hm=>Rs.text_any r X _ _ _ _ A B e1 e2 m1 m2 f1 f2 I F u hok.lok (hrl.q q) hi hf k1 k2 l1 l2 hm);replace HQ:=Hd (Q.trans HQ.out hq);replace HDX:=Hd (Bk.q HDX.out hq);clear hq hpl hsl hrl hok HBE;have HQ1:=Hd (Q.refl w1);obtain ⟨u1,hwu1⟩:∃ z,z = w1.alloc (.cells #[.string (Lm.bs r.nam),.string (Lm.bs r.pat),.string (Lm.bs r.sys),.string (Lm.bs r.dec),.string (Lm.bs r.grp),.string (Lm.bs r.min),.string (Lm.bs r.per),.string (Lm.bs r.cur),.slice a1 X.pre.length a2,.slice b1 X.suf.length b2,.slice c1 X.npre.length c2,.slice d1 X.nsuf.length d2,.int .i64 X.pr,.int .i64 X.se,.int .i64 X.mi,.int .i64 X.mf,.int .i64 X.xf] 31):=⟨_,rfl⟩;have hq:Q w1 u1:=by rw [hwu1];exact (Q.refl _).alloc _
 have HLX:=Hd (show Bk u1 w1.heap.size 31 [.string (Lm.bs r.nam),.string (Lm.bs r.pat),.string (Lm.bs r.sys),.string (Lm.bs r.dec),.string (Lm.bs r.grp),.string (Lm.bs r.min),.string (Lm.bs r.per),.string (Lm.bs r.cur),.slice a1 X.pre.length a2,.slice b1 X.suf.length b2,.slice c1 X.npre.length c2,.slice d1 X.nsuf.length d2,.int .i64 X.pr,.int .i64 X.se,.int .i64 X.mi,.int .i64 X.mf,.int .i64 X.xf] by rw [hwu1];exact Bk.new _ _ _);obtain ⟨bL,hbbL⟩:∃ k,k = w1.heap.size:=⟨_,rfl⟩;rw [<- hbbL] at HLX;replace HQ:=Hd (Q.trans HQ.out hq);replace HDX:=Hd (Bk.q HDX.out hq);replace HQ1:=Hd (Q.trans HQ1.out hq);clear hq;go_upto_region 2 with fail
 unfold Ro.lV;rw [<- hwu1,<- hbbL];clear hwu1 hbbL;have xHDX0:=HDX.out.cell 0 rfl;have xHDX1:=HDX.out.cell 1 rfl;have xHDX2:=HDX.out.cell 2 rfl;have xHDX3:=HDX.out.cell 3 rfl;go_wp2_with fail
 clear xHDX0 xHDX1 xHDX2 xHDX3;refine (HGD.out _ HQ.out).mono ?_;rintro e u2 ⟨x,rfl,hx3,hq⟩;obtain ⟨i1,j1,i2,j2,rfl,hli,hlf⟩:=hx3;dsimp only at hli hlf;rw [HK1.out] at hli;rw [HK2.out] at hlf;have HLI:=Hd hli.lst;have HLF:=Hd hlf.lst;clear hli hlf;replace HQ:=Hd (Q.trans HQ.out hq);replace HDX:=Hd (Bk.q HDX.out hq);replace HQ1:=Hd (Q.trans HQ1.out hq);replace HLX:=Hd (Bk.q HLX.out hq);clear hq;obtain ⟨u3,hwu3⟩:∃ z,z = u2.alloc (.cells #[.bool tg,.slice i1 k1 j1,.bool ts,.slice i2 k2 j2] 43):=⟨_,rfl⟩;have hq:Q u2 u3:=by rw [hwu3];exact (Q.refl _).alloc _
 have HOX:=Hd (show Bk u3 u2.heap.size 43 [.bool tg,.slice i1 k1 j1,.bool ts,.slice i2 k2 j2] by rw [hwu3];exact Bk.new _ _ _);obtain ⟨bO,hbbO⟩:∃ k,k = u2.heap.size:=⟨_,rfl⟩;rw [<- hbbO] at HOX;replace HQ:=Hd (Q.trans HQ.out hq);replace HDX:=Hd (Bk.q HDX.out hq);replace HQ1:=Hd (Q.trans HQ1.out hq);replace HLX:=Hd (Bk.q HLX.out hq);replace HLI:=Hd (Lst.q HLI.out hq);replace HLF:=Hd (Lst.q HLF.out hq);clear hq;go_upto_region 5 with fail
 try rw [HK1.out,HK2.out]
 rw [<- hwu3,<- hbbO];clear hwu3 hbbO;clear HDX;clear HGD;have xHOX0:=HOX.out.cell 0 rfl;have xHOX1:=HOX.out.cell 1 rfl;have xHOX2:=HOX.out.cell 2 rfl;have xHOX3:=HOX.out.cell 3 rfl;go_wp2_with (refine wpList_load_row (by rfl) 43 _ (by rfl) bO (by rfl) 43 #[.bool tg,.slice i1 k1 j1,.bool ts,.slice i2 k2 j2] (0,0) _ HOX.out Tryz.underlying43 rfl (by exact Rs.infoD) ?_)
 clear xHOX0 xHOX1 xHOX2 xHOX3;refine (Tr.atoms_any tg ts i1 i2 k1 k2 j1 j2 TI TF _ HLI.out HLF.out HK1.out HK2.out (by omega) (by omega)).mono ?_;rintro e u4 ⟨av,ac,rfl,hov,hq⟩;have HAV:=Hd hov.lst;have HCL:=Hd (Ps.clip_tx HOK.out HPO.out.fine (d:=⟨tg,TI,ts,TF⟩) HGM.out (by
  have h:=tx_size HOK.out HGM.out;dsimp only at h;rw [HK1.out,HK2.out] at h;have h5:64 * (2 * k1 + k2 + 7) <= 64 * 64:=Nat.mul_le_mul_left _ (by omega);omega))
 have HAT:=Hd (show Tm.ats ⟨tg,TI,ts,TF⟩ = TI ++ sep ts ++ TF from rfl);rw [HAT.out] at HCL;have HAN:=Hd (show (TI ++ sep ts ++ TF).length = k1 + (sep ts).length + k2 by simp [HK1.out,HK2.out];try omega);have HAB:=Hd (show k1 + (sep ts).length + k2 <= 1000 by have:(sep ts).length <= 1:=(by cases ts <;> decide);omega)
 have HTS:=Hd (show (tx r X ⟨tg,TI,ts,TF⟩).size <= 4096 by
  have h:=tx_size HOK.out HGM.out;dsimp only at h;rw [HK1.out,HK2.out] at h;have h5:64 * (2 * k1 + k2 + 7) <= 64 * 64:=Nat.mul_le_mul_left _ (by omega);omega)
 clear hov;replace HQ:=Hd (Q.trans HQ.out hq);replace HQ1:=Hd (Q.trans HQ1.out hq);replace HLX:=Hd (Bk.q HLX.out hq);replace HLI:=Hd (Lst.q HLI.out hq);replace HLF:=Hd (Lst.q HLF.out hq);replace HOX:=Hd (Bk.q HOX.out hq);clear hq;generalize k1 + (sep ts).length + k2 = an at *;generalize TI ++ sep ts ++ TF = AT at *;have xHOX0:=HOX.out.cell 0 rfl;have xHOX1:=HOX.out.cell 1 rfl;have xHOX2:=HOX.out.cell 2 rfl;have xHOX3:=HOX.out.cell 3 rfl;go_wp2_with (first | (refine wpList_load_row (by rfl) 31 _ (by rfl) bL (by rfl) 31 #[.string (Lm.bs r.nam),.string (Lm.bs r.pat),.string (Lm.bs r.sys),.string (Lm.bs r.dec),.string (Lm.bs r.grp),.string (Lm.bs r.min),.string (Lm.bs r.per),.string (Lm.bs r.cur),.slice a1 X.pre.length a2,.slice b1 X.suf.length b2,.slice c1 X.npre.length c2,.slice d1 X.nsuf.length d2,.int .i64 X.pr,.int .i64 X.se,.int .i64 X.mi,.int .i64 X.mf,.int .i64 X.xf] (0,0) _ HLX.out Tryz.underlying31 rfl (by exact Ro.infoL) ?_) | (refine wpList_load_row (by rfl) 43 _ (by rfl) bO (by rfl) 43 #[.bool tg,.slice i1 k1 j1,.bool ts,.slice i2 k2 j2] (0,0) _ HOX.out Tryz.underlying43 rfl (by exact Rs.infoD) ?_))
 clear xHOX0 xHOX1 xHOX2 xHOX3;refine (HTX.out _ HQ1.out tg ts i1 i2 k1 k2 j1 j2 TI TF HLI.out HLF.out HK1.out HK2.out (by omega) (by omega) HGM.out).mono ?_;rintro e u5 ⟨rfl,hq⟩;replace HQ:=Hd (Q.trans HQ.out hq);replace HQ1:=Hd (Q.trans HQ1.out hq);replace HLX:=Hd (Bk.q HLX.out hq);replace HLI:=Hd (Lst.q HLI.out hq);replace HLF:=Hd (Lst.q HLF.out hq);replace HOX:=Hd (Bk.q HOX.out hq);replace HAV:=Hd (Lst.q HAV.out hq);clear hq;generalize tx r X ⟨tg,TI,ts,TF⟩ = S at *;go_wp2_with fail
 refine (HRE.out _ HQ1.out S (by have:=HTS.out;omega)).mono ?_;rintro e u6 ⟨cv,rfl,hcv,hq⟩;rw [HCL.out] at hcv |-;have HCV:=Hd hcv;clear hcv;replace HQ:=Hd (Q.trans HQ.out hq);replace HQ1:=Hd (Q.trans HQ1.out hq);replace HLX:=Hd (Bk.q HLX.out hq);replace HLI:=Hd (Lst.q HLI.out hq);replace HLF:=Hd (Lst.q HLF.out hq);replace HOX:=Hd (Bk.q HOX.out hq);replace HAV:=Hd (Lst.q HAV.out hq);clear hq;clear HTX HRE HCL;cases tg with
 | true =>
  by_cases hz:AT = []
  ·have hc:¬ (true = false /\ AT = []):=fun h=>by cases h.1
   rw [if_neg hc] at HCV |-;dsimp only at HCV |-;obtain ⟨ca,cc,rfl,_,_⟩:=HCV.out.form0 HAN.out;obtain ⟨u7,hwu7⟩:∃ z,z = u6.alloc (.cells #[.bool true,.slice ca an cc] 47):=⟨_,rfl⟩;have hq:Q u6 u7:=by rw [hwu7];exact (Q.refl _).alloc _
   have HCX:=Hd (show Bk u7 u6.heap.size 47 [.bool true,.slice ca an cc] by rw [hwu7];exact Bk.new _ _ _);obtain ⟨bC,hbbC⟩:∃ k,k = u6.heap.size:=⟨_,rfl⟩;rw [<- hbbC] at HCX;replace HQ:=Hd (Q.trans HQ.out hq);replace HQ1:=Hd (Q.trans HQ1.out hq);replace HLX:=Hd (Bk.q HLX.out hq);replace HLI:=Hd (Lst.q HLI.out hq);replace HLF:=Hd (Lst.q HLF.out hq);replace HOX:=Hd (Bk.q HOX.out hq);replace HAV:=Hd (Lst.q HAV.out hq);replace HCV:=Hd (Lst.q HCV.out hq);clear hq;go_upto_region 7 with fail
   rw [<- hwu7,<- hbbC];clear hwu7 hbbC;have xHCX0:=HCX.out.cell 0 rfl;have xHCX1:=HCX.out.cell 1 rfl;have xHOX0:=HOX.out.cell 0 rfl;have han:an = 0:=by rw [<- HAN.out,hz];rfl
   subst han;go_wp2_with fail
   refine (Ur.same_any _ _ AT AT _ HCV.out HAV.out (by have:=HAB.out;rw [HAN.out];omega) (by have:=HAB.out;rw [HAN.out];omega)).mono ?_;rintro e uz ⟨rfl,hqs⟩;rw [decide_eq_true rfl];replace HQ:=Hd (HQ.out.trans hqs);clear hqs;go_wp2_with fail
   refine (Ps.lives_any _).mono ?_;rintro e wz ⟨rfl,hqz⟩;have HQZ:=Hd (HQ.out.trans hqz);clear hqz;go_wp2_with fail
   go_ret
   exact ⟨rfl,HQZ.out⟩
  ·have hc:¬ (true = false /\ AT = []):=fun h=>by cases h.1
   rw [if_neg hc] at HCV |-;dsimp only at HCV |-;obtain ⟨ca,cc,rfl,_,_⟩:=HCV.out.form0 HAN.out;obtain ⟨u7,hwu7⟩:∃ z,z = u6.alloc (.cells #[.bool true,.slice ca an cc] 47):=⟨_,rfl⟩;have hq:Q u6 u7:=by rw [hwu7];exact (Q.refl _).alloc _
   have HCX:=Hd (show Bk u7 u6.heap.size 47 [.bool true,.slice ca an cc] by rw [hwu7];exact Bk.new _ _ _);obtain ⟨bC,hbbC⟩:∃ k,k = u6.heap.size:=⟨_,rfl⟩;rw [<- hbbC] at HCX;replace HQ:=Hd (Q.trans HQ.out hq);replace HQ1:=Hd (Q.trans HQ1.out hq);replace HLX:=Hd (Bk.q HLX.out hq);replace HLI:=Hd (Lst.q HLI.out hq);replace HLF:=Hd (Lst.q HLF.out hq);replace HOX:=Hd (Bk.q HOX.out hq);replace HAV:=Hd (Lst.q HAV.out hq);replace HCV:=Hd (Lst.q HCV.out hq);clear hq;go_upto_region 7 with fail
   rw [<- hwu7,<- hbbC];clear hwu7 hbbC;have xHCX0:=HCX.out.cell 0 rfl;have xHCX1:=HCX.out.cell 1 rfl;have xHOX0:=HOX.out.cell 0 rfl;have han:¬ (an:Int) = 0:=by
    intro e;apply hz;apply List.eq_nil_of_length_eq_zero;rw [HAN.out];omega
   go_wp2_with fail
   refine (Ur.same_any _ _ AT AT _ HCV.out HAV.out (by have:=HAB.out;rw [HAN.out];omega) (by have:=HAB.out;rw [HAN.out];omega)).mono ?_;rintro e uz ⟨rfl,hqs⟩;rw [decide_eq_true rfl];replace HQ:=Hd (HQ.out.trans hqs);clear hqs;go_wp2_with fail
   refine (Ps.lives_any _).mono ?_;rintro e wz ⟨rfl,hqz⟩;have HQZ:=Hd (HQ.out.trans hqz);clear hqz;go_wp2_with fail
   go_ret
   exact ⟨rfl,HQZ.out⟩
 | false =>
  by_cases hz:AT = []
  ·have hc:(false = false /\ AT = []):=⟨rfl,hz⟩
   rw [if_pos hc] at HCV |-;dsimp only at HCV |-;obtain ⟨ca,cc,rfl,_,_⟩:=HCV.out.form0 (n:=0) rfl;obtain ⟨u7,hwu7⟩:∃ z,z = u6.alloc (.cells #[.bool false,.slice ca 0 cc] 47):=⟨_,rfl⟩;have hq:Q u6 u7:=by rw [hwu7];exact (Q.refl _).alloc _
   have HCX:=Hd (show Bk u7 u6.heap.size 47 [.bool false,.slice ca 0 cc] by rw [hwu7];exact Bk.new _ _ _);obtain ⟨bC,hbbC⟩:∃ k,k = u6.heap.size:=⟨_,rfl⟩;rw [<- hbbC] at HCX;replace HQ:=Hd (Q.trans HQ.out hq);replace HQ1:=Hd (Q.trans HQ1.out hq);replace HLX:=Hd (Bk.q HLX.out hq);replace HLI:=Hd (Lst.q HLI.out hq);replace HLF:=Hd (Lst.q HLF.out hq);replace HOX:=Hd (Bk.q HOX.out hq);replace HAV:=Hd (Lst.q HAV.out hq);replace HCV:=Hd (Lst.q HCV.out hq);clear hq;go_upto_region 7 with fail
   rw [<- hwu7,<- hbbC];clear hwu7 hbbC;have xHCX0:=HCX.out.cell 0 rfl;have xHCX1:=HCX.out.cell 1 rfl;have xHOX0:=HOX.out.cell 0 rfl;have han:an = 0:=by rw [<- HAN.out,hz];rfl
   subst han;go_wp2_with fail
   refine (Ps.lives_any _).mono ?_;rintro e wz ⟨rfl,hqz⟩;have HQZ:=Hd (HQ.out.trans hqz);clear hqz;go_wp2_with fail
   go_ret
   exact ⟨rfl,HQZ.out⟩
  ·have hc:¬ (false = false /\ AT = []):=fun h=>hz h.2
   rw [if_neg hc] at HCV |-;dsimp only at HCV |-;obtain ⟨ca,cc,rfl,_,_⟩:=HCV.out.form0 HAN.out;obtain ⟨u7,hwu7⟩:∃ z,z = u6.alloc (.cells #[.bool false,.slice ca an cc] 47):=⟨_,rfl⟩;have hq:Q u6 u7:=by rw [hwu7];exact (Q.refl _).alloc _
   have HCX:=Hd (show Bk u7 u6.heap.size 47 [.bool false,.slice ca an cc] by rw [hwu7];exact Bk.new _ _ _);obtain ⟨bC,hbbC⟩:∃ k,k = u6.heap.size:=⟨_,rfl⟩;rw [<- hbbC] at HCX;replace HQ:=Hd (Q.trans HQ.out hq);replace HQ1:=Hd (Q.trans HQ1.out hq);replace HLX:=Hd (Bk.q HLX.out hq);replace HLI:=Hd (Lst.q HLI.out hq);replace HLF:=Hd (Lst.q HLF.out hq);replace HOX:=Hd (Bk.q HOX.out hq);replace HAV:=Hd (Lst.q HAV.out hq);replace HCV:=Hd (Lst.q HCV.out hq);clear hq;go_upto_region 7 with fail
   rw [<- hwu7,<- hbbC];clear hwu7 hbbC;have xHCX0:=HCX.out.cell 0 rfl;have xHCX1:=HCX.out.cell 1 rfl;have xHOX0:=HOX.out.cell 0 rfl;have han:¬ (an:Int) = 0:=by
    intro e;apply hz;apply List.eq_nil_of_length_eq_zero;rw [HAN.out];omega
   go_wp2_with fail
   refine (Ur.same_any _ _ AT AT _ HCV.out HAV.out (by have:=HAB.out;rw [HAN.out];omega) (by have:=HAB.out;rw [HAN.out];omega)).mono ?_;rintro e uz ⟨rfl,hqs⟩;rw [decide_eq_true rfl];replace HQ:=Hd (HQ.out.trans hqs);clear hqs;go_wp2_with fail
   refine (Ps.lives_any _).mono ?_;rintro e wz ⟨rfl,hqz⟩;have HQZ:=Hd (HQ.out.trans hqz);clear hqz;go_wp2_with fail
   go_ret
   exact ⟨rfl,HQZ.out⟩
end Ps
end
end Go.Proofs.YteggfkbnnmpcjaaGreatDoor
