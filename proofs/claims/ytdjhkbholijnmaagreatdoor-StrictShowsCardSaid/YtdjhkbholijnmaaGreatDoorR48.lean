/- What is read is shown so again. (and more) -/
import Derived.Test.YtdjhkbholijnmaaGreatDoorR43
set_option linter.all false
set_option maxRecDepth 100000
set_option maxHeartbeats 8000000
namespace Go.Proofs.YtdjhkbholijnmaaGreatDoor
section
open Go.RowKit
namespace Sp
open Um Cm Gm Im Lo Sx Tm
theorem law_shows (g0 g1 g2 g3 g4 g5 n:Int) (dg ds:Bool) (e1 e2:Option Addr) (m1 m2 f1 f2:Nat) (DI DF:List Int) (s:ByteArray) (w:World) (h0:-9223372036854775808 <= g0 /\ g0 <= 9223372036854775807) (h1:-9223372036854775808 <= g1 /\ g1 <= 9223372036854775807) (h2:-9223372036854775808 <= g2 /\ g2 <= 9223372036854775807) (h3:-9223372036854775808 <= g3 /\ g3 <= 9223372036854775807) (h4:-9223372036854775808 <= g4 /\ g4 <= 9223372036854775807) (h5:-9223372036854775808 <= g5 /\ g5 <= 9223372036854775807) (hn:-9223372036854775808 <= n /\ n <= 9223372036854775807) (hi:Lst w (.slice e1 m1 f1) DI) (hf:Lst w (.slice e2 m2 f2) DF) (q1:DI.length = m1) (q2:DF.length = m2) (bi:∀ n ∈ DI,-9223372036854775808 <= n /\ n <= 9223372036854775807) (bf:∀ n ∈ DF,-9223372036854775808 <= n /\ n <= 9223372036854775807) (hs:s.size <= maxLen) :
  Calls Tryz.prog 5 #[.agg #[.int .i64 g0,.int .i64 g1,.int .i64 g2,.int .i64 g3,.int .i64 g4,.int .i64 g5],.int .i64 n,.string s,.agg #[.bool dg,.slice e1 m1 f1,.bool ds,.slice e2 m2 f2]] w fun e w'=>e = .returned (.bool true) /\ Q w w':=by
 have HBE:=Hd (fun u=>Sx.begin_any g0 g1 g2 g3 g4 g5 n u h0 h1 h2 h3 h4 h5 hn);have HFW:=Hd (fun u=>Ur.few_any s 30 u hs (by omega));rw [show ((30:Nat):Int) = 30 from rfl] at HFW;have hts:=Ur.few_size s 30;generalize Ur.few s 30 = t at *;clear hs;have hic:=hi.form0 q1;obtain ⟨_,_,hv,hnc,hcm⟩:=hic;cases hv;have hfc:=hf.form0 q2;obtain ⟨_,_,hv,hnf,hfm⟩:=hfc;cases hv;unfold maxLen at hcm hfm;have HGD:=Hd (fun u (q:Q w u)=>Tr.good_any dg ds e1 e2 m1 m2 f1 f2 DI DF u (hi.q q) (hf.q q) q1 q2 (by omega) (by omega) bi bf 8 4 (by omega) (by omega));have hgm:=Tm.gdT_may dg ds DI DF 8 4;have hgl:=Tm.gdT_len dg ds DI DF 8 4;generalize Tm.gdT dg ds DI DF 8 4 = D0 at *;obtain ⟨tg,TI,ts,TF⟩:=D0;dsimp only at hgl;have HGM:=Hd hgm;obtain ⟨k1,hk1⟩:∃ k,k = TI.length:=⟨_,rfl⟩;obtain ⟨k2,hk2⟩:∃ k,k = TF.length:=⟨_,rfl⟩;rw [<- hk1,<- hk2] at hgl;have HK1:=Hd hk1.symm;have HK2:=Hd hk2.symm;obtain ⟨hb1,hb2⟩:=hgl;clear hgm hk1 hk2;clear hi hf q1 q2 bi bf h0 h1 h2 h3 h4 h5 hn hnc hcm hnf hfm;obtain ⟨y0,hy0⟩:∃ z,z = w.alloc (.cells #[.int .i64 g0,.int .i64 g1,.int .i64 g2,.int .i64 g3,.int .i64 g4,.int .i64 g5] 23):=⟨_,rfl⟩;have hq0:Q w y0:=by rw [hy0];exact (Q.refl _).alloc _
 have hs0:y0.heap.size = w.heap.size + 1:=by rw [hy0];simp
 have hc0:Bk y0 w.heap.size 23 [.int .i64 g0,.int .i64 g1,.int .i64 g2,.int .i64 g3,.int .i64 g4,.int .i64 g5]:=by rw [hy0];exact Bk.new _ _ _
 obtain ⟨y1,hy1⟩:∃ z,z = y0.alloc (.cells #[.bool dg,.slice e1 m1 f1,.bool ds,.slice e2 m2 f2] 26):=⟨_,rfl⟩;have hq1:Q y0 y1:=by rw [hy1];exact (Q.refl _).alloc _
 have hs1:y1.heap.size = w.heap.size + 2:=by rw [hy1];simp;omega
 have hc1:Bk y1 y0.heap.size 26 [.bool dg,.slice e1 m1 f1,.bool ds,.slice e2 m2 f2]:=by rw [hy1];exact Bk.new _ _ _
 rw [hs0] at hc1;have HQ:=Hd (hq0.trans hq1);have HGX:=Hd (hc0.q hq1);have HDX:=Hd hc1;have hz2:y1 = (w.alloc (.cells #[.int .i64 g0,.int .i64 g1,.int .i64 g2,.int .i64 g3,.int .i64 g4,.int .i64 g5] 23)).alloc (.cells #[.bool dg,.slice e1 m1 f1,.bool ds,.slice e2 m2 f2] 26):=by rw [hy1,hy0]
 obtain ⟨bG,hbbG⟩:∃ k,k = w.heap.size:=⟨_,rfl⟩;obtain ⟨bD,hbbD⟩:∃ k,k = w.heap.size + 1:=⟨_,rfl⟩;clear hq0 hs0 hc0 hy0 hq1 hs1 hc1 hy1;go_enter Tryz.func5,Tryz.ntmps5
 go_upto_region 1 with fail
 rw [<- hz2,<- hbbD,<- hbbG];rw [<- hbbG] at HGX;rw [<- hbbD] at HDX;clear hz2 hbbG hbbD;have xHGX0:=HGX.out.cell 0 rfl;have xHGX1:=HGX.out.cell 1 rfl;have xHGX2:=HGX.out.cell 2 rfl;have xHGX3:=HGX.out.cell 3 rfl;have xHGX4:=HGX.out.cell 4 rfl;have xHGX5:=HGX.out.cell 5 rfl;go_wp2_with fail
 clear xHGX0 xHGX1 xHGX2 xHGX3 xHGX4 xHGX5;clear HGX;refine (HBE.out _).mono ?_;rintro e w1 ⟨r,X,pv,vv,hok,rfl,⟨g,pa,pb,pc,pd,pcl,rfl,hpl⟩,⟨la,lb,lc,ld,rfl,hrl⟩,hq⟩;have HOK:=Hd hok;obtain ⟨a1,a2,rfl⟩:=hrl.1.shape;obtain ⟨b1,b2,rfl⟩:=hrl.2.1.shape;obtain ⟨c1,c2,rfl⟩:=hrl.2.2.1.shape;obtain ⟨d1,d2,rfl⟩:=hrl.2.2.2.shape;have HPA:=Hd (fun u (q:Q w1 u) s hs=>Sp.parse_any g r X pa pb pc pd pcl s u hok (hpl.q q) hs);have HRP:=Hd (fun u (q:Q w1 u) t ht=>Rs.parse_any r X _ _ _ _ t u hok (hrl.q q) ht);have HRI:=Hd (fun u (q:Q w1 u) Dg Di Ds Df e1 e2 n1 n2 f1 f2 (hi:Lst u (.slice e1 n1 f1) Di) (hf:Lst u (.slice e2 n2 f2) Df) (k1:Di.length = n1) (k2:Df.length = n2) (l1:n1 <= 5000) (l2:n2 <= 5000) (hm:may ⟨Dg,Di,Ds,Df⟩ = true)=>show Calls Tryz.prog 22 #[.agg #[.string (Lm.bs r.nam),.string (Lm.bs r.pat),.string (Lm.bs r.sys),.string (Lm.bs r.dec),.string (Lm.bs r.grp),.string (Lm.bs r.min),.string (Lm.bs r.per),.string (Lm.bs r.cur),.slice a1 X.pre.length a2,.slice b1 X.suf.length b2,.slice c1 X.npre.length c2,.slice d1 X.nsuf.length d2,.int .i64 X.pr,.int .i64 X.se,.int .i64 X.mi,.int .i64 X.mf,.int .i64 X.xf],.agg #[.bool Dg,.slice e1 n1 f1,.bool Ds,.slice e2 n2 f2]] u fun e w'=>∃ x,e = .returned x /\ OwnI 64 w' u.heap.size x (itd r X ⟨Dg,Di,Ds,Df⟩) /\ Q u w' from It.ritems_big r X _ _ _ _ Dg Ds e1 e2 n1 n2 f1 f2 Di Df u hok.ok (hrl.q q) hi hf k1 k2 (by omega) (by omega) hm hok.pr hok.se.2);have HIT:=Hd (fun u (q:Q w1 u) Dg Di Ds Df e1 e2 n1 n2 f1 f2 (hi:Lst u (.slice e1 n1 f1) Di) (hf:Lst u (.slice e2 n2 f2) Df) (k1:Di.length = n1) (k2:Df.length = n2) (l1:n1 <= 5000) (l2:n2 <= 5000) (hm:may ⟨Dg,Di,Ds,Df⟩ = true)=>show Calls Tryz.prog 25 #[.pointer (some ⟨g,0,none⟩),.agg #[.bool Dg,.slice e1 n1 f1,.bool Ds,.slice e2 n2 f2]] u fun e w'=>∃ x,e = .returned x /\ OwnI 75 w' u.heap.size x (itd r X ⟨Dg,Di,Ds,Df⟩) /\ Q u w' from It.items_big g r X pa pb pc pd pcl Dg Ds e1 e2 n1 n2 f1 f2 Di Df u hok.ok (hpl.q q) hi hf k1 k2 (by omega) (by omega) (may_dig hm).1 (may_dig hm).2.1);have HTT:=Hd (fun u v d (hv:LstI u v (itd r X d)) (hm:may d = true) (l1:d.i.length <= 5000) (l2:d.f.length <= 5000)=>show Calls Tryz.prog 24 #[v] u fun e w'=>e = .returned (.string (tx r X d)) /\ Q u w' from It.text_any v (itd r X d) u hv (by have:=(itd_small hok hm l1 l2).1;omega) (itd_small hok hm l1 l2).2);replace HQ:=Hd (Q.trans HQ.out hq);replace HDX:=Hd (Bk.q HDX.out hq);clear hq hpl hrl hok HBE;have HQ1:=Hd (Q.refl w1);obtain ⟨u1,hwu1⟩:∃ z,z = w1.alloc (.cells #[.string (Lm.bs r.nam),.string (Lm.bs r.pat),.string (Lm.bs r.sys),.string (Lm.bs r.dec),.string (Lm.bs r.grp),.string (Lm.bs r.min),.string (Lm.bs r.per),.string (Lm.bs r.cur),.slice a1 X.pre.length a2,.slice b1 X.suf.length b2,.slice c1 X.npre.length c2,.slice d1 X.nsuf.length d2,.int .i64 X.pr,.int .i64 X.se,.int .i64 X.mi,.int .i64 X.mf,.int .i64 X.xf] 34):=⟨_,rfl⟩;have hq:Q w1 u1:=by rw [hwu1];exact (Q.refl _).alloc _
 have HLX:=Hd (show Bk u1 w1.heap.size 34 [.string (Lm.bs r.nam),.string (Lm.bs r.pat),.string (Lm.bs r.sys),.string (Lm.bs r.dec),.string (Lm.bs r.grp),.string (Lm.bs r.min),.string (Lm.bs r.per),.string (Lm.bs r.cur),.slice a1 X.pre.length a2,.slice b1 X.suf.length b2,.slice c1 X.npre.length c2,.slice d1 X.nsuf.length d2,.int .i64 X.pr,.int .i64 X.se,.int .i64 X.mi,.int .i64 X.mf,.int .i64 X.xf] by rw [hwu1];exact Bk.new _ _ _);obtain ⟨bL,hbbL⟩:∃ k,k = w1.heap.size:=⟨_,rfl⟩;rw [<- hbbL] at HLX;replace HQ:=Hd (Q.trans HQ.out hq);replace HDX:=Hd (Bk.q HDX.out hq);replace HQ1:=Hd (Q.trans HQ1.out hq);clear hq;go_upto_region 2 with fail
 unfold Ro.lV;rw [<- hwu1,<- hbbL];clear hwu1 hbbL;have xHDX0:=HDX.out.cell 0 rfl;have xHDX1:=HDX.out.cell 1 rfl;have xHDX2:=HDX.out.cell 2 rfl;have xHDX3:=HDX.out.cell 3 rfl;go_wp2_with fail
 clear xHDX0 xHDX1 xHDX2 xHDX3;refine (HGD.out _ HQ.out).mono ?_;rintro e u2 ⟨x,rfl,hx3,hq⟩;obtain ⟨i1,j1,i2,j2,rfl,hli,hlf⟩:=hx3;dsimp only at hli hlf;rw [HK1.out] at hli;rw [HK2.out] at hlf;have HLI:=Hd hli.lst;have HLF:=Hd hlf.lst;clear hli hlf;replace HQ:=Hd (Q.trans HQ.out hq);replace HDX:=Hd (Bk.q HDX.out hq);replace HQ1:=Hd (Q.trans HQ1.out hq);replace HLX:=Hd (Bk.q HLX.out hq);clear hq;obtain ⟨u3,hwu3⟩:∃ z,z = u2.alloc (.cells #[.bool tg,.slice i1 k1 j1,.bool ts,.slice i2 k2 j2] 26):=⟨_,rfl⟩;have hq:Q u2 u3:=by rw [hwu3];exact (Q.refl _).alloc _
 have HOX:=Hd (show Bk u3 u2.heap.size 26 [.bool tg,.slice i1 k1 j1,.bool ts,.slice i2 k2 j2] by rw [hwu3];exact Bk.new _ _ _);obtain ⟨bO,hbbO⟩:∃ k,k = u2.heap.size:=⟨_,rfl⟩;rw [<- hbbO] at HOX;replace HQ:=Hd (Q.trans HQ.out hq);replace HDX:=Hd (Bk.q HDX.out hq);replace HQ1:=Hd (Q.trans HQ1.out hq);replace HLX:=Hd (Bk.q HLX.out hq);replace HLI:=Hd (Lst.q HLI.out hq);replace HLF:=Hd (Lst.q HLF.out hq);clear hq;go_upto_region 5 with fail
 try rw [HK1.out,HK2.out]
 rw [<- hwu3,<- hbbO];clear hwu3 hbbO;clear HDX;clear HGD;have xHOX0:=HOX.out.cell 0 rfl;have xHOX1:=HOX.out.cell 1 rfl;have xHOX2:=HOX.out.cell 2 rfl;have xHOX3:=HOX.out.cell 3 rfl;go_wp2_with (refine wpList_load_row (by rfl) 34 _ (by rfl) bL (by rfl) 34 #[.string (Lm.bs r.nam),.string (Lm.bs r.pat),.string (Lm.bs r.sys),.string (Lm.bs r.dec),.string (Lm.bs r.grp),.string (Lm.bs r.min),.string (Lm.bs r.per),.string (Lm.bs r.cur),.slice a1 X.pre.length a2,.slice b1 X.suf.length b2,.slice c1 X.npre.length c2,.slice d1 X.nsuf.length d2,.int .i64 X.pr,.int .i64 X.se,.int .i64 X.mi,.int .i64 X.mf,.int .i64 X.xf] (0,0) _ HLX.out Tryz.underlying34 rfl (by exact Ro.infoL) ?_)
 clear xHOX0 xHOX1 xHOX2 xHOX3;refine (HRI.out _ HQ1.out tg TI ts TF i1 i2 k1 k2 j1 j2 HLI.out HLF.out HK1.out HK2.out (by omega) (by omega) HGM.out).mono ?_;rintro e u4 ⟨vw,rfl,hlw,hq⟩;have HZ:=Hd (show (tx r X ⟨tg,TI,ts,TF⟩).size <= 5000 by
  have h:=tx_size HOK.out HGM.out;dsimp only at h;rw [HK1.out,HK2.out] at h;have h5:64 * (2 * k1 + k2 + 7) <= 64 * 37:=Nat.mul_le_mul_left _ (by omega);omega)
 have HZ2:=Hd (show (txI (itd r X ⟨tg,TI,ts,TF⟩)).length <= 5000 by
  have h:=HZ.out;unfold tx at h;rwa [size_mk] at h)
 have HLL:=Hd (itd_small HOK.out HGM.out (by dsimp only;rw [HK1.out];omega) (by dsimp only;rw [HK2.out];omega)).1;have HWA:=Hd hlw.lst;clear hlw HZ;generalize itd r X ⟨tg,TI,ts,TF⟩ = LW at *;obtain ⟨nW,hnW⟩:∃ n,n = LW.length:=⟨_,rfl⟩;obtain ⟨xa,xc,rfl,_,_⟩:=HWA.out.form0 hnW.symm;have HNW:=Hd hnW.symm;have hnb:nW <= 15007:=by rw [hnW];exact HLL.out
 clear hnW HLL;replace HQ:=Hd (Q.trans HQ.out hq);replace HQ1:=Hd (Q.trans HQ1.out hq);replace HLX:=Hd (Bk.q HLX.out hq);replace HLI:=Hd (Lst.q HLI.out hq);replace HLF:=Hd (Lst.q HLF.out hq);replace HOX:=Hd (Bk.q HOX.out hq);clear hq;clear HOX HLI HLF;clear HRI HGM HK1 HK2;have HV1:=Hd (fun u (q:Q u4 u) k (h:k < nW)=>(HWA.out.q q).cellOf HNW.out h);have HTK:=Hd (fun k (h:k < nW)=>txI_take LW k (by rw [HNW.out];exact h));have HTL:=Hd (fun k=>Nat.le_trans (txI_le LW k) HZ2.out);have HLX0:=Hd (show Bk u4 bL 34 [.string (Lm.bs r.nam),.string (Lm.bs r.pat),.string (Lm.bs r.sys),.string (Lm.bs r.dec),.string (Lm.bs r.grp),.string (Lm.bs r.min),.string (Lm.bs r.per),.string (Lm.bs r.cur),.slice a1 X.pre.length a2,.slice b1 X.suf.length b2,.slice c1 X.npre.length c2,.slice d1 X.nsuf.length d2,.int .i64 X.pr,.int .i64 X.se,.int .i64 X.mi,.int .i64 X.mf,.int .i64 X.xf] from HLX.out);have HQ10:=Hd (show Q w1 u4 from HQ1.out);go_wp2_with fail
 go_loopw [13,14] (fun b i wr=>∃ (k:Nat) (B:ByteArray),b = .string B /\ i = .int .i64 k /\ k <= nW /\ B.size <= (txI (LW.take k)).length /\ Q u4 wr) (fun _ i _=>nW - (intOf i).toNat)
 case atStart=>exact ⟨0,⟨#[]⟩,rfl,rfl,by omega,Nat.zero_le _,Q.refl _⟩
 case round =>
  obtain ⟨k,B,rfl,rfl,hk,hB,hq⟩:=hrel;have HQB:=Hd hq;clear hq;by_cases hlt:k < nW
  ·have hltI:(k:Int) < (nW:Int):=by omega
   obtain ⟨g1,o1,p1,hvv,_,_,_,c1,c2,c3⟩:=HV1.out wr HQB.out k hlt;cases hvv;have htk:=HTK.out k hlt;have htl:=HTL.out (k + 1);generalize LW.getD k e0 = x at *;obtain ⟨xa',xt,xb⟩:=x;dsimp only at c1 c2 c3 htk;rw [htk,List.length_append,size_list] at htl;have HTZ:=Hd (show (txI (LW.take (k + 1))).length = (txI (LW.take k)).length + xt.size by rw [htk,List.length_append,size_list]);have hsum:B.size + xt.size <= 9223372036854775807:=by omega
   have hsum2:((B.size:Nat):Int) + ((xt.size:Nat):Int) <= 9223372036854775807:=by omega
   have HB:=Hd hB;have HSA:=Hd (show (B ++ xt).size <= (txI (LW.take (k + 1))).length by rw [HTZ.out,ByteArray.size_append];omega);have HSB:=Hd (show B.size <= (txI (LW.take (k + 1))).length by rw [HTZ.out];omega);clear htk htl hB;by_cases h3:xa' = 3
   ·subst h3
    go_wp2_with fail
    exact ⟨⟨k + 1,B,rfl,by go_num,by omega,HSB.out,HQB.out⟩,by simp [intOf];omega⟩
   ·have h3b:(xa' == 3) = false:=beq_eq_false_iff_ne.2 h3
    clear h3;go_wp2_with fail
    exact ⟨⟨k + 1,B ++ xt,by first | rfl | simp,by go_num,by omega,HSA.out,HQB.out⟩,by simp [intOf];omega⟩
  ·obtain rfl:k = nW:=by omega
   have HBZ:=Hd (show B.size <= 5000 from Nat.le_trans hB (HTL.out k));have HTX:=Hd (fun u (q:Q u4 u)=>It.rtext_any _ LW u (HWA.out.q q) (by rw [HNW.out];omega) (by have:=HZ2.out;omega));have HSZ:=Hd (show (⟨(txI LW).toArray⟩:ByteArray).size <= 5000 by rw [size_mk];exact HZ2.out);generalize (⟨(txI LW).toArray⟩:ByteArray) = S at *;clear hB HTK HTL HV1;go_wp2_with fail
   refine (HFW.out _).mono ?_;rintro e _ ⟨rfl,rfl⟩;go_wp2_with fail
   refine (HTX.out _ HQB.out).mono ?_;rintro e v1 ⟨rfl,hq⟩;have HQV:=Hd (HQB.out.trans hq);obtain ⟨v2,hv2⟩:∃ u,u = v1.alloc (.cells #[.string t,.string B,.string S] 9):=⟨_,rfl⟩;have hq2:Q v1 v2:=by rw [hv2];exact (Q.refl _).alloc _
   have HSL:=Hd (show SLst v2 (.slice (some ⟨v1.heap.size,0,none⟩) 3 3) [t,B,S] by rw [hv2];exact GLst.made Value.string 9 v1 [t,B,S] 3 rfl (by unfold maxLen;omega));obtain ⟨bS,hbS⟩:∃ b,b = v1.heap.size:=⟨_,rfl⟩;rw [<- hbS] at HSL;have HQ2:=Hd (HQV.out.trans hq2);have HSS:=Hd (show ∀ k,k < 3 -> ([t,B,S].getD k ⟨#[]⟩).size <= 5000 from fun k hk=>by
    have hk3:k = 0 \/ k = 1 \/ k = 2:=by omega
    rcases hk3 with rfl | rfl | rfl
    ·show t.size <= 5000;omega
    ·exact HBZ.out
    ·exact HSZ.out)
   clear hq hq2 HTX;go_upto_region 13 with fail
   rw [<- hv2,<- hbS];clear hv2 hbS;have HQF:=Hd (HQ.out.trans HQ2.out);have HQ1F:=Hd (HQ10.out.trans HQ2.out);have HLXF:=Hd (HLX0.out.q HQ2.out);go_wp2_with fail
   go_loopw [16] (fun i wr=>∃ k:Nat,i = .int .i64 k /\ k <= 3 /\ Q v2 wr) (fun i _=>3 - (intOf i).toNat)
   case atStart=>exact ⟨0,rfl,by omega,Q.refl _⟩
   case round =>
    obtain ⟨k,rfl,hk,hq⟩:=hrel;have HQR:=Hd hq;clear hq;by_cases hlt:k < 3
    ·have hltI:(k:Int) < 3:=by omega
     have HCE:=Hd (show ∀ u,Q v2 u -> u.cell? ⟨bS,k,none⟩ = some (.string ([t,B,S].getD k ⟨#[]⟩)) from fun u q=>by
      have hk3:k = 0 \/ k = 1 \/ k = 2:=by omega
      rcases hk3 with rfl | rfl | rfl
      ·obtain ⟨_,_,_,hvv,_,_,_,cl⟩:=(HSL.out.q q).cellOf (k:=0) (x:=t) rfl rfl
       cases hvv;exact cl
      ·obtain ⟨_,_,_,hvv,_,_,_,cl⟩:=(HSL.out.q q).cellOf (k:=1) (x:=B) rfl rfl
       cases hvv;exact cl
      ·obtain ⟨_,_,_,hvv,_,_,_,cl⟩:=(HSL.out.q q).cellOf (k:=2) (x:=S) rfl rfl
       cases hvv;exact cl)
     have hze:=HSS.out k hlt;generalize [t,B,S].getD k ⟨#[]⟩ = T' at *;have HPT:=Hd (fun u (q:Q v2 u)=>HPA.out u (HQ1F.out.trans q) T' (by omega));have HRT:=Hd (fun u (q:Q v2 u)=>HRP.out u (HQ1F.out.trans q) T' hze);have hrl2:=rd_len r X T';have hmr:=rd_may r X T';have hsh:=fun (h:isS r X T' = true)=>rd_shown h;generalize rd r X T' = R at *;generalize isS r X T' = I at *;have hlt3:=HTT.out;have HT9:=Hd (fun u v (hv:LstI u v (itd r X R))=>HTT.out u v R hv hmr (by omega) (by omega));obtain ⟨Cg,Ci,Cs,Cf⟩:=R;dsimp only at hrl2;obtain ⟨n1,hn1⟩:∃ k,k = Ci.length:=⟨_,rfl⟩;obtain ⟨n2,hn2⟩:∃ k,k = Cf.length:=⟨_,rfl⟩;rw [<- hn1,<- hn2] at hrl2;have HI9:=Hd (fun u (q:Q v2 u) c1 c2 d1 d2 (hi:Lst u (.slice c1 n1 d1) Ci) (hf:Lst u (.slice c2 n2 d2) Cf)=>HIT.out u (HQ1F.out.trans q) Cg Ci Cs Cf c1 c2 n1 n2 d1 d2 hi hf hn1.symm hn2.symm (by omega) (by omega) hmr);generalize tx r X ⟨Cg,Ci,Cs,Cf⟩ = S9 at *;generalize itd r X ⟨Cg,Ci,Cs,Cf⟩ = L9 at *;have HN1:=Hd hn1.symm;have HN2:=Hd hn2.symm;have HSH:=Hd hsh;clear hlt3 hn1 hn2 hmr hsh hrl2 hze;have ce:=HCE.out _ HQR.out;go_wp2_with fail
     refine (HPT.out _ HQR.out).mono ?_;rintro e v3 ⟨x,rfl,hld,hq⟩;obtain ⟨c1_,d1_,c2_,d2_,rfl,hl1,hl2⟩:=hld;dsimp only at hl1 hl2 |-;rw [HN1.out] at hl1 |-;rw [HN2.out] at hl2 |-;obtain ⟨v4,hv4⟩:∃ u,u = v3.alloc (.cells #[.bool Cg,.slice c1_ n1 d1_,.bool Cs,.slice c2_ n2 d2_] 39):=⟨_,rfl⟩;have hq4:Q v3 v4:=by rw [hv4];exact (Q.refl _).alloc _
     have HXX:=Hd (show Bk v4 v3.heap.size 39 [.bool Cg,.slice c1_ n1 d1_,.bool Cs,.slice c2_ n2 d2_] by rw [hv4];exact Bk.new _ _ _);obtain ⟨bX,hbX⟩:∃ b,b = v3.heap.size:=⟨_,rfl⟩;rw [<- hbX] at HXX;have HCI:=Hd (hl1.lst.q hq4);have HCF:=Hd (hl2.lst.q hq4);have HQ4:=Hd (HQR.out.trans (hq.trans hq4));obtain ⟨cd,hcd⟩:∃ c,c = cdS I:=⟨_,rfl⟩;rw [<- hcd];rw [<- hcd] at HRT;have HCD:=Hd hcd;have hccd:(cd == cd) = true:=by simp
     clear hl1 hl2 hq hq4 ce hcd;go_upto_region 17 with fail
     rw [<- hv4,<- hbX];clear hv4 hbX;cases I
     ·have hcd0:=HCD.out
      rw [show cdS false = 2 from rfl] at hcd0;subst hcd0;refine wp_region_held_drew (S:=fun u=>Q v4 u) (by kernel_rfl) (by exact (Q.refl v4).drew) (fun hHeld=>?_);have hS:Q v4 v4.drew:=hHeld;clear hHeld;have hq:Q v4 v4.drew:=(Q.refl _).drew;clear hq;generalize v4.drew = yR1x0 at *;change wpAnyH _ _ _ _ _ _ #[ff,ff,ff,ff,ff,ff,ff,ff,ff,ff,ff,ff,ff] _ _;refine tk 0 (by simp only [gA,gB,gC];rfl) (by first | kernel_rfl | rfl) (fun uz _=>by go_simp;try with_reducible rfl) pq hS ?_;try simp only [Act.put,sA,sB,sC]
      refine tk 1 (by simp only [gA,gB,gC];rfl) (by first | kernel_rfl | rfl) (fun uz _=>by go_simp;try with_reducible rfl) pq hS ?_;try simp only [Act.put,sA,sB,sC]
      refine tk 2 (by simp only [gA,gB,gC];rfl) (by first | kernel_rfl | rfl) (fun uz _=>by go_simp;try with_reducible rfl) pq hS ?_;try simp only [Act.put,sA,sB,sC]
      refine tu 3 (by simp only [gA,gB,gC];rfl) (by first | kernel_rfl | rfl) pq hS ?_;try simp only [Act.put,sA,sB,sC]
      refine tu 4 (by simp only [gA,gB,gC];rfl) (by first | kernel_rfl | rfl) pq hS ?_;try simp only [Act.put,sA,sB,sC]
      refine tu 7 (by simp only [gA,gB,gC];rfl) (by first | kernel_rfl | rfl) pq hS ?_;try simp only [Act.put,sA,sB,sC]
      refine tu 8 (by simp only [gA,gB,gC];rfl) (by first | kernel_rfl | rfl) pq hS ?_;try simp only [Act.put,sA,sB,sC]
      refine tu 9 (by simp only [gA,gB,gC];rfl) (by first | kernel_rfl | rfl) pq hS ?_;try simp only [Act.put,sA,sB,sC]
      refine tu 10 (by simp only [gA,gB,gC];rfl) (by first | kernel_rfl | rfl) pq hS ?_;try simp only [Act.put,sA,sB,sC]
      refine wpAnyH_ready (rs:=[5]) (by kernel_rfl) (by simp) ?_;refine ar (by (try simp only [gA,gB,gC]);rfl) fun K hK=>?_;go_simp
      refine hK.out _ _ (by exact hS) (fun hHeld=>?_);clear hK K hHeld;try simp only [Act.put,sA,sB,sC]
      refine wpAnyH_ready (rs:=[6]) (by kernel_rfl) (by simp) ?_;refine ar (by (try simp only [gA,gB,gC]);rfl) fun K hK=>?_;go_simp
      refine hK.out _ _ (by exact hS) (fun hHeld=>?_);clear hK K hHeld;try simp only [Act.put,sA,sB,sC]
      refine tu 11 (by simp only [gA,gB,gC];rfl) (by first | kernel_rfl | rfl) pq hS ?_;try simp only [Act.put,sA,sB,sC]
      refine tk 12 (by simp only [gA,gB,gC];rfl) (by first | kernel_rfl | rfl) (fun uz _=>by go_simp;try with_reducible rfl) pq hS ?_;try simp only [Act.put,sA,sB,sC]
      refine wpAnyH_done (by kernel_rfl) ?_ _;have HQ5:=Hd (HQ4.out.trans hS);clear hS;go_upto_region 19 with fail
      generalize yR1x0 = v5 at *;refine wp_region_held_drew (S:=fun u=>Q v5 u) (by kernel_rfl) (by exact (Q.refl v5).drew) (fun hHeld=>?_);have hS:Q v5 v5.drew:=hHeld;clear hHeld;have hq:Q v5 v5.drew:=(Q.refl _).drew;clear hq;generalize v5.drew = yR2x0 at *;change wpAnyH _ _ _ _ _ _ #[ff,ff,ff,ff,ff,ff,ff,ff,ff,ff,ff,ff] _ _;refine tk 0 (by simp only [gA,gB,gC];rfl) (by first | kernel_rfl | rfl) (fun uz hSw=>by (try dsimp only at hSw);refine ld_row (x:=.tmp 10) ?_ ?_ (HLXF.out.q (HQ5.out.trans hSw)) Tryz.underlying34 (by exact Ro.infoL) <;> rfl) pq hS ?_
      try simp only [Act.put,sA,sB,sC]
      refine tk 1 (by simp only [gA,gB,gC];rfl) (by first | kernel_rfl | rfl) (fun uz _=>by go_simp;try with_reducible rfl) pq hS ?_;try simp only [Act.put,sA,sB,sC]
      refine tk 2 (by simp only [gA,gB,gC];rfl) (by first | kernel_rfl | rfl) (fun uz _=>by go_simp;try with_reducible rfl) pq hS ?_;try simp only [Act.put,sA,sB,sC]
      refine tk 3 (by simp only [gA,gB,gC];rfl) (by first | kernel_rfl | rfl) (fun uz _=>by go_simp;try with_reducible rfl) pq hS ?_;try simp only [Act.put,sA,sB,sC]
      refine tk 4 (by simp only [gA,gB,gC];rfl) (by first | kernel_rfl | rfl) (fun uz hSw=>by (try dsimp only at hSw);have ce:=HCE.out _ (HQ5.out.trans hSw);go_simp;try with_reducible rfl) pq hS ?_;try simp only [Act.put,sA,sB,sC]
      refine wpAnyH_ready (rs:=[5,9]) (by kernel_rfl) (by simp) ?_;refine (AllReadyH.cons (by (try simp only [gA,gB,gC]);rfl) (fun K hK=>?_) (AllReadyH.cons (by (try simp only [gA,gB,gC]);rfl) (fun K hK=>?_) AllReadyH.nil))
      ·go_simp
       refine (HRT.out _ (HQ5.out.trans hS)).mono ?_;rintro e yR2x6 ⟨x,rfl,hld,hq⟩;obtain ⟨x1_,y1_,x2_,y2_,rfl,hl1,hl2⟩:=hld;dsimp only at hl1 hl2 |-;rw [HN1.out] at hl1 |-;rw [HN2.out] at hl2 |-;clear hl1 hl2;try (go_wp2_with fail)
       have hS2:=Q.trans hS hq;refine hK.out _ _ (by exact hS2) (fun hHeld=>?_);clear hK K hHeld hS hq;have hS:=hS2;clear hS2;try simp only [Act.put,sA,sB,sC]
       refine tk 6 (by simp only [gA,gB,gC];rfl) (by first | kernel_rfl | rfl) (fun uz _=>by go_simp;try with_reducible rfl) pq hS ?_;try simp only [Act.put,sA,sB,sC]
       refine tk 7 (by simp only [gA,gB,gC];rfl) (by first | kernel_rfl | rfl) (fun uz _=>by go_simp;try with_reducible rfl) pq hS ?_;try simp only [Act.put,sA,sB,sC]
       refine tk 8 (by simp only [gA,gB,gC];rfl) (by first | kernel_rfl | rfl) (fun uz _=>by go_simp;try with_reducible rfl) pq hS ?_;try simp only [Act.put,sA,sB,sC]
       refine wpAnyH_ready (rs:=[9]) (by kernel_rfl) (by simp) ?_;refine ar (by (try simp only [gA,gB,gC]);rfl) fun K hK=>?_;go_simp
       have hq:=(Q.refl yR2x6).alloc (.cells #[.bool false,.slice none 0 0,.bool false,.slice none 0 0] 26);have HCX:=Hd (Bk.new yR2x6 26 [.bool false,.slice none 0 0,.bool false,.slice none 0 0]);have HW_bC:=Hd (Q.le hS);have hS2:=Q.trans hS hq;refine hK.out _ _ (by exact hS2) (fun hHeld=>?_);clear hK K hHeld hS hq;have hS:=hS2;clear hS2;generalize yR2x6.alloc (.cells #[.bool false,.slice none 0 0,.bool false,.slice none 0 0] 26) = yR2x10 at *;generalize yR2x6.heap.size = bC at *;try simp only [Act.put,sA,sB,sC]
       refine wpAnyH_ready (rs:=[10]) (by kernel_rfl) (by simp) ?_;refine ar (by (try simp only [gA,gB,gC]);rfl) fun K hK=>?_;have b0:=HCX.out.cell 0 rfl;have f0:=HCX.out.free 0;have b1:=HCX.out.cell 1 rfl;have f1:=HCX.out.free 1;have b2:=HCX.out.cell 2 rfl;have f2:=HCX.out.free 2;have b3:=HCX.out.cell 3 rfl;have f3:=HCX.out.free 3;go_simp
       have hS2:=(Q.setCell (Q.setCell (Q.setCell (Q.setCell hS (ad:=⟨bC,0,none⟩) HW_bC.out (.bool Cg)) (ad:=⟨bC,1,none⟩) HW_bC.out (.slice x1_ n1 y1_)) (ad:=⟨bC,2,none⟩) HW_bC.out (.bool Cs)) (ad:=⟨bC,3,none⟩) HW_bC.out (.slice x2_ n2 y2_));replace HCX:=Hd ((((HCX.out.set 0 (.bool Cg)).set 1 (.slice x1_ n1 y1_)).set 2 (.bool Cs)).set 3 (.slice x2_ n2 y2_));refine hK.out _ _ (by exact hS2) (fun hHeld=>?_);clear hK K hHeld hS;have hS:=hS2;clear hS2 b0 f0 b1 f1 b2 f2 b3 f3;generalize ((((yR2x10.setCell ⟨bC,0,none⟩ (.bool Cg)).setCell ⟨bC,1,none⟩ (.slice x1_ n1 y1_)).setCell ⟨bC,2,none⟩ (.bool Cs)).setCell ⟨bC,3,none⟩ (.slice x2_ n2 y2_)) = yR2x11 at *;try simp only [Act.put,sA,sB,sC]
       refine tk 11 (by simp only [gA,gB,gC];rfl) (by first | kernel_rfl | rfl) (fun uz _=>by go_simp;try with_reducible rfl) pq hS ?_;try simp only [Act.put,sA,sB,sC]
       refine wpAnyH_done (by kernel_rfl) ?_ _;have HQ6:=Hd (HQ5.out.trans hS);clear hS;go_wp2_with fail
       exact ⟨⟨k + 1,by go_num,by omega,HQ6.out⟩,by simp [intOf];omega⟩
      ·go_simp
       have hq:=(Q.refl yR2x0).alloc (.cells #[.bool false,.slice none 0 0,.bool false,.slice none 0 0] 26);have HCX:=Hd (Bk.new yR2x0 26 [.bool false,.slice none 0 0,.bool false,.slice none 0 0]);have HW_bC:=Hd (Q.le hS);have hS2:=Q.trans hS hq;refine hK.out _ _ (by exact hS2) (fun hHeld=>?_);clear hK K hHeld hS hq;have hS:=hS2;clear hS2;generalize yR2x0.alloc (.cells #[.bool false,.slice none 0 0,.bool false,.slice none 0 0] 26) = yR2x13 at *;generalize yR2x0.heap.size = bC at *;try simp only [Act.put,sA,sB,sC]
       refine wpAnyH_ready (rs:=[5]) (by kernel_rfl) (by simp) ?_;refine ar (by (try simp only [gA,gB,gC]);rfl) fun K hK=>?_;go_simp
       refine (HRT.out _ (HQ5.out.trans hS)).mono ?_;rintro e yR2x14 ⟨x,rfl,hld,hq⟩;obtain ⟨x1_,y1_,x2_,y2_,rfl,hl1,hl2⟩:=hld;dsimp only at hl1 hl2 |-;rw [HN1.out] at hl1 |-;rw [HN2.out] at hl2 |-;clear hl1 hl2;try (go_wp2_with fail)
       have HCX:=Hd (Bk.q HCX.out hq);have hS2:=Q.trans hS hq;refine hK.out _ _ (by exact hS2) (fun hHeld=>?_);clear hK K hHeld hS hq;have hS:=hS2;clear hS2;try simp only [Act.put,sA,sB,sC]
       refine tk 6 (by simp only [gA,gB,gC];rfl) (by first | kernel_rfl | rfl) (fun uz _=>by go_simp;try with_reducible rfl) pq hS ?_;try simp only [Act.put,sA,sB,sC]
       refine tk 7 (by simp only [gA,gB,gC];rfl) (by first | kernel_rfl | rfl) (fun uz _=>by go_simp;try with_reducible rfl) pq hS ?_;try simp only [Act.put,sA,sB,sC]
       refine tk 8 (by simp only [gA,gB,gC];rfl) (by first | kernel_rfl | rfl) (fun uz _=>by go_simp;try with_reducible rfl) pq hS ?_;try simp only [Act.put,sA,sB,sC]
       refine wpAnyH_ready (rs:=[10]) (by kernel_rfl) (by simp) ?_;refine ar (by (try simp only [gA,gB,gC]);rfl) fun K hK=>?_;have b0:=HCX.out.cell 0 rfl;have f0:=HCX.out.free 0;have b1:=HCX.out.cell 1 rfl;have f1:=HCX.out.free 1;have b2:=HCX.out.cell 2 rfl;have f2:=HCX.out.free 2;have b3:=HCX.out.cell 3 rfl;have f3:=HCX.out.free 3;go_simp
       have hS2:=(Q.setCell (Q.setCell (Q.setCell (Q.setCell hS (ad:=⟨bC,0,none⟩) HW_bC.out (.bool Cg)) (ad:=⟨bC,1,none⟩) HW_bC.out (.slice x1_ n1 y1_)) (ad:=⟨bC,2,none⟩) HW_bC.out (.bool Cs)) (ad:=⟨bC,3,none⟩) HW_bC.out (.slice x2_ n2 y2_));replace HCX:=Hd ((((HCX.out.set 0 (.bool Cg)).set 1 (.slice x1_ n1 y1_)).set 2 (.bool Cs)).set 3 (.slice x2_ n2 y2_));refine hK.out _ _ (by exact hS2) (fun hHeld=>?_);clear hK K hHeld hS;have hS:=hS2;clear hS2 b0 f0 b1 f1 b2 f2 b3 f3;generalize ((((yR2x14.setCell ⟨bC,0,none⟩ (.bool Cg)).setCell ⟨bC,1,none⟩ (.slice x1_ n1 y1_)).setCell ⟨bC,2,none⟩ (.bool Cs)).setCell ⟨bC,3,none⟩ (.slice x2_ n2 y2_)) = yR2x18 at *;try simp only [Act.put,sA,sB,sC]
       refine tk 11 (by simp only [gA,gB,gC];rfl) (by first | kernel_rfl | rfl) (fun uz _=>by go_simp;try with_reducible rfl) pq hS ?_;try simp only [Act.put,sA,sB,sC]
       refine wpAnyH_done (by kernel_rfl) ?_ _;have HQ6:=Hd (HQ5.out.trans hS);clear hS;go_wp2_with fail
       exact ⟨⟨k + 1,by go_num,by omega,HQ6.out⟩,by simp [intOf];omega⟩
     ·have hcd0:=HCD.out
      rw [show cdS true = 0 from rfl] at hcd0;subst hcd0;obtain rfl:S9 = T':=HSH.out rfl;have htt:(S9.toList == S9.toList) = true:=by simp
      refine wp_region_held_drew (S:=fun u=>Q v4 u) (by kernel_rfl) (by exact (Q.refl v4).drew) (fun hHeld=>?_);have hS:Q v4 v4.drew:=hHeld;clear hHeld;have hq:Q v4 v4.drew:=(Q.refl _).drew;clear hq;generalize v4.drew = yR3x0 at *;change wpAnyH _ _ _ _ _ _ #[ff,ff,ff,ff,ff,ff,ff,ff,ff,ff,ff,ff,ff] _ _;refine tk 0 (by simp only [gA,gB,gC];rfl) (by first | kernel_rfl | rfl) (fun uz _=>by go_simp;try with_reducible rfl) pq hS ?_;try simp only [Act.put,sA,sB,sC]
      refine tk 1 (by simp only [gA,gB,gC];rfl) (by first | kernel_rfl | rfl) (fun uz _=>by go_simp;try with_reducible rfl) pq hS ?_;try simp only [Act.put,sA,sB,sC]
      refine tk 2 (by simp only [gA,gB,gC];rfl) (by first | kernel_rfl | rfl) (fun uz _=>by go_simp;try with_reducible rfl) pq hS ?_;try simp only [Act.put,sA,sB,sC]
      refine tk 3 (by simp only [gA,gB,gC];rfl) (by first | kernel_rfl | rfl) (fun uz _=>by go_simp;try with_reducible rfl) pq hS ?_;try simp only [Act.put,sA,sB,sC]
      refine tk 4 (by simp only [gA,gB,gC];rfl) (by first | kernel_rfl | rfl) (fun uz hSw=>by (try dsimp only at hSw);refine ld_row (x:=.tmp 17) ?_ ?_ (HXX.out.q hSw) Tryz.underlying39 (by exact infoDr) <;> rfl) pq hS ?_
      try simp only [Act.put,sA,sB,sC]
      refine tk 7 (by simp only [gA,gB,gC];rfl) (by first | kernel_rfl | rfl) (fun uz _=>by go_simp;try with_reducible rfl) pq hS ?_;try simp only [Act.put,sA,sB,sC]
      refine tk 8 (by simp only [gA,gB,gC];rfl) (by first | kernel_rfl | rfl) (fun uz _=>by go_simp;try with_reducible rfl) pq hS ?_;try simp only [Act.put,sA,sB,sC]
      refine tk 9 (by simp only [gA,gB,gC];rfl) (by first | kernel_rfl | rfl) (fun uz _=>by go_simp;try with_reducible rfl) pq hS ?_;try simp only [Act.put,sA,sB,sC]
      refine tk 10 (by simp only [gA,gB,gC];rfl) (by first | kernel_rfl | rfl) (fun uz hSw=>by (try dsimp only at hSw);have ce:=HCE.out _ (HQ4.out.trans hSw);go_simp;try with_reducible rfl) pq hS ?_;try simp only [Act.put,sA,sB,sC]
      refine wpAnyH_ready (rs:=[5]) (by kernel_rfl) (by simp) ?_;refine ar (by (try simp only [gA,gB,gC]);rfl) fun K hK=>?_;go_simp
      refine (HI9.out _ (HQ4.out.trans hS) _ _ _ _ (HCI.out.q hS) (HCF.out.q hS)).mono ?_;rintro e yR3x10 ⟨z,rfl,hoz,hq⟩;have HZO:=Hd hoz.lst;obtain ⟨za,zc,rfl⟩:=hoz.shape;clear hoz;try (go_wp2_with fail)
      have hS2:=Q.trans hS hq;refine hK.out _ _ (by exact hS2) (fun hHeld=>?_);clear hK K hHeld hS hq;have hS:=hS2;clear hS2;try simp only [Act.put,sA,sB,sC]
      refine wpAnyH_ready (rs:=[6]) (by kernel_rfl) (by simp) ?_;refine ar (by (try simp only [gA,gB,gC]);rfl) fun K hK=>?_;go_simp
      refine (HT9.out _ _ HZO.out).mono ?_;rintro e yR3x11 ⟨rfl,hq⟩;try (go_wp2_with fail)
      have HZO:=Hd (LstI.q HZO.out hq);have hS2:=Q.trans hS hq;refine hK.out _ _ (by exact hS2) (fun hHeld=>?_);clear hK K hHeld hS hq;have hS:=hS2;clear hS2;try simp only [Act.put,sA,sB,sC]
      refine tk 11 (by simp only [gA,gB,gC];rfl) (by first | kernel_rfl | rfl) (fun uz _=>by go_simp;try with_reducible rfl) pq hS ?_;try simp only [Act.put,sA,sB,sC]
      refine tk 12 (by simp only [gA,gB,gC];rfl) (by first | kernel_rfl | rfl) (fun uz _=>by go_simp;try with_reducible rfl) pq hS ?_;try simp only [Act.put,sA,sB,sC]
      refine wpAnyH_done (by kernel_rfl) ?_ _;have HQ5:=Hd (HQ4.out.trans hS);clear hS;go_upto_region 19 with fail
      generalize yR3x11 = v5 at *;refine wp_region_held_drew (S:=fun u=>Q v5 u) (by kernel_rfl) (by exact (Q.refl v5).drew) (fun hHeld=>?_);have hS:Q v5 v5.drew:=hHeld;clear hHeld;have hq:Q v5 v5.drew:=(Q.refl _).drew;clear hq;generalize v5.drew = yR4x0 at *;change wpAnyH _ _ _ _ _ _ #[ff,ff,ff,ff,ff,ff,ff,ff,ff,ff,ff,ff] _ _;refine tk 0 (by simp only [gA,gB,gC];rfl) (by first | kernel_rfl | rfl) (fun uz hSw=>by (try dsimp only at hSw);refine ld_row (x:=.tmp 10) ?_ ?_ (HLXF.out.q (HQ5.out.trans hSw)) Tryz.underlying34 (by exact Ro.infoL) <;> rfl) pq hS ?_
      try simp only [Act.put,sA,sB,sC]
      refine tk 1 (by simp only [gA,gB,gC];rfl) (by first | kernel_rfl | rfl) (fun uz _=>by go_simp;try with_reducible rfl) pq hS ?_;try simp only [Act.put,sA,sB,sC]
      refine tk 2 (by simp only [gA,gB,gC];rfl) (by first | kernel_rfl | rfl) (fun uz _=>by go_simp;try with_reducible rfl) pq hS ?_;try simp only [Act.put,sA,sB,sC]
      refine tk 3 (by simp only [gA,gB,gC];rfl) (by first | kernel_rfl | rfl) (fun uz _=>by go_simp;try with_reducible rfl) pq hS ?_;try simp only [Act.put,sA,sB,sC]
      refine tk 4 (by simp only [gA,gB,gC];rfl) (by first | kernel_rfl | rfl) (fun uz hSw=>by (try dsimp only at hSw);have ce:=HCE.out _ (HQ5.out.trans hSw);go_simp;try with_reducible rfl) pq hS ?_;try simp only [Act.put,sA,sB,sC]
      refine wpAnyH_ready (rs:=[5,9]) (by kernel_rfl) (by simp) ?_;refine (AllReadyH.cons (by (try simp only [gA,gB,gC]);rfl) (fun K hK=>?_) (AllReadyH.cons (by (try simp only [gA,gB,gC]);rfl) (fun K hK=>?_) AllReadyH.nil))
      ·go_simp
       refine (HRT.out _ (HQ5.out.trans hS)).mono ?_;rintro e yR4x6 ⟨x,rfl,hld,hq⟩;obtain ⟨x1_,y1_,x2_,y2_,rfl,hl1,hl2⟩:=hld;dsimp only at hl1 hl2 |-;rw [HN1.out] at hl1 |-;rw [HN2.out] at hl2 |-;clear hl1 hl2;try (go_wp2_with fail)
       have hS2:=Q.trans hS hq;refine hK.out _ _ (by exact hS2) (fun hHeld=>?_);clear hK K hHeld hS hq;have hS:=hS2;clear hS2;try simp only [Act.put,sA,sB,sC]
       refine tk 6 (by simp only [gA,gB,gC];rfl) (by first | kernel_rfl | rfl) (fun uz _=>by go_simp;try with_reducible rfl) pq hS ?_;try simp only [Act.put,sA,sB,sC]
       refine tk 7 (by simp only [gA,gB,gC];rfl) (by first | kernel_rfl | rfl) (fun uz _=>by go_simp;try with_reducible rfl) pq hS ?_;try simp only [Act.put,sA,sB,sC]
       refine tk 8 (by simp only [gA,gB,gC];rfl) (by first | kernel_rfl | rfl) (fun uz _=>by go_simp;try with_reducible rfl) pq hS ?_;try simp only [Act.put,sA,sB,sC]
       refine wpAnyH_ready (rs:=[9]) (by kernel_rfl) (by simp) ?_;refine ar (by (try simp only [gA,gB,gC]);rfl) fun K hK=>?_;go_simp
       have hq:=(Q.refl yR4x6).alloc (.cells #[.bool false,.slice none 0 0,.bool false,.slice none 0 0] 26);have HCX:=Hd (Bk.new yR4x6 26 [.bool false,.slice none 0 0,.bool false,.slice none 0 0]);have HW_bC:=Hd (Q.le hS);have hS2:=Q.trans hS hq;refine hK.out _ _ (by exact hS2) (fun hHeld=>?_);clear hK K hHeld hS hq;have hS:=hS2;clear hS2;generalize yR4x6.alloc (.cells #[.bool false,.slice none 0 0,.bool false,.slice none 0 0] 26) = yR4x10 at *;generalize yR4x6.heap.size = bC at *;try simp only [Act.put,sA,sB,sC]
       refine wpAnyH_ready (rs:=[10]) (by kernel_rfl) (by simp) ?_;refine ar (by (try simp only [gA,gB,gC]);rfl) fun K hK=>?_;have b0:=HCX.out.cell 0 rfl;have f0:=HCX.out.free 0;have b1:=HCX.out.cell 1 rfl;have f1:=HCX.out.free 1;have b2:=HCX.out.cell 2 rfl;have f2:=HCX.out.free 2;have b3:=HCX.out.cell 3 rfl;have f3:=HCX.out.free 3;go_simp
       have hS2:=(Q.setCell (Q.setCell (Q.setCell (Q.setCell hS (ad:=⟨bC,0,none⟩) HW_bC.out (.bool Cg)) (ad:=⟨bC,1,none⟩) HW_bC.out (.slice x1_ n1 y1_)) (ad:=⟨bC,2,none⟩) HW_bC.out (.bool Cs)) (ad:=⟨bC,3,none⟩) HW_bC.out (.slice x2_ n2 y2_));replace HCX:=Hd ((((HCX.out.set 0 (.bool Cg)).set 1 (.slice x1_ n1 y1_)).set 2 (.bool Cs)).set 3 (.slice x2_ n2 y2_));refine hK.out _ _ (by exact hS2) (fun hHeld=>?_);clear hK K hHeld hS;have hS:=hS2;clear hS2 b0 f0 b1 f1 b2 f2 b3 f3;generalize ((((yR4x10.setCell ⟨bC,0,none⟩ (.bool Cg)).setCell ⟨bC,1,none⟩ (.slice x1_ n1 y1_)).setCell ⟨bC,2,none⟩ (.bool Cs)).setCell ⟨bC,3,none⟩ (.slice x2_ n2 y2_)) = yR4x11 at *;try simp only [Act.put,sA,sB,sC]
       refine tk 11 (by simp only [gA,gB,gC];rfl) (by first | kernel_rfl | rfl) (fun uz _=>by go_simp;try with_reducible rfl) pq hS ?_;try simp only [Act.put,sA,sB,sC]
       refine wpAnyH_done (by kernel_rfl) ?_ _;have HQ6:=Hd (HQ5.out.trans hS);clear hS;go_wp2_with fail
       exact ⟨⟨k + 1,by go_num,by omega,HQ6.out⟩,by simp [intOf];omega⟩
      ·go_simp
       have hq:=(Q.refl yR4x0).alloc (.cells #[.bool false,.slice none 0 0,.bool false,.slice none 0 0] 26);have HCX:=Hd (Bk.new yR4x0 26 [.bool false,.slice none 0 0,.bool false,.slice none 0 0]);have HW_bC:=Hd (Q.le hS);have hS2:=Q.trans hS hq;refine hK.out _ _ (by exact hS2) (fun hHeld=>?_);clear hK K hHeld hS hq;have hS:=hS2;clear hS2;generalize yR4x0.alloc (.cells #[.bool false,.slice none 0 0,.bool false,.slice none 0 0] 26) = yR4x13 at *;generalize yR4x0.heap.size = bC at *;try simp only [Act.put,sA,sB,sC]
       refine wpAnyH_ready (rs:=[5]) (by kernel_rfl) (by simp) ?_;refine ar (by (try simp only [gA,gB,gC]);rfl) fun K hK=>?_;go_simp
       refine (HRT.out _ (HQ5.out.trans hS)).mono ?_;rintro e yR4x14 ⟨x,rfl,hld,hq⟩;obtain ⟨x1_,y1_,x2_,y2_,rfl,hl1,hl2⟩:=hld;dsimp only at hl1 hl2 |-;rw [HN1.out] at hl1 |-;rw [HN2.out] at hl2 |-;clear hl1 hl2;try (go_wp2_with fail)
       have HCX:=Hd (Bk.q HCX.out hq);have hS2:=Q.trans hS hq;refine hK.out _ _ (by exact hS2) (fun hHeld=>?_);clear hK K hHeld hS hq;have hS:=hS2;clear hS2;try simp only [Act.put,sA,sB,sC]
       refine tk 6 (by simp only [gA,gB,gC];rfl) (by first | kernel_rfl | rfl) (fun uz _=>by go_simp;try with_reducible rfl) pq hS ?_;try simp only [Act.put,sA,sB,sC]
       refine tk 7 (by simp only [gA,gB,gC];rfl) (by first | kernel_rfl | rfl) (fun uz _=>by go_simp;try with_reducible rfl) pq hS ?_;try simp only [Act.put,sA,sB,sC]
       refine tk 8 (by simp only [gA,gB,gC];rfl) (by first | kernel_rfl | rfl) (fun uz _=>by go_simp;try with_reducible rfl) pq hS ?_;try simp only [Act.put,sA,sB,sC]
       refine wpAnyH_ready (rs:=[10]) (by kernel_rfl) (by simp) ?_;refine ar (by (try simp only [gA,gB,gC]);rfl) fun K hK=>?_;have b0:=HCX.out.cell 0 rfl;have f0:=HCX.out.free 0;have b1:=HCX.out.cell 1 rfl;have f1:=HCX.out.free 1;have b2:=HCX.out.cell 2 rfl;have f2:=HCX.out.free 2;have b3:=HCX.out.cell 3 rfl;have f3:=HCX.out.free 3;go_simp
       have hS2:=(Q.setCell (Q.setCell (Q.setCell (Q.setCell hS (ad:=⟨bC,0,none⟩) HW_bC.out (.bool Cg)) (ad:=⟨bC,1,none⟩) HW_bC.out (.slice x1_ n1 y1_)) (ad:=⟨bC,2,none⟩) HW_bC.out (.bool Cs)) (ad:=⟨bC,3,none⟩) HW_bC.out (.slice x2_ n2 y2_));replace HCX:=Hd ((((HCX.out.set 0 (.bool Cg)).set 1 (.slice x1_ n1 y1_)).set 2 (.bool Cs)).set 3 (.slice x2_ n2 y2_));refine hK.out _ _ (by exact hS2) (fun hHeld=>?_);clear hK K hHeld hS;have hS:=hS2;clear hS2 b0 f0 b1 f1 b2 f2 b3 f3;generalize ((((yR4x14.setCell ⟨bC,0,none⟩ (.bool Cg)).setCell ⟨bC,1,none⟩ (.slice x1_ n1 y1_)).setCell ⟨bC,2,none⟩ (.bool Cs)).setCell ⟨bC,3,none⟩ (.slice x2_ n2 y2_)) = yR4x18 at *;try simp only [Act.put,sA,sB,sC]
       refine tk 11 (by simp only [gA,gB,gC];rfl) (by first | kernel_rfl | rfl) (fun uz _=>by go_simp;try with_reducible rfl) pq hS ?_;try simp only [Act.put,sA,sB,sC]
       refine wpAnyH_done (by kernel_rfl) ?_ _;have HQ6:=Hd (HQ5.out.trans hS);clear hS;go_wp2_with fail
       exact ⟨⟨k + 1,by go_num,by omega,HQ6.out⟩,by simp [intOf];omega⟩
    ·obtain rfl:k = 3:=by omega
     have HQE:=Hd (HQF.out.trans HQR.out);go_wp2_with fail
     refine (Sp.lives_any _).mono ?_;rintro e wz ⟨rfl,hqz⟩;have HQZ:=Hd (HQE.out.trans hqz);clear hqz;go_wp2_with fail
     go_ret
     exact ⟨rfl,HQZ.out⟩
end Sp
end
end Go.Proofs.YtdjhkbholijnmaaGreatDoor
