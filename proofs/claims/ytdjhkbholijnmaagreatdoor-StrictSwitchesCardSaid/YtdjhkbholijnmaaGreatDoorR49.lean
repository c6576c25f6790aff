/- By another locale the same draft is shown, and comes back. (and more) -/
import Derived.Test.YtdjhkbholijnmaaGreatDoorR45
set_option linter.all false
set_option maxRecDepth 100000
set_option maxHeartbeats 8000000
namespace Go.Proofs.YtdjhkbholijnmaaGreatDoor
section
open Go.RowKit
namespace Sp
open Um Cm Gm Im Lo Sx Tm
theorem law_switches (g0 g1 g2 g3 g4 g5 n:Int) (dg ds:Bool) (e1 e2:Option Addr) (m1 m2 f1 f2:Nat) (DI DF:List Int) (hx0 hx1 hx2 hx3 hx4 hx5 m:Int) (s:ByteArray) (w:World) (h0:-9223372036854775808 <= g0 /\ g0 <= 9223372036854775807) (h1:-9223372036854775808 <= g1 /\ g1 <= 9223372036854775807) (h2:-9223372036854775808 <= g2 /\ g2 <= 9223372036854775807) (h3:-9223372036854775808 <= g3 /\ g3 <= 9223372036854775807) (h4:-9223372036854775808 <= g4 /\ g4 <= 9223372036854775807) (h5:-9223372036854775808 <= g5 /\ g5 <= 9223372036854775807) (hn:-9223372036854775808 <= n /\ n <= 9223372036854775807) (hi:Lst w (.slice e1 m1 f1) DI) (hf:Lst w (.slice e2 m2 f2) DF) (q1:DI.length = m1) (q2:DF.length = m2) (bi:∀ n ∈ DI,-9223372036854775808 <= n /\ n <= 9223372036854775807) (bf:∀ n ∈ DF,-9223372036854775808 <= n /\ n <= 9223372036854775807) (hh0:-9223372036854775808 <= hx0 /\ hx0 <= 9223372036854775807) (hh1:-9223372036854775808 <= hx1 /\ hx1 <= 9223372036854775807) (hh2:-9223372036854775808 <= hx2 /\ hx2 <= 9223372036854775807) (hh3:-9223372036854775808 <= hx3 /\ hx3 <= 9223372036854775807) (hh4:-9223372036854775808 <= hx4 /\ hx4 <= 9223372036854775807) (hh5:-9223372036854775808 <= hx5 /\ hx5 <= 9223372036854775807) (hm:-9223372036854775808 <= m /\ m <= 9223372036854775807) (hs:s.size <= maxLen) :
  Calls Tryz.prog 6 #[.agg #[.int .i64 g0,.int .i64 g1,.int .i64 g2,.int .i64 g3,.int .i64 g4,.int .i64 g5],.int .i64 n,.agg #[.int .i64 hx0,.int .i64 hx1,.int .i64 hx2,.int .i64 hx3,.int .i64 hx4,.int .i64 hx5],.int .i64 m,.agg #[.bool dg,.slice e1 m1 f1,.bool ds,.slice e2 m2 f2],.string s] w fun e w'=>e = .returned (.bool true) /\ Q w w':=by
 have HBE:=Hd (fun u=>Sx.begin_any g0 g1 g2 g3 g4 g5 n u h0 h1 h2 h3 h4 h5 hn)
 have HBH:=Hd (fun u=>Sx.begin_any hx0 hx1 hx2 hx3 hx4 hx5 m u hh0 hh1 hh2 hh3 hh4 hh5 hm)
 have HFW:=Hd (fun u=>Ur.few_any s 20 u hs (by omega))
 rw [show ((20:Nat):Int) = 20 from rfl] at HFW
 have hts:=Ur.few_size s 20
 generalize Ur.few s 20 = t at *
 clear hs
 have hic:=hi.form0 q1
 obtain ⟨_,_,hv,hnc,hcm⟩:=hic
 cases hv
 have hfc:=hf.form0 q2
 obtain ⟨_,_,hv,hnf,hfm⟩:=hfc
 cases hv
 unfold maxLen at hcm hfm
 have HGD:=Hd (fun u (q:Q w u)=>Tr.good_any dg ds e1 e2 m1 m2 f1 f2 DI DF u (hi.q q) (hf.q q) q1 q2 (by omega) (by omega) bi bf 10 5 (by omega) (by omega))
 have hgm:=Tm.gdT_may dg ds DI DF 10 5
 have hgl:=Tm.gdT_len dg ds DI DF 10 5
 generalize Tm.gdT dg ds DI DF 10 5 = D0 at *
 obtain ⟨tg,TI,ts,TF⟩:=D0
 dsimp only at hgl
 have HGM:=Hd hgm
 obtain ⟨k1,hk1⟩:∃ k,k = TI.length:=⟨_,rfl⟩
 obtain ⟨k2,hk2⟩:∃ k,k = TF.length:=⟨_,rfl⟩
 rw [<- hk1,<- hk2] at hgl
 have HK1:=Hd hk1.symm
 have HK2:=Hd hk2.symm
 obtain ⟨hb1,hb2⟩:=hgl
 clear hgm hk1 hk2
 clear hi hf q1 q2 bi bf h0 h1 h2 h3 h4 h5 hn hnc hcm hnf hfm hh0 hh1 hh2 hh3 hh4 hh5 hm
 obtain ⟨y0,hy0⟩:∃ z,z = w.alloc (.cells #[.int .i64 g0,.int .i64 g1,.int .i64 g2,.int .i64 g3,.int .i64 g4,.int .i64 g5] 23):=⟨_,rfl⟩
 have hq0:Q w y0:=by rw [hy0];exact (Q.refl _).alloc _
 have hs0:y0.heap.size = w.heap.size + 1:=by rw [hy0];simp
 have hc0:Bk y0 w.heap.size 23 [.int .i64 g0,.int .i64 g1,.int .i64 g2,.int .i64 g3,.int .i64 g4,.int .i64 g5]:=by rw [hy0];exact Bk.new _ _ _
 obtain ⟨y1,hy1⟩:∃ z,z = y0.alloc (.cells #[.int .i64 hx0,.int .i64 hx1,.int .i64 hx2,.int .i64 hx3,.int .i64 hx4,.int .i64 hx5] 23):=⟨_,rfl⟩
 have hq1:Q y0 y1:=by rw [hy1];exact (Q.refl _).alloc _
 have hs1:y1.heap.size = w.heap.size + 2:=by rw [hy1];simp;omega
 have hc1:Bk y1 y0.heap.size 23 [.int .i64 hx0,.int .i64 hx1,.int .i64 hx2,.int .i64 hx3,.int .i64 hx4,.int .i64 hx5]:=by rw [hy1];exact Bk.new _ _ _
 rw [hs0] at hc1
 obtain ⟨y2,hy2⟩:∃ z,z = y1.alloc (.cells #[.bool dg,.slice e1 m1 f1,.bool ds,.slice e2 m2 f2] 26):=⟨_,rfl⟩
 have hq2:Q y1 y2:=by rw [hy2];exact (Q.refl _).alloc _
 have hs2:y2.heap.size = w.heap.size + 3:=by rw [hy2];simp;omega
 have hc2:Bk y2 y1.heap.size 26 [.bool dg,.slice e1 m1 f1,.bool ds,.slice e2 m2 f2]:=by rw [hy2];exact Bk.new _ _ _
 rw [hs1] at hc2
 have HQ:=Hd (hq0.trans (hq1.trans hq2))
 have HGX:=Hd (hc0.q (hq1.trans hq2))
 have HHX:=Hd (hc1.q hq2)
 have HDX:=Hd hc2
 have hz2:y2 = ((w.alloc (.cells #[.int .i64 g0,.int .i64 g1,.int .i64 g2,.int .i64 g3,.int .i64 g4,.int .i64 g5] 23)).alloc (.cells #[.int .i64 hx0,.int .i64 hx1,.int .i64 hx2,.int .i64 hx3,.int .i64 hx4,.int .i64 hx5] 23)).alloc (.cells #[.bool dg,.slice e1 m1 f1,.bool ds,.slice e2 m2 f2] 26):=by rw [hy2,hy1,hy0]
 obtain ⟨bG,hbbG⟩:∃ k,k = w.heap.size:=⟨_,rfl⟩
 obtain ⟨bH,hbbH⟩:∃ k,k = w.heap.size + 1:=⟨_,rfl⟩
 obtain ⟨bD,hbbD⟩:∃ k,k = w.heap.size + 2:=⟨_,rfl⟩
 clear hq0 hs0 hc0 hy0 hq1 hs1 hc1 hy1 hq2 hs2 hc2 hy2
 go_enter Tryz.func6,Tryz.ntmps6
 go_upto_region 1 with fail
 try rw [show w.heap.size + 1 + 1 = w.heap.size + 2 from rfl]
 rw [<- hz2,<- hbbD,<- hbbH,<- hbbG]
 rw [<- hbbG] at HGX
 rw [<- hbbH] at HHX
 rw [<- hbbD] at HDX
 clear hz2 hbbG hbbH hbbD
 have xHGX0:=HGX.out.cell 0 rfl
 have xHGX1:=HGX.out.cell 1 rfl
 have xHGX2:=HGX.out.cell 2 rfl
 have xHGX3:=HGX.out.cell 3 rfl
 have xHGX4:=HGX.out.cell 4 rfl
 have xHGX5:=HGX.out.cell 5 rfl
 go_wp2_with fail
 clear xHGX0 xHGX1 xHGX2 xHGX3 xHGX4 xHGX5
 clear HGX
 refine (HBE.out _).mono ?_
 rintro e w1 ⟨r,X,pv,vv,hok,rfl,⟨g,pa,pb,pc,pd,pcl,rfl,hpl⟩,⟨la,lb,lc,ld,rfl,hrl⟩,hq⟩
 have HOK:=Hd hok
 obtain ⟨a1,a2,rfl⟩:=hrl.1.shape
 obtain ⟨b1,b2,rfl⟩:=hrl.2.1.shape
 obtain ⟨c1,c2,rfl⟩:=hrl.2.2.1.shape
 obtain ⟨d1,d2,rfl⟩:=hrl.2.2.2.shape
 have HP1:=Hd hpl
 have HR1:=Hd hrl
 replace HQ:=Hd (Q.trans HQ.out hq)
 replace HHX:=Hd (Bk.q HHX.out hq)
 replace HDX:=Hd (Bk.q HDX.out hq)
 clear hq hpl hrl hok HBE
 have HQ1:=Hd (Q.refl w1)
 obtain ⟨u1,hwu1⟩:∃ z,z = w1.alloc (.cells #[.string (Lm.bs r.nam),.string (Lm.bs r.pat),.string (Lm.bs r.sys),.string (Lm.bs r.dec),.string (Lm.bs r.grp),.string (Lm.bs r.min),.string (Lm.bs r.per),.string (Lm.bs r.cur),.slice a1 X.pre.length a2,.slice b1 X.suf.length b2,.slice c1 X.npre.length c2,.slice d1 X.nsuf.length d2,.int .i64 X.pr,.int .i64 X.se,.int .i64 X.mi,.int .i64 X.mf,.int .i64 X.xf] 34):=⟨_,rfl⟩
 have hq:Q w1 u1:=by rw [hwu1];exact (Q.refl _).alloc _
 have HLX:=Hd (show Bk u1 w1.heap.size 34 [.string (Lm.bs r.nam),.string (Lm.bs r.pat),.string (Lm.bs r.sys),.string (Lm.bs r.dec),.string (Lm.bs r.grp),.string (Lm.bs r.min),.string (Lm.bs r.per),.string (Lm.bs r.cur),.slice a1 X.pre.length a2,.slice b1 X.suf.length b2,.slice c1 X.npre.length c2,.slice d1 X.nsuf.length d2,.int .i64 X.pr,.int .i64 X.se,.int .i64 X.mi,.int .i64 X.mf,.int .i64 X.xf] by rw [hwu1];exact Bk.new _ _ _)
 obtain ⟨bL,hbbL⟩:∃ k,k = w1.heap.size:=⟨_,rfl⟩
 rw [<- hbbL] at HLX
 replace HQ:=Hd (Q.trans HQ.out hq)
 replace HHX:=Hd (Bk.q HHX.out hq)
 replace HDX:=Hd (Bk.q HDX.out hq)
 replace HQ1:=Hd (Q.trans HQ1.out hq)
 replace HP1:=Hd (LB.q HP1.out hq)
 replace HR1:=Hd (Ro.LL.q HR1.out hq)
 clear hq
 go_upto_region 2 with fail
 unfold Ro.lV
 rw [<- hwu1,<- hbbL]
 clear hwu1 hbbL
 have xHHX0:=HHX.out.cell 0 rfl
 have xHHX1:=HHX.out.cell 1 rfl
 have xHHX2:=HHX.out.cell 2 rfl
 have xHHX3:=HHX.out.cell 3 rfl
 have xHHX4:=HHX.out.cell 4 rfl
 have xHHX5:=HHX.out.cell 5 rfl
 go_wp2_with fail
 clear xHHX0 xHHX1 xHHX2 xHHX3 xHHX4 xHHX5
 clear HHX
 refine (HBH.out _).mono ?_
 rintro e w1q ⟨rq,Xq,pvq,vvq,hok,rfl,⟨gq,qpa,qpb,qpc,qpd,qpcl,rfl,hpl⟩,⟨laq,lbq,lcq,ldq,rfl,hrl⟩,hq⟩
 have HOKq:=Hd hok
 obtain ⟨aq1,aq2,rfl⟩:=hrl.1.shape
 obtain ⟨bq1,bq2,rfl⟩:=hrl.2.1.shape
 obtain ⟨cq1,cq2,rfl⟩:=hrl.2.2.1.shape
 obtain ⟨dq1,dq2,rfl⟩:=hrl.2.2.2.shape
 have HP2:=Hd hpl
 have HR2:=Hd hrl
 replace HQ:=Hd (Q.trans HQ.out hq)
 replace HDX:=Hd (Bk.q HDX.out hq)
 replace HQ1:=Hd (Q.trans HQ1.out hq)
 replace HP1:=Hd (LB.q HP1.out hq)
 replace HR1:=Hd (Ro.LL.q HR1.out hq)
 replace HLX:=Hd (Bk.q HLX.out hq)
 clear hq hpl hrl hok HBH
 have HQ2:=Hd (Q.refl w1q)
 obtain ⟨u2,hwu2⟩:∃ z,z = w1q.alloc (.cells #[.string (Lm.bs rq.nam),.string (Lm.bs rq.pat),.string (Lm.bs rq.sys),.string (Lm.bs rq.dec),.string (Lm.bs rq.grp),.string (Lm.bs rq.min),.string (Lm.bs rq.per),.string (Lm.bs rq.cur),.slice aq1 Xq.pre.length aq2,.slice bq1 Xq.suf.length bq2,.slice cq1 Xq.npre.length cq2,.slice dq1 Xq.nsuf.length dq2,.int .i64 Xq.pr,.int .i64 Xq.se,.int .i64 Xq.mi,.int .i64 Xq.mf,.int .i64 Xq.xf] 34):=⟨_,rfl⟩
 have hq:Q w1q u2:=by rw [hwu2];exact (Q.refl _).alloc _
 have HLY:=Hd (show Bk u2 w1q.heap.size 34 [.string (Lm.bs rq.nam),.string (Lm.bs rq.pat),.string (Lm.bs rq.sys),.string (Lm.bs rq.dec),.string (Lm.bs rq.grp),.string (Lm.bs rq.min),.string (Lm.bs rq.per),.string (Lm.bs rq.cur),.slice aq1 Xq.pre.length aq2,.slice bq1 Xq.suf.length bq2,.slice cq1 Xq.npre.length cq2,.slice dq1 Xq.nsuf.length dq2,.int .i64 Xq.pr,.int .i64 Xq.se,.int .i64 Xq.mi,.int .i64 Xq.mf,.int .i64 Xq.xf] by rw [hwu2];exact Bk.new _ _ _)
 obtain ⟨bLq,hbbLq⟩:∃ k,k = w1q.heap.size:=⟨_,rfl⟩
 rw [<- hbbLq] at HLY
 replace HQ:=Hd (Q.trans HQ.out hq)
 replace HDX:=Hd (Bk.q HDX.out hq)
 replace HQ1:=Hd (Q.trans HQ1.out hq)
 replace HP1:=Hd (LB.q HP1.out hq)
 replace HR1:=Hd (Ro.LL.q HR1.out hq)
 replace HLX:=Hd (Bk.q HLX.out hq)
 replace HQ2:=Hd (Q.trans HQ2.out hq)
 replace HP2:=Hd (LB.q HP2.out hq)
 replace HR2:=Hd (Ro.LL.q HR2.out hq)
 clear hq
 go_upto_region 3 with fail
 unfold Ro.lV
 rw [<- hwu2,<- hbbLq]
 clear hwu2 hbbLq
 have xHDX0:=HDX.out.cell 0 rfl
 have xHDX1:=HDX.out.cell 1 rfl
 have xHDX2:=HDX.out.cell 2 rfl
 have xHDX3:=HDX.out.cell 3 rfl
 go_wp2_with fail
 clear xHDX0 xHDX1 xHDX2 xHDX3
 refine (HGD.out _ HQ.out).mono ?_
 rintro e u3 ⟨x,rfl,hx3,hq⟩
 obtain ⟨i1,j1,i2,j2,rfl,hli,hlf⟩:=hx3
 dsimp only at hli hlf
 rw [HK1.out] at hli
 rw [HK2.out] at hlf
 have HLI:=Hd hli.lst
 have HLF:=Hd hlf.lst
 clear hli hlf
 replace HQ:=Hd (Q.trans HQ.out hq)
 replace HDX:=Hd (Bk.q HDX.out hq)
 replace HQ1:=Hd (Q.trans HQ1.out hq)
 replace HP1:=Hd (LB.q HP1.out hq)
 replace HR1:=Hd (Ro.LL.q HR1.out hq)
 replace HLX:=Hd (Bk.q HLX.out hq)
 replace HQ2:=Hd (Q.trans HQ2.out hq)
 replace HP2:=Hd (LB.q HP2.out hq)
 replace HR2:=Hd (Ro.LL.q HR2.out hq)
 replace HLY:=Hd (Bk.q HLY.out hq)
 clear hq
 obtain ⟨u4,hwu4⟩:∃ z,z = u3.alloc (.cells #[.bool tg,.slice i1 k1 j1,.bool ts,.slice i2 k2 j2] 26):=⟨_,rfl⟩
 have hq:Q u3 u4:=by rw [hwu4];exact (Q.refl _).alloc _
 have HOX:=Hd (show Bk u4 u3.heap.size 26 [.bool tg,.slice i1 k1 j1,.bool ts,.slice i2 k2 j2] by rw [hwu4];exact Bk.new _ _ _)
 obtain ⟨bO,hbbO⟩:∃ k,k = u3.heap.size:=⟨_,rfl⟩
 rw [<- hbbO] at HOX
 replace HQ:=Hd (Q.trans HQ.out hq)
 replace HDX:=Hd (Bk.q HDX.out hq)
 replace HQ1:=Hd (Q.trans HQ1.out hq)
 replace HP1:=Hd (LB.q HP1.out hq)
 replace HR1:=Hd (Ro.LL.q HR1.out hq)
 replace HLX:=Hd (Bk.q HLX.out hq)
 replace HQ2:=Hd (Q.trans HQ2.out hq)
 replace HP2:=Hd (LB.q HP2.out hq)
 replace HR2:=Hd (Ro.LL.q HR2.out hq)
 replace HLY:=Hd (Bk.q HLY.out hq)
 replace HLI:=Hd (Lst.q HLI.out hq)
 replace HLF:=Hd (Lst.q HLF.out hq)
 clear hq
 go_upto_region 6 with fail
 try rw [HK1.out,HK2.out]
 rw [<- hwu4,<- hbbO]
 clear hwu4 hbbO
 clear HDX
 clear HGD
 have HS12:=Hd (fun u (q:Q u4 u) s hs=>Sp.switch_any g r X pa pb pc pd pcl gq rq Xq qpa qpb qpc qpd qpcl s u HOK.out (HP1.out.q q) HOKq.out (HP2.out.q q) hs)
 have HS21:=Hd (fun u (q:Q u4 u) s hs=>Sp.switch_any gq rq Xq qpa qpb qpc qpd qpcl g r X pa pb pc pd pcl s u HOKq.out (HP2.out.q q) HOK.out (HP1.out.q q) hs)
 have HT1:=Hd (fun u (q:Q u4 u) A B e1 e2 m1 m2 f1 f2 I F hi hf k1 k2 l1 l2 hm=>Rs.text_any r X _ _ _ _ A B e1 e2 m1 m2 f1 f2 I F u HOK.out (HR1.out.q q) hi hf k1 k2 l1 l2 hm)
 have HT2:=Hd (fun u (q:Q u4 u) A B e1 e2 m1 m2 f1 f2 I F hi hf k1 k2 l1 l2 hm=>Rs.text_any rq Xq _ _ _ _ A B e1 e2 m1 m2 f1 f2 I F u HOKq.out (HR2.out.q q) hi hf k1 k2 l1 l2 hm)
 have HRP:=Hd (fun u (q:Q u4 u)=>Rs.parse_any r X _ _ _ _ t u HOK.out (HR1.out.q q) (by omega))
 have HTA:=Hd (fun u (q:Q u4 u) (hi:Lst u (.slice i1 k1 j1) TI) (hf:Lst u (.slice i2 k2 j2) TF)=>HT1.out u q tg ts i1 i2 k1 k2 j1 j2 TI TF hi hf HK1.out HK2.out (by omega) (by omega) HGM.out)
 have HTB:=Hd (fun u (q:Q u4 u) (hi:Lst u (.slice i1 k1 j1) TI) (hf:Lst u (.slice i2 k2 j2) TF)=>HT2.out u q tg ts i1 i2 k1 k2 j1 j2 TI TF hi hf HK1.out HK2.out (by omega) (by omega) HGM.out)
 have hz1:(tx r X ⟨tg,TI,ts,TF⟩).size <= 5000:=by
  have h:=tx_size HOK.out HGM.out
  dsimp only at h
  rw [HK1.out,HK2.out] at h
  have h5:64 * (2 * k1 + k2 + 7) <= 64 * 37:=Nat.mul_le_mul_left _ (by omega)
  omega
 have hz2:(tx rq Xq ⟨tg,TI,ts,TF⟩).size <= 5000:=by
  have h:=tx_size HOKq.out HGM.out
  dsimp only at h
  rw [HK1.out,HK2.out] at h
  have h5:64 * (2 * k1 + k2 + 7) <= 64 * 37:=Nat.mul_le_mul_left _ (by omega)
  omega
 have hr1:=rd_tx HOK.out HGM.out
 have hr2:=rd_tx HOKq.out HGM.out
 have HSA:=Hd (fun u (q:Q u4 u)=>HS12.out u q (tx r X ⟨tg,TI,ts,TF⟩) hz1)
 have HSB:=Hd (fun u (q:Q u4 u)=>HS21.out u q (tx rq Xq ⟨tg,TI,ts,TF⟩) hz2)
 have HSC:=Hd (fun u (q:Q u4 u)=>HS12.out u q t (by omega))
 rw [hr1.1,hr1.2,show shB true (tx rq Xq ⟨tg,TI,ts,TF⟩) = tx rq Xq ⟨tg,TI,ts,TF⟩ from rfl,show cdS true = 0 from rfl] at HSA
 rw [hr2.1,hr2.2,show shB true (tx r X ⟨tg,TI,ts,TF⟩) = tx r X ⟨tg,TI,ts,TF⟩ from rfl,show cdS true = 0 from rfl] at HSB
 have HRM:=Hd (rd_may r X t)
 have hrl2:=rd_len r X t
 generalize rd r X t = R at *
 generalize isS r X t = I at *
 obtain ⟨Cg,Ci,Cs,Cf⟩:=R
 dsimp only at hrl2
 obtain ⟨n1,hn1⟩:∃ k,k = Ci.length:=⟨_,rfl⟩
 obtain ⟨n2,hn2⟩:∃ k,k = Cf.length:=⟨_,rfl⟩
 rw [<- hn1,<- hn2] at hrl2
 have HTC:=Hd (fun u (q:Q u4 u) c1 c2 d1 d2 (hi:Lst u (.slice c1 n1 d1) Ci) (hf:Lst u (.slice c2 n2 d2) Cf)=>HT2.out u q Cg Cs c1 c2 n1 n2 d1 d2 Ci Cf hi hf hn1.symm hn2.symm (by omega) (by omega) HRM.out)
 have HN1:=Hd hn1.symm
 have HN2:=Hd hn2.symm
 generalize tx r X ⟨tg,TI,ts,TF⟩ = S1 at *
 generalize tx rq Xq ⟨tg,TI,ts,TF⟩ = S2 at *
 generalize tx rq Xq ⟨Cg,Ci,Cs,Cf⟩ = S3 at *
 clear HS12 HS21 HT1 HT2 hz1 hz2 hr1 hr2 HRM hrl2 hn1 hn2 hts HGM
 have HQ0:=Hd (Q.refl u4)
 clear HP1 HP2 HR1 HR2 HQ1 HQ2
 have xHOX0:=HOX.out.cell 0 rfl
 have xHOX1:=HOX.out.cell 1 rfl
 have xHOX2:=HOX.out.cell 2 rfl
 have xHOX3:=HOX.out.cell 3 rfl
 go_wp2_with (refine wpList_load_row (by rfl) 34 _ (by rfl) bL (by rfl) 34 #[.string (Lm.bs r.nam),.string (Lm.bs r.pat),.string (Lm.bs r.sys),.string (Lm.bs r.dec),.string (Lm.bs r.grp),.string (Lm.bs r.min),.string (Lm.bs r.per),.string (Lm.bs r.cur),.slice a1 X.pre.length a2,.slice b1 X.suf.length b2,.slice c1 X.npre.length c2,.slice d1 X.nsuf.length d2,.int .i64 X.pr,.int .i64 X.se,.int .i64 X.mi,.int .i64 X.mf,.int .i64 X.xf] (0,0) _ HLX.out Tryz.underlying34 rfl (by exact Ro.infoL) ?_)
 clear xHOX0 xHOX1 xHOX2 xHOX3
 refine (HTA.out _ HQ0.out HLI.out HLF.out).mono ?_
 rintro e u5 ⟨rfl,hq⟩
 replace HQ:=Hd (Q.trans HQ.out hq)
 replace HLX:=Hd (Bk.q HLX.out hq)
 replace HLY:=Hd (Bk.q HLY.out hq)
 replace HLI:=Hd (Lst.q HLI.out hq)
 replace HLF:=Hd (Lst.q HLF.out hq)
 replace HOX:=Hd (Bk.q HOX.out hq)
 replace HQ0:=Hd (Q.trans HQ0.out hq)
 clear hq
 go_wp2_with fail
 refine (HSA.out _ HQ0.out).mono ?_
 rintro e u6 ⟨rfl,hq⟩
 replace HQ:=Hd (Q.trans HQ.out hq)
 replace HLX:=Hd (Bk.q HLX.out hq)
 replace HLY:=Hd (Bk.q HLY.out hq)
 replace HLI:=Hd (Lst.q HLI.out hq)
 replace HLF:=Hd (Lst.q HLF.out hq)
 replace HOX:=Hd (Bk.q HOX.out hq)
 replace HQ0:=Hd (Q.trans HQ0.out hq)
 clear hq
 clear HSA
 go_wp2_with fail
 refine (HSB.out _ HQ0.out).mono ?_
 rintro e u7 ⟨rfl,hq⟩
 replace HQ:=Hd (Q.trans HQ.out hq)
 replace HLX:=Hd (Bk.q HLX.out hq)
 replace HLY:=Hd (Bk.q HLY.out hq)
 replace HLI:=Hd (Lst.q HLI.out hq)
 replace HLF:=Hd (Lst.q HLF.out hq)
 replace HOX:=Hd (Bk.q HOX.out hq)
 replace HQ0:=Hd (Q.trans HQ0.out hq)
 clear hq
 clear HSB
 go_wp2_with fail
 refine (HFW.out _).mono ?_
 rintro e _ ⟨rfl,rfl⟩
 clear HFW
 go_wp2_with fail
 refine (HSC.out _ HQ0.out).mono ?_
 rintro e u8 ⟨rfl,hq⟩
 obtain ⟨cd,hcd⟩:∃ c,c = cdS I:=⟨_,rfl⟩
 obtain ⟨od,hod⟩:∃ c,c = shB I S3:=⟨_,rfl⟩
 rw [<- hcd,<- hod]
 have HCD:=Hd hcd
 have HOD:=Hd hod
 clear hcd hod
 replace HQ:=Hd (Q.trans HQ.out hq)
 replace HLX:=Hd (Bk.q HLX.out hq)
 replace HLY:=Hd (Bk.q HLY.out hq)
 replace HLI:=Hd (Lst.q HLI.out hq)
 replace HLF:=Hd (Lst.q HLF.out hq)
 replace HOX:=Hd (Bk.q HOX.out hq)
 replace HQ0:=Hd (Q.trans HQ0.out hq)
 clear hq
 clear HSC
 go_wp2_with (refine wpList_load_row (by rfl) 34 _ (by rfl) bL (by rfl) 34 #[.string (Lm.bs r.nam),.string (Lm.bs r.pat),.string (Lm.bs r.sys),.string (Lm.bs r.dec),.string (Lm.bs r.grp),.string (Lm.bs r.min),.string (Lm.bs r.per),.string (Lm.bs r.cur),.slice a1 X.pre.length a2,.slice b1 X.suf.length b2,.slice c1 X.npre.length c2,.slice d1 X.nsuf.length d2,.int .i64 X.pr,.int .i64 X.se,.int .i64 X.mi,.int .i64 X.mf,.int .i64 X.xf] (0,0) _ HLX.out Tryz.underlying34 rfl (by exact Ro.infoL) ?_)
 refine (HRP.out _ HQ0.out).mono ?_
 rintro e u9 ⟨x,rfl,hld,hq⟩
 rw [<- HCD.out]
 obtain ⟨c1_,d1_,c2_,d2_,rfl,hl1,hl2⟩:=hld
 dsimp only at hl1 hl2 |-
 rw [HN1.out] at hl1 |-
 rw [HN2.out] at hl2 |-
 have HCI:=Hd hl1.lst
 have HCF:=Hd hl2.lst
 clear hl1 hl2
 replace HQ:=Hd (Q.trans HQ.out hq)
 replace HLX:=Hd (Bk.q HLX.out hq)
 replace HLY:=Hd (Bk.q HLY.out hq)
 replace HLI:=Hd (Lst.q HLI.out hq)
 replace HLF:=Hd (Lst.q HLF.out hq)
 replace HOX:=Hd (Bk.q HOX.out hq)
 replace HQ0:=Hd (Q.trans HQ0.out hq)
 clear hq
 clear HRP
 obtain ⟨u10,hwu10⟩:∃ z,z = u9.alloc (.cells #[.bool Cg,.slice c1_ n1 d1_,.bool Cs,.slice c2_ n2 d2_] 26):=⟨_,rfl⟩
 have hq:Q u9 u10:=by rw [hwu10];exact (Q.refl _).alloc _
 have HCX:=Hd (show Bk u10 u9.heap.size 26 [.bool Cg,.slice c1_ n1 d1_,.bool Cs,.slice c2_ n2 d2_] by rw [hwu10];exact Bk.new _ _ _)
 obtain ⟨bC,hbbC⟩:∃ k,k = u9.heap.size:=⟨_,rfl⟩
 rw [<- hbbC] at HCX
 replace HQ:=Hd (Q.trans HQ.out hq)
 replace HLX:=Hd (Bk.q HLX.out hq)
 replace HLY:=Hd (Bk.q HLY.out hq)
 replace HLI:=Hd (Lst.q HLI.out hq)
 replace HLF:=Hd (Lst.q HLF.out hq)
 replace HOX:=Hd (Bk.q HOX.out hq)
 replace HQ0:=Hd (Q.trans HQ0.out hq)
 replace HCI:=Hd (Lst.q HCI.out hq)
 replace HCF:=Hd (Lst.q HCF.out hq)
 clear hq
 go_upto_region 11 with fail
 rw [<- hwu10,<- hbbC]
 clear hwu10 hbbC
 have hcc:(cd == cd) = true:=by simp
 have hs1:(S1.toList == S1.toList) = true:=by simp
 have hs2:(S2.toList == S2.toList) = true:=by simp
 go_wp2_with (first | (refine Rs.load_rowG (by kernel_rfl) 34 _ (by rfl) bL (by rfl) 34 #[.string (Lm.bs r.nam),.string (Lm.bs r.pat),.string (Lm.bs r.sys),.string (Lm.bs r.dec),.string (Lm.bs r.grp),.string (Lm.bs r.min),.string (Lm.bs r.per),.string (Lm.bs r.cur),.slice a1 X.pre.length a2,.slice b1 X.suf.length b2,.slice c1 X.npre.length c2,.slice d1 X.nsuf.length d2,.int .i64 X.pr,.int .i64 X.se,.int .i64 X.mi,.int .i64 X.mf,.int .i64 X.xf] (0,0) _ HLX.out Tryz.underlying34 rfl (by exact Ro.infoL) ?_) | (refine Rs.load_rowG (by kernel_rfl) 34 _ (by rfl) bLq (by rfl) 34 #[.string (Lm.bs rq.nam),.string (Lm.bs rq.pat),.string (Lm.bs rq.sys),.string (Lm.bs rq.dec),.string (Lm.bs rq.grp),.string (Lm.bs rq.min),.string (Lm.bs rq.per),.string (Lm.bs rq.cur),.slice aq1 Xq.pre.length aq2,.slice bq1 Xq.suf.length bq2,.slice cq1 Xq.npre.length cq2,.slice dq1 Xq.nsuf.length dq2,.int .i64 Xq.pr,.int .i64 Xq.se,.int .i64 Xq.mi,.int .i64 Xq.mf,.int .i64 Xq.xf] (0,0) _ HLY.out Tryz.underlying34 rfl (by exact Ro.infoL) ?_) | (refine Rs.load_rowG (by kernel_rfl) 26 _ (by rfl) bO (by rfl) 26 #[.bool tg,.slice i1 k1 j1,.bool ts,.slice i2 k2 j2] (0,0) _ HOX.out Tryz.underlying26 rfl (by exact Rs.infoD) ?_) | (refine Rs.load_rowG (by kernel_rfl) 26 _ (by rfl) bC (by rfl) 26 #[.bool Cg,.slice c1_ n1 d1_,.bool Cs,.slice c2_ n2 d2_] (0,0) _ HCX.out Tryz.underlying26 rfl (by exact Rs.infoD) ?_))
 refine (HTB.out _ HQ0.out HLI.out HLF.out).mono ?_
 rintro e u11 ⟨rfl,hq⟩
 replace HQ:=Hd (Q.trans HQ.out hq)
 replace HLX:=Hd (Bk.q HLX.out hq)
 replace HLY:=Hd (Bk.q HLY.out hq)
 replace HLI:=Hd (Lst.q HLI.out hq)
 replace HLF:=Hd (Lst.q HLF.out hq)
 replace HOX:=Hd (Bk.q HOX.out hq)
 replace HQ0:=Hd (Q.trans HQ0.out hq)
 replace HCI:=Hd (Lst.q HCI.out hq)
 replace HCF:=Hd (Lst.q HCF.out hq)
 replace HCX:=Hd (Bk.q HCX.out hq)
 clear hq
 clear HTB
 go_wp2_with (first | (refine Rs.load_rowG (by kernel_rfl) 34 _ (by rfl) bL (by rfl) 34 #[.string (Lm.bs r.nam),.string (Lm.bs r.pat),.string (Lm.bs r.sys),.string (Lm.bs r.dec),.string (Lm.bs r.grp),.string (Lm.bs r.min),.string (Lm.bs r.per),.string (Lm.bs r.cur),.slice a1 X.pre.length a2,.slice b1 X.suf.length b2,.slice c1 X.npre.length c2,.slice d1 X.nsuf.length d2,.int .i64 X.pr,.int .i64 X.se,.int .i64 X.mi,.int .i64 X.mf,.int .i64 X.xf] (0,0) _ HLX.out Tryz.underlying34 rfl (by exact Ro.infoL) ?_) | (refine Rs.load_rowG (by kernel_rfl) 34 _ (by rfl) bLq (by rfl) 34 #[.string (Lm.bs rq.nam),.string (Lm.bs rq.pat),.string (Lm.bs rq.sys),.string (Lm.bs rq.dec),.string (Lm.bs rq.grp),.string (Lm.bs rq.min),.string (Lm.bs rq.per),.string (Lm.bs rq.cur),.slice aq1 Xq.pre.length aq2,.slice bq1 Xq.suf.length bq2,.slice cq1 Xq.npre.length cq2,.slice dq1 Xq.nsuf.length dq2,.int .i64 Xq.pr,.int .i64 Xq.se,.int .i64 Xq.mi,.int .i64 Xq.mf,.int .i64 Xq.xf] (0,0) _ HLY.out Tryz.underlying34 rfl (by exact Ro.infoL) ?_) | (refine Rs.load_rowG (by kernel_rfl) 26 _ (by rfl) bO (by rfl) 26 #[.bool tg,.slice i1 k1 j1,.bool ts,.slice i2 k2 j2] (0,0) _ HOX.out Tryz.underlying26 rfl (by exact Rs.infoD) ?_) | (refine Rs.load_rowG (by kernel_rfl) 26 _ (by rfl) bC (by rfl) 26 #[.bool Cg,.slice c1_ n1 d1_,.bool Cs,.slice c2_ n2 d2_] (0,0) _ HCX.out Tryz.underlying26 rfl (by exact Rs.infoD) ?_))
 refine (HTA.out _ HQ0.out HLI.out HLF.out).mono ?_
 rintro e u12 ⟨rfl,hq⟩
 replace HQ:=Hd (Q.trans HQ.out hq)
 replace HLX:=Hd (Bk.q HLX.out hq)
 replace HLY:=Hd (Bk.q HLY.out hq)
 replace HLI:=Hd (Lst.q HLI.out hq)
 replace HLF:=Hd (Lst.q HLF.out hq)
 replace HOX:=Hd (Bk.q HOX.out hq)
 replace HQ0:=Hd (Q.trans HQ0.out hq)
 replace HCI:=Hd (Lst.q HCI.out hq)
 replace HCF:=Hd (Lst.q HCF.out hq)
 replace HCX:=Hd (Bk.q HCX.out hq)
 clear hq
 clear HTA
 go_upto_region 13 with fail
 clear HLI HLF HOX
 cases I
 ·have hcd0:=HCD.out
  have hod0:=HOD.out
  rw [show cdS false = 2 from rfl] at hcd0
  rw [show shB false S3 = ⟨#[]⟩ from rfl] at hod0
  subst hcd0 hod0
  have hee:((⟨#[]⟩:ByteArray).toList == (⟨#[]⟩:ByteArray).toList) = true:=by simp
  go_wp2_with fail
  refine (Sp.lives_any _).mono ?_
  rintro e wz ⟨rfl,hqz⟩
  have HQZ:=Hd (HQ.out.trans hqz)
  clear hqz
  go_wp2_with fail
  go_ret
  exact ⟨rfl,HQZ.out⟩
 ·have hcd0:=HCD.out
  have hod0:=HOD.out
  rw [show cdS true = 0 from rfl] at hcd0
  rw [show shB true S3 = S3 from rfl] at hod0
  subst hcd0 hod0
  have hs3:(od.toList == od.toList) = true:=by simp
  go_wp2_with (first | (refine Rs.load_rowG (by kernel_rfl) 34 _ (by rfl) bL (by rfl) 34 #[.string (Lm.bs r.nam),.string (Lm.bs r.pat),.string (Lm.bs r.sys),.string (Lm.bs r.dec),.string (Lm.bs r.grp),.string (Lm.bs r.min),.string (Lm.bs r.per),.string (Lm.bs r.cur),.slice a1 X.pre.length a2,.slice b1 X.suf.length b2,.slice c1 X.npre.length c2,.slice d1 X.nsuf.length d2,.int .i64 X.pr,.int .i64 X.se,.int .i64 X.mi,.int .i64 X.mf,.int .i64 X.xf] (0,0) _ HLX.out Tryz.underlying34 rfl (by exact Ro.infoL) ?_) | (refine Rs.load_rowG (by kernel_rfl) 34 _ (by rfl) bLq (by rfl) 34 #[.string (Lm.bs rq.nam),.string (Lm.bs rq.pat),.string (Lm.bs rq.sys),.string (Lm.bs rq.dec),.string (Lm.bs rq.grp),.string (Lm.bs rq.min),.string (Lm.bs rq.per),.string (Lm.bs rq.cur),.slice aq1 Xq.pre.length aq2,.slice bq1 Xq.suf.length bq2,.slice cq1 Xq.npre.length cq2,.slice dq1 Xq.nsuf.length dq2,.int .i64 Xq.pr,.int .i64 Xq.se,.int .i64 Xq.mi,.int .i64 Xq.mf,.int .i64 Xq.xf] (0,0) _ HLY.out Tryz.underlying34 rfl (by exact Ro.infoL) ?_) | (refine Rs.load_rowG (by kernel_rfl) 26 _ (by rfl) bO (by rfl) 26 #[.bool tg,.slice i1 k1 j1,.bool ts,.slice i2 k2 j2] (0,0) _ HOX.out Tryz.underlying26 rfl (by exact Rs.infoD) ?_) | (refine Rs.load_rowG (by kernel_rfl) 26 _ (by rfl) bC (by rfl) 26 #[.bool Cg,.slice c1_ n1 d1_,.bool Cs,.slice c2_ n2 d2_] (0,0) _ HCX.out Tryz.underlying26 rfl (by exact Rs.infoD) ?_))
  refine (HTC.out _ HQ0.out _ _ _ _ HCI.out HCF.out).mono ?_
  rintro e wy ⟨rfl,hqy⟩
  have HQY:=Hd (HQ.out.trans hqy)
  clear hqy
  go_wp2_with fail
  refine (Sp.lives_any _).mono ?_
  rintro e wz ⟨rfl,hqz⟩
  have HQZ:=Hd (HQY.out.trans hqz)
  clear hqz
  go_wp2_with fail
  go_ret
  exact ⟨rfl,HQZ.out⟩
end Sp
end
end Go.Proofs.YtdjhkbholijnmaaGreatDoor
