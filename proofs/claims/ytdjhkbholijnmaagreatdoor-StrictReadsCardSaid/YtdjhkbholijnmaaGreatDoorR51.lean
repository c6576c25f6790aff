/- A draft's text is read as it. (and more) -/
import Derived.Test.YtdjhkbholijnmaaGreatDoorR41
import Derived.Test.YtdjhkbholijnmaaGreatDoorR46
set_option linter.all false
set_option maxRecDepth 100000
set_option maxHeartbeats 8000000
namespace Go.Proofs.YtdjhkbholijnmaaGreatDoor
section
open Go.RowKit
namespace Sp
open Um Cm Gm Im Lo Sx Tm
theorem law_reads (g0 g1 g2 g3 g4 g5 n:Int) (dg ds:Bool) (e1 e2:Option Addr) (m1 m2 f1 f2:Nat) (DI DF:List Int) (w:World) (h0:-9223372036854775808 <= g0 /\ g0 <= 9223372036854775807) (h1:-9223372036854775808 <= g1 /\ g1 <= 9223372036854775807) (h2:-9223372036854775808 <= g2 /\ g2 <= 9223372036854775807) (h3:-9223372036854775808 <= g3 /\ g3 <= 9223372036854775807) (h4:-9223372036854775808 <= g4 /\ g4 <= 9223372036854775807) (h5:-9223372036854775808 <= g5 /\ g5 <= 9223372036854775807) (hn:-9223372036854775808 <= n /\ n <= 9223372036854775807) (hi:Lst w (.slice e1 m1 f1) DI) (hf:Lst w (.slice e2 m2 f2) DF) (q1:DI.length = m1) (q2:DF.length = m2) (bi:∀ n ∈ DI,-9223372036854775808 <= n /\ n <= 9223372036854775807) (bf:∀ n ∈ DF,-9223372036854775808 <= n /\ n <= 9223372036854775807) :
  Calls Tryz.prog 3 #[.agg #[.int .i64 g0,.int .i64 g1,.int .i64 g2,.int .i64 g3,.int .i64 g4,.int .i64 g5],.int .i64 n,.agg #[.bool dg,.slice e1 m1 f1,.bool ds,.slice e2 m2 f2]] w fun e w'=>e = .returned (.bool true) /\ Q w w':=by
 have HBE:=Hd (fun u=>Sx.begin_any g0 g1 g2 g3 g4 g5 n u h0 h1 h2 h3 h4 h5 hn)
 have hic:=hi.form0 q1
 obtain ⟨_,_,hv,hnc,hcm⟩:=hic
 cases hv
 have hfc:=hf.form0 q2
 obtain ⟨_,_,hv,hnf,hfm⟩:=hfc
 cases hv
 unfold maxLen at hcm hfm
 have HGD:=Hd (fun u (q:Q w u)=>Tr.good_any dg ds e1 e2 m1 m2 f1 f2 DI DF u (hi.q q) (hf.q q) q1 q2 (by omega) (by omega) bi bf 12 6 (by omega) (by omega))
 have hgm:=Tm.gdT_may dg ds DI DF 12 6
 have hgl:=Tm.gdT_len dg ds DI DF 12 6
 generalize Tm.gdT dg ds DI DF 12 6 = D0 at *
 obtain ⟨tg,TI,ts,TF⟩:=D0
 dsimp only at hgl
 have HGM:=Hd hgm
 obtain ⟨k1,hk1⟩:∃ k,k = TI.length:=⟨_,rfl⟩
 obtain ⟨k2,hk2⟩:∃ k,k = TF.length:=⟨_,rfl⟩
 rw [<- hk1,<- hk2] at hgl
 have HK1:=Hd hk1.symm
 have HK2:=Hd hk2.symm
 obtain ⟨hb1,hb2⟩:=hgl
 clear hgm hk1 hk2
 clear hi hf q1 q2 bi bf h0 h1 h2 h3 h4 h5 hn hnc hcm hnf hfm
 obtain ⟨y0,hy0⟩:∃ z,z = w.alloc (.cells #[.int .i64 g0,.int .i64 g1,.int .i64 g2,.int .i64 g3,.int .i64 g4,.int .i64 g5] 23):=⟨_,rfl⟩
 have hq0:Q w y0:=by rw [hy0];exact (Q.refl _).alloc _
 have hs0:y0.heap.size = w.heap.size + 1:=by rw [hy0];simp
 have hc0:Bk y0 w.heap.size 23 [.int .i64 g0,.int .i64 g1,.int .i64 g2,.int .i64 g3,.int .i64 g4,.int .i64 g5]:=by rw [hy0];exact Bk.new _ _ _
 obtain ⟨y1,hy1⟩:∃ z,z = y0.alloc (.cells #[.bool dg,.slice e1 m1 f1,.bool ds,.slice e2 m2 f2] 26):=⟨_,rfl⟩
 have hq1:Q y0 y1:=by rw [hy1];exact (Q.refl _).alloc _
 have hs1:y1.heap.size = w.heap.size + 2:=by rw [hy1];simp;omega
 have hc1:Bk y1 y0.heap.size 26 [.bool dg,.slice e1 m1 f1,.bool ds,.slice e2 m2 f2]:=by rw [hy1];exact Bk.new _ _ _
 rw [hs0] at hc1
 have HQ:=Hd (hq0.trans hq1)
 have HGX:=Hd (hc0.q hq1)
 have HDX:=Hd hc1
 have hz2:y1 = (w.alloc (.cells #[.int .i64 g0,.int .i64 g1,.int .i64 g2,.int .i64 g3,.int .i64 g4,.int .i64 g5] 23)).alloc (.cells #[.bool dg,.slice e1 m1 f1,.bool ds,.slice e2 m2 f2] 26):=by rw [hy1,hy0]
 obtain ⟨bG,hbbG⟩:∃ k,k = w.heap.size:=⟨_,rfl⟩
 obtain ⟨bD,hbbD⟩:∃ k,k = w.heap.size + 1:=⟨_,rfl⟩
 clear hq0 hs0 hc0 hy0 hq1 hs1 hc1 hy1
 go_enter Tryz.func3,Tryz.ntmps3
 go_upto_region 1 with fail
 rw [<- hz2,<- hbbD,<- hbbG]
 rw [<- hbbG] at HGX
 rw [<- hbbD] at HDX
 clear hz2 hbbG hbbD
 have xHGX0:=HGX.out.cell 0 rfl
 have xHGX1:=HGX.out.cell 1 rfl
 have xHGX2:=HGX.out.cell 2 rfl
 have xHGX3:=HGX.out.cell 3 rfl
 have xHGX4:=HGX.out.cell 4 rfl
 have xHGX5:=HGX.out.cell 5 rfl
 go_wp2_with fail
 clear xHGX0 xHGX1 xHGX2 xHGX3 xHGX4 xHGX5
 clear HGX
 refine (HBE.out _).mono ?_
 rintro e w1 ⟨r,X,pv,vv,hok,rfl,⟨g,pa,pb,pc,pd,pcl,rfl,hpl⟩,⟨la,lb,lc,ld,rfl,hrl⟩,hq⟩
 have HOK:=Hd hok
 obtain ⟨a1,a2,rfl⟩:=hrl.1.shape
 obtain ⟨b1,b2,rfl⟩:=hrl.2.1.shape
 obtain ⟨c1,c2,rfl⟩:=hrl.2.2.1.shape
 obtain ⟨d1,d2,rfl⟩:=hrl.2.2.2.shape
 have HPA:=Hd (fun u (q:Q w1 u) s hs=>Sp.parse_any g r X pa pb pc pd pcl s u hok (hpl.q q) hs)
 have HVA:=Hd (fun u (q:Q w1 u) s hs=>Sp.value_any g r X pa pb pc pd pcl s u hok (hpl.q q) hs)
 have HIS:=Hd (fun u (q:Q w1 u) s hs=>Sp.is_any g r X pa pb pc pd pcl s u hok (hpl.q q) hs)
 have HTX:=Hd (fun u (q:Q w1 u) A B e1 e2 m1 m2 f1 f2 I F hi hf k1 k2 l1 l2 hm=>Rs.text_any r X _ _ _ _ A B e1 e2 m1 m2 f1 f2 I F u hok (hrl.q q) hi hf k1 k2 l1 l2 hm)
 replace HQ:=Hd (Q.trans HQ.out hq)
 replace HDX:=Hd (Bk.q HDX.out hq)
 clear hq hpl hrl hok HBE
 have HQ1:=Hd (Q.refl w1)
 obtain ⟨u1,hwu1⟩:∃ z,z = w1.alloc (.cells #[.string (Lm.bs r.nam),.string (Lm.bs r.pat),.string (Lm.bs r.sys),.string (Lm.bs r.dec),.string (Lm.bs r.grp),.string (Lm.bs r.min),.string (Lm.bs r.per),.string (Lm.bs r.cur),.slice a1 X.pre.length a2,.slice b1 X.suf.length b2,.slice c1 X.npre.length c2,.slice d1 X.nsuf.length d2,.int .i64 X.pr,.int .i64 X.se,.int .i64 X.mi,.int .i64 X.mf,.int .i64 X.xf] 34):=⟨_,rfl⟩
 have hq:Q w1 u1:=by rw [hwu1];exact (Q.refl _).alloc _
 have HLX:=Hd (show Bk u1 w1.heap.size 34 [.string (Lm.bs r.nam),.string (Lm.bs r.pat),.string (Lm.bs r.sys),.string (Lm.bs r.dec),.string (Lm.bs r.grp),.string (Lm.bs r.min),.string (Lm.bs r.per),.string (Lm.bs r.cur),.slice a1 X.pre.length a2,.slice b1 X.suf.length b2,.slice c1 X.npre.length c2,.slice d1 X.nsuf.length d2,.int .i64 X.pr,.int .i64 X.se,.int .i64 X.mi,.int .i64 X.mf,.int .i64 X.xf] by rw [hwu1];exact Bk.new _ _ _)
 obtain ⟨bL,hbbL⟩:∃ k,k = w1.heap.size:=⟨_,rfl⟩
 rw [<- hbbL] at HLX
 replace HQ:=Hd (Q.trans HQ.out hq)
 replace HDX:=Hd (Bk.q HDX.out hq)
 replace HQ1:=Hd (Q.trans HQ1.out hq)
 clear hq
 go_upto_region 2 with fail
 unfold Ro.lV
 rw [<- hwu1,<- hbbL]
 clear hwu1 hbbL
 have xHDX0:=HDX.out.cell 0 rfl
 have xHDX1:=HDX.out.cell 1 rfl
 have xHDX2:=HDX.out.cell 2 rfl
 have xHDX3:=HDX.out.cell 3 rfl
 go_wp2_with fail
 clear xHDX0 xHDX1 xHDX2 xHDX3
 refine (HGD.out _ HQ.out).mono ?_
 rintro e u2 ⟨x,rfl,hx3,hq⟩
 obtain ⟨i1,j1,i2,j2,rfl,hli,hlf⟩:=hx3
 dsimp only at hli hlf
 rw [HK1.out] at hli
 rw [HK2.out] at hlf
 have HLI:=Hd hli.lst
 have HLF:=Hd hlf.lst
 clear hli hlf
 replace HQ:=Hd (Q.trans HQ.out hq)
 replace HDX:=Hd (Bk.q HDX.out hq)
 replace HQ1:=Hd (Q.trans HQ1.out hq)
 replace HLX:=Hd (Bk.q HLX.out hq)
 clear hq
 obtain ⟨u3,hwu3⟩:∃ z,z = u2.alloc (.cells #[.bool tg,.slice i1 k1 j1,.bool ts,.slice i2 k2 j2] 26):=⟨_,rfl⟩
 have hq:Q u2 u3:=by rw [hwu3];exact (Q.refl _).alloc _
 have HOX:=Hd (show Bk u3 u2.heap.size 26 [.bool tg,.slice i1 k1 j1,.bool ts,.slice i2 k2 j2] by rw [hwu3];exact Bk.new _ _ _)
 obtain ⟨bO,hbbO⟩:∃ k,k = u2.heap.size:=⟨_,rfl⟩
 rw [<- hbbO] at HOX
 replace HQ:=Hd (Q.trans HQ.out hq)
 replace HDX:=Hd (Bk.q HDX.out hq)
 replace HQ1:=Hd (Q.trans HQ1.out hq)
 replace HLX:=Hd (Bk.q HLX.out hq)
 replace HLI:=Hd (Lst.q HLI.out hq)
 replace HLF:=Hd (Lst.q HLF.out hq)
 clear hq
 go_upto_region 5 with fail
 try rw [HK1.out,HK2.out]
 rw [<- hwu3,<- hbbO]
 clear hwu3 hbbO
 clear HDX
 clear HGD
 have xHOX0:=HOX.out.cell 0 rfl
 have xHOX1:=HOX.out.cell 1 rfl
 have xHOX2:=HOX.out.cell 2 rfl
 have xHOX3:=HOX.out.cell 3 rfl
 go_wp2_with (refine wpList_load_row (by rfl) 34 _ (by rfl) bL (by rfl) 34 #[.string (Lm.bs r.nam),.string (Lm.bs r.pat),.string (Lm.bs r.sys),.string (Lm.bs r.dec),.string (Lm.bs r.grp),.string (Lm.bs r.min),.string (Lm.bs r.per),.string (Lm.bs r.cur),.slice a1 X.pre.length a2,.slice b1 X.suf.length b2,.slice c1 X.npre.length c2,.slice d1 X.nsuf.length d2,.int .i64 X.pr,.int .i64 X.se,.int .i64 X.mi,.int .i64 X.mf,.int .i64 X.xf] (0,0) _ HLX.out Tryz.underlying34 rfl (by exact Ro.infoL) ?_)
 clear xHOX0 xHOX1 xHOX2 xHOX3
 refine (HTX.out _ HQ1.out tg ts i1 i2 k1 k2 j1 j2 TI TF HLI.out HLF.out HK1.out HK2.out (by omega) (by omega) HGM.out).mono ?_
 rintro e u4 ⟨rfl,hq⟩
 replace HQ:=Hd (Q.trans HQ.out hq)
 replace HQ1:=Hd (Q.trans HQ1.out hq)
 replace HLX:=Hd (Bk.q HLX.out hq)
 replace HLI:=Hd (Lst.q HLI.out hq)
 replace HLF:=Hd (Lst.q HLF.out hq)
 replace HOX:=Hd (Bk.q HOX.out hq)
 clear hq
 clear HTX
 have HSZ:=Hd (show (tx r X ⟨tg,TI,ts,TF⟩).size <= 5000 by
  have h:=tx_size HOK.out HGM.out
  dsimp only at h
  rw [HK1.out,HK2.out] at h
  have h5:64 * (2 * k1 + k2 + 7) <= 64 * 37:=Nat.mul_le_mul_left _ (by omega)
  omega)
 have HSH:=Hd (rd_tx HOK.out HGM.out)
 generalize tx r X ⟨tg,TI,ts,TF⟩ = S at *
 go_wp2_with fail
 refine (HPA.out _ HQ1.out S (by have:=HSZ.out;omega)).mono ?_
 rintro e u5 ⟨x,rfl,hld,hq⟩
 rw [HSH.out.2] at hld
 obtain ⟨x1,y1,x2,y2,rfl,hl1,hl2⟩:=hld
 dsimp only at hl1 hl2 |-
 rw [HK1.out] at hl1 |-
 rw [HK2.out] at hl2 |-
 have HXI:=Hd hl1.lst
 have HXF:=Hd hl2.lst
 clear hl1 hl2
 rw [HSH.out.1,show cdS true = 0 from rfl]
 replace HQ:=Hd (Q.trans HQ.out hq)
 replace HQ1:=Hd (Q.trans HQ1.out hq)
 replace HLX:=Hd (Bk.q HLX.out hq)
 replace HLI:=Hd (Lst.q HLI.out hq)
 replace HLF:=Hd (Lst.q HLF.out hq)
 replace HOX:=Hd (Bk.q HOX.out hq)
 clear hq
 clear HPA
 obtain ⟨u6,hwu6⟩:∃ z,z = u5.alloc (.cells #[.bool tg,.slice x1 k1 y1,.bool ts,.slice x2 k2 y2] 39):=⟨_,rfl⟩
 have hq:Q u5 u6:=by rw [hwu6];exact (Q.refl _).alloc _
 have HXX:=Hd (show Bk u6 u5.heap.size 39 [.bool tg,.slice x1 k1 y1,.bool ts,.slice x2 k2 y2] by rw [hwu6];exact Bk.new _ _ _)
 obtain ⟨bX,hbbX⟩:∃ k,k = u5.heap.size:=⟨_,rfl⟩
 rw [<- hbbX] at HXX
 replace HQ:=Hd (Q.trans HQ.out hq)
 replace HQ1:=Hd (Q.trans HQ1.out hq)
 replace HLX:=Hd (Bk.q HLX.out hq)
 replace HLI:=Hd (Lst.q HLI.out hq)
 replace HLF:=Hd (Lst.q HLF.out hq)
 replace HOX:=Hd (Bk.q HOX.out hq)
 replace HXI:=Hd (Lst.q HXI.out hq)
 replace HXF:=Hd (Lst.q HXF.out hq)
 clear hq
 go_upto_region 7 with fail
 rw [<- hwu6,<- hbbX]
 clear hwu6 hbbX
 go_wp2_with fail
 refine (HVA.out _ HQ1.out S HSZ.out).mono ?_
 rintro e u7 ⟨va,vc,rfl,hvl,hq⟩
 rw [HSH.out.2] at hvl |-
 rw [HSH.out.1,show cdS true = 0 from rfl]
 have HVL:=Hd hvl.lst
 clear hvl
 have HLN:=Hd (show (dL ⟨tg,TI,ts,TF⟩).length < 1000000 by
  have h:=dL_len HGM.out
  dsimp only at h
  rw [HK1.out,HK2.out] at h
  omega)
 have HDQ:=Hd (fun u i1 i2 j1 j2 (h1:Lst u (.slice i1 k1 j1) TI) (h2:Lst u (.slice i2 k2 j2) TF)=>rdec_q ⟨tg,TI,ts,TF⟩ HGM.out i1 i2 k1 k2 j1 j2 u h1 h2 HK1.out HK2.out (by omega) (by omega))
 dsimp only at HDQ
 generalize dG ⟨tg,TI,ts,TF⟩ = vg at *
 generalize dL ⟨tg,TI,ts,TF⟩ = VL at *
 generalize dS ⟨tg,TI,ts,TF⟩ = vs at *
 generalize hvn:VL.length = vn at *
 have HVN:=Hd hvn
 clear hvn
 replace HQ:=Hd (Q.trans HQ.out hq)
 replace HQ1:=Hd (Q.trans HQ1.out hq)
 replace HLX:=Hd (Bk.q HLX.out hq)
 replace HLI:=Hd (Lst.q HLI.out hq)
 replace HLF:=Hd (Lst.q HLF.out hq)
 replace HOX:=Hd (Bk.q HOX.out hq)
 replace HXI:=Hd (Lst.q HXI.out hq)
 replace HXF:=Hd (Lst.q HXF.out hq)
 replace HXX:=Hd (Bk.q HXX.out hq)
 clear hq
 clear HVA
 obtain ⟨u8,hwu8⟩:∃ z,z = u7.alloc (.cells #[.bool vg,.slice va vn vc,.int .i64 (vs:Nat)] 44):=⟨_,rfl⟩
 have hq:Q u7 u8:=by rw [hwu8];exact (Q.refl _).alloc _
 have HVX:=Hd (show Bk u8 u7.heap.size 44 [.bool vg,.slice va vn vc,.int .i64 (vs:Nat)] by rw [hwu8];exact Bk.new _ _ _)
 obtain ⟨bV,hbbV⟩:∃ k,k = u7.heap.size:=⟨_,rfl⟩
 rw [<- hbbV] at HVX
 replace HQ:=Hd (Q.trans HQ.out hq)
 replace HQ1:=Hd (Q.trans HQ1.out hq)
 replace HLX:=Hd (Bk.q HLX.out hq)
 replace HLI:=Hd (Lst.q HLI.out hq)
 replace HLF:=Hd (Lst.q HLF.out hq)
 replace HOX:=Hd (Bk.q HOX.out hq)
 replace HXI:=Hd (Lst.q HXI.out hq)
 replace HXF:=Hd (Lst.q HXF.out hq)
 replace HXX:=Hd (Bk.q HXX.out hq)
 replace HVL:=Hd (Lst.q HVL.out hq)
 clear hq
 go_upto_region 8 with fail
 rw [<- hwu8,<- hbbV]
 clear hwu8 hbbV
 have HSA:=Hd (fun u (q:Q u8 u)=>same_q ⟨tg,TI,ts,TF⟩ x1 x2 i1 i2 k1 k2 y1 y2 j1 j2 u (HXI.out.q q) (HXF.out.q q) (HLI.out.q q) (HLF.out.q q) (by dsimp only;rw [HK1.out];omega) (by dsimp only;rw [HK2.out];omega))
 dsimp only at HSA
 have HDE:=Hd (fun u (q:Q u8 u)=>HDQ.out u _ _ _ _ (HLI.out.q q) (HLF.out.q q))
 have HS6:=Hd (fun u (q:Q u8 u) dc dd (h:Lst u (.slice dc vn dd) VL)=>same6_q vg vs va dc vn vc dd VL u (HVL.out.q q) h (by rw [HVN.out];exact HLN.out))
 have HIA:=Hd (fun u (q:Q u8 u)=>HIS.out u (HQ1.out.trans q) S (by have:=HSZ.out;omega))
 rw [HSH.out.1] at HIA
 clear HDQ HIS HSH HLN
 refine wp_region_held_drew (S:=fun u=>Q u8 u) (by kernel_rfl) (by exact (Q.refl u8).drew) (fun hHeld=>?_)
 have hS:Q u8 u8.drew:=hHeld
 clear hHeld
 have hq:Q u8 u8.drew:=(Q.refl _).drew
 clear hq
 generalize u8.drew = yR1x0 at *
 change wpAnyH _ _ _ _ _ _ #[ff,ff,ff,ff,ff,ff,ff,ff,ff,ff,ff,ff,ff,ff,ff,ff,ff,ff,ff,ff,ff,ff,ff,ff,ff,ff] _ _
 refine tk 0 ?_
 try simp only [Act.put,sA,sB,sC]
 refine tk 1 ?_
 try simp only [Act.put,sA,sB,sC]
 refine tk 2 ?_
 try simp only [Act.put,sA,sB,sC]
 refine tk 3 ?_ (hy:=fun uz hSw=>by (try dsimp only at hSw);refine ld_row (x:=.tmp 11) ?_ ?_ (Bk.q HXX.out hSw) Tryz.underlying39 (by exact infoDr) <;> rfl)
 try simp only [Act.put,sA,sB,sC]
 refine tk 4 ?_ (hy:=fun uz hSw=>by (try dsimp only at hSw);refine ld_row (x:=.tmp 9) ?_ ?_ (Bk.q HOX.out hSw) Tryz.underlying26 (by exact Rs.infoD) <;> rfl)
 try simp only [Act.put,sA,sB,sC]
 refine wpAnyH_ready (rs:=[5]) (by kernel_rfl) (by simp) ?_
 refine ar fun K hK=>?_
 go_simp
 refine (HSA.out _ hS).mono ?_
 rintro e yR1x6 ⟨rfl,hq⟩
 try (go_wp2_with fail)
 have hS2:=Q.trans hS hq
 refine hK.out _ _ (by exact hS2) (fun hHeld=>?_)
 clear hK K hHeld hS hq
 have hS:=hS2
 clear hS2
 try simp only [Act.put,sA,sB,sC]
 refine tk 6 ?_
 try simp only [Act.put,sA,sB,sC]
 refine tk 7 ?_
 try simp only [Act.put,sA,sB,sC]
 refine tk 8 ?_
 try simp only [Act.put,sA,sB,sC]
 refine tk 9 ?_
 try simp only [Act.put,sA,sB,sC]
 refine tk 10 ?_
 try simp only [Act.put,sA,sB,sC]
 refine tk 11 ?_
 try simp only [Act.put,sA,sB,sC]
 refine tk 12 ?_ (hy:=fun uz hSw=>by (try dsimp only at hSw);refine ld_row (x:=.tmp 13) ?_ ?_ (Bk.q HVX.out hSw) Tryz.underlying44 (by exact infoDc) <;> rfl)
 try simp only [Act.put,sA,sB,sC]
 refine tk 13 ?_ (hy:=fun uz hSw=>by (try dsimp only at hSw);refine ld_row (x:=.tmp 9) ?_ ?_ (Bk.q HOX.out hSw) Tryz.underlying26 (by exact Rs.infoD) <;> rfl)
 try simp only [Act.put,sA,sB,sC]
 refine wpAnyH_ready (rs:=[14]) (by kernel_rfl) (by simp) ?_
 refine ar fun K hK=>?_
 go_simp
 refine (HDE.out _ hS).mono ?_
 rintro e yR1x15 ⟨da,dc,rfl,hdl,hq⟩
 have HDL:=Hd hdl
 clear hdl
 try (go_wp2_with fail)
 have hS2:=Q.trans hS hq
 refine hK.out _ _ (by exact hS2) (fun hHeld=>?_)
 clear hK K hHeld hS hq
 have hS:=hS2
 clear hS2
 try simp only [Act.put,sA,sB,sC]
 refine wpAnyH_ready (rs:=[15]) (by kernel_rfl) (by simp) ?_
 refine ar fun K hK=>?_
 go_simp
 refine (HS6.out _ hS _ _ HDL.out).mono ?_
 rintro e yR1x16 ⟨rfl,hq⟩
 try (go_wp2_with fail)
 have HDL:=Hd (Lst.q HDL.out hq)
 have hS2:=Q.trans hS hq
 refine hK.out _ _ (by exact hS2) (fun hHeld=>?_)
 clear hK K hHeld hS hq
 have hS:=hS2
 clear hS2
 try simp only [Act.put,sA,sB,sC]
 refine tk 16 ?_
 try simp only [Act.put,sA,sB,sC]
 refine tk 17 ?_
 try simp only [Act.put,sA,sB,sC]
 refine tk 18 ?_
 try simp only [Act.put,sA,sB,sC]
 refine tk 19 ?_
 try simp only [Act.put,sA,sB,sC]
 refine wpAnyH_ready (rs:=[20]) (by kernel_rfl) (by simp) ?_
 refine ar fun K hK=>?_
 go_simp
 refine (HIA.out _ hS).mono ?_
 rintro e yR1x21 ⟨rfl,hq⟩
 try (go_wp2_with fail)
 have HDL:=Hd (Lst.q HDL.out hq)
 have hS2:=Q.trans hS hq
 refine hK.out _ _ (by exact hS2) (fun hHeld=>?_)
 clear hK K hHeld hS hq
 have hS:=hS2
 clear hS2
 try simp only [Act.put,sA,sB,sC]
 refine tk 21 ?_
 try simp only [Act.put,sA,sB,sC]
 refine tk 22 ?_
 try simp only [Act.put,sA,sB,sC]
 refine wpAnyH_ready (rs:=[23]) (by kernel_rfl) (by simp) ?_
 refine ar fun K hK=>?_
 go_simp
 refine (Sp.lives_any _).mono ?_
 rintro e yR1x24 ⟨rfl,hq⟩
 try (go_wp2_with fail)
 have HDL:=Hd (Lst.q HDL.out hq)
 have hS2:=Q.trans hS hq
 refine hK.out _ _ (by exact hS2) (fun hHeld=>?_)
 clear hK K hHeld hS hq
 have hS:=hS2
 clear hS2
 try simp only [Act.put,sA,sB,sC]
 refine tk 24 ?_
 try simp only [Act.put,sA,sB,sC]
 refine tk 25 ?_
 try simp only [Act.put,sA,sB,sC]
 refine wpAnyH_done (by kernel_rfl) ?_ _
 have HQF:=Hd (HQ.out.trans hS)
 clear hS
 go_wp2_with fail
 go_ret
 exact ⟨rfl,HQF.out⟩
end Sp
end
end Go.Proofs.YtdjhkbholijnmaaGreatDoor
