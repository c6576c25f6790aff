/- A text's items are its draft's, or there are none. (and more) -/
import Derived.Test.YtdjhkbholijnmaaGreatDoorR45
import Derived.Test.YtdjhkbholijnmaaGreatDoorR41
import Derived.Test.YtdjhkbholijnmaaGreatDoorR46
set_option linter.all false
set_option maxRecDepth 100000
set_option maxHeartbeats 8000000
namespace Go.Proofs.YtdjhkbholijnmaaGreatDoor
section
open Go.RowKit
namespace Sp
open Um Cm Gm Im Lo Sx Tm
theorem law_items (g0 g1 g2 g3 g4 g5 n:Int) (dg ds:Bool) (e1 e2:Option Addr) (m1 m2 f1 f2:Nat) (DI DF:List Int) (s:ByteArray) (w:World) (h0:-9223372036854775808 <= g0 /\ g0 <= 9223372036854775807) (h1:-9223372036854775808 <= g1 /\ g1 <= 9223372036854775807) (h2:-9223372036854775808 <= g2 /\ g2 <= 9223372036854775807) (h3:-9223372036854775808 <= g3 /\ g3 <= 9223372036854775807) (h4:-9223372036854775808 <= g4 /\ g4 <= 9223372036854775807) (h5:-9223372036854775808 <= g5 /\ g5 <= 9223372036854775807) (hn:-9223372036854775808 <= n /\ n <= 9223372036854775807) (hi:Lst w (.slice e1 m1 f1) DI) (hf:Lst w (.slice e2 m2 f2) DF) (q1:DI.length = m1) (q2:DF.length = m2) (bi:∀ n ∈ DI,-9223372036854775808 <= n /\ n <= 9223372036854775807) (bf:∀ n ∈ DF,-9223372036854775808 <= n /\ n <= 9223372036854775807) (hs:s.size <= maxLen) :
  Calls Tryz.prog 7 #[.agg #[.int .i64 g0,.int .i64 g1,.int .i64 g2,.int .i64 g3,.int .i64 g4,.int .i64 g5],.int .i64 n,.agg #[.bool dg,.slice e1 m1 f1,.bool ds,.slice e2 m2 f2],.string s] w fun e w'=>e = .returned (.bool true) /\ Q w w':=by
 have HBE:=Hd (fun u=>Sx.begin_any g0 g1 g2 g3 g4 g5 n u h0 h1 h2 h3 h4 h5 hn)
 have HFW:=Hd (fun u=>Ur.few_any s 20 u hs (by omega))
 rw [show ((20:Nat):Int) = 20 from rfl] at HFW
 have hts:=Ur.few_size s 20
 generalize Ur.few s 20 = t at *
 clear hs
 have hic:=hi.form0 q1
 obtain ⟨_,_,hv,hnc,hcm⟩:=hic
 cases hv
 have hfc:=hf.form0 q2
 obtain ⟨_,_,hv,hnf,hfm⟩:=hfc
 cases hv
 unfold maxLen at hcm hfm
 have HGD:=Hd (fun u (q:Q w u)=>Tr.good_any dg ds e1 e2 m1 m2 f1 f2 DI DF u (hi.q q) (hf.q q) q1 q2 (by omega) (by omega) bi bf 10 5 (by omega) (by omega))
 have hgm:=Tm.gdT_may dg ds DI DF 10 5
 have hgl:=Tm.gdT_len dg ds DI DF 10 5
 generalize Tm.gdT dg ds DI DF 10 5 = D0 at *
 obtain ⟨tg,TI,ts,TF⟩:=D0
 dsimp only at hgl
 have HGM:=Hd hgm
 obtain ⟨k1,hk1⟩:∃ k,k = TI.length:=⟨_,rfl⟩
 obtain ⟨k2,hk2⟩:∃ k,k = TF.length:=⟨_,rfl⟩
 rw [<- hk1,<- hk2] at hgl
 have HK1:=Hd hk1.symm
 have HK2:=Hd hk2.symm
 obtain ⟨hb1,hb2⟩:=hgl
 clear hgm hk1 hk2
 clear hi hf q1 q2 bi bf h0 h1 h2 h3 h4 h5 hn hnc hcm hnf hfm
 obtain ⟨y0,hy0⟩:∃ z,z = w.alloc (.cells #[.int .i64 g0,.int .i64 g1,.int .i64 g2,.int .i64 g3,.int .i64 g4,.int .i64 g5] 23):=⟨_,rfl⟩
 have hq0:Q w y0:=by rw [hy0];exact (Q.refl _).alloc _
 have hs0:y0.heap.size = w.heap.size + 1:=by rw [hy0];simp
 have hc0:Bk y0 w.heap.size 23 [.int .i64 g0,.int .i64 g1,.int .i64 g2,.int .i64 g3,.int .i64 g4,.int .i64 g5]:=by rw [hy0];exact Bk.new _ _ _
 obtain ⟨y1,hy1⟩:∃ z,z = y0.alloc (.cells #[.bool dg,.slice e1 m1 f1,.bool ds,.slice e2 m2 f2] 26):=⟨_,rfl⟩
 have hq1:Q y0 y1:=by rw [hy1];exact (Q.refl _).alloc _
 have hs1:y1.heap.size = w.heap.size + 2:=by rw [hy1];simp;omega
 have hc1:Bk y1 y0.heap.size 26 [.bool dg,.slice e1 m1 f1,.bool ds,.slice e2 m2 f2]:=by rw [hy1];exact Bk.new _ _ _
 rw [hs0] at hc1
 have HQ:=Hd (hq0.trans hq1)
 have HGX:=Hd (hc0.q hq1)
 have HDX:=Hd hc1
 have hz2:y1 = (w.alloc (.cells #[.int .i64 g0,.int .i64 g1,.int .i64 g2,.int .i64 g3,.int .i64 g4,.int .i64 g5] 23)).alloc (.cells #[.bool dg,.slice e1 m1 f1,.bool ds,.slice e2 m2 f2] 26):=by rw [hy1,hy0]
 obtain ⟨bG,hbbG⟩:∃ k,k = w.heap.size:=⟨_,rfl⟩
 obtain ⟨bD,hbbD⟩:∃ k,k = w.heap.size + 1:=⟨_,rfl⟩
 clear hq0 hs0 hc0 hy0 hq1 hs1 hc1 hy1
 go_enter Tryz.func7,Tryz.ntmps7
 go_upto_region 1 with fail
 rw [<- hz2,<- hbbD,<- hbbG]
 rw [<- hbbG] at HGX
 rw [<- hbbD] at HDX
 clear hz2 hbbG hbbD
 have xHGX0:=HGX.out.cell 0 rfl
 have xHGX1:=HGX.out.cell 1 rfl
 have xHGX2:=HGX.out.cell 2 rfl
 have xHGX3:=HGX.out.cell 3 rfl
 have xHGX4:=HGX.out.cell 4 rfl
 have xHGX5:=HGX.out.cell 5 rfl
 go_wp2_with fail
 clear xHGX0 xHGX1 xHGX2 xHGX3 xHGX4 xHGX5
 clear HGX
 refine (HBE.out _).mono ?_
 rintro e w1 ⟨r,X,pv,vv,hok,rfl,⟨g,pa,pb,pc,pd,pcl,rfl,hpl⟩,⟨la,lb,lc,ld,rfl,hrl⟩,hq⟩
 have HOK:=Hd hok
 obtain ⟨a1,a2,rfl⟩:=hrl.1.shape
 obtain ⟨b1,b2,rfl⟩:=hrl.2.1.shape
 obtain ⟨c1,c2,rfl⟩:=hrl.2.2.1.shape
 obtain ⟨d1,d2,rfl⟩:=hrl.2.2.2.shape
 have HSI:=Hd (fun u (q:Q w1 u) s hs=>Sp.items_any g r X pa pb pc pd pcl s u hok (hpl.q q) hs)
 have HVA:=Hd (fun u (q:Q w1 u) s hs=>Sp.value_any g r X pa pb pc pd pcl s u hok (hpl.q q) hs)
 have HTX:=Hd (fun u (q:Q w1 u) A B e1 e2 m1 m2 f1 f2 I F hi hf k1 k2 l1 l2 hm=>Rs.text_any r X _ _ _ _ A B e1 e2 m1 m2 f1 f2 I F u hok (hrl.q q) hi hf k1 k2 l1 l2 hm)
 have HRP:=Hd (fun u (q:Q w1 u) t ht=>Rs.parse_any r X _ _ _ _ t u hok (hrl.q q) ht)
 have HRI:=Hd (fun u (q:Q w1 u) Dg Di Ds Df e1 e2 n1 n2 f1 f2 (hi:Lst u (.slice e1 n1 f1) Di) (hf:Lst u (.slice e2 n2 f2) Df) (k1:Di.length = n1) (k2:Df.length = n2) (l1:n1 <= 5000) (l2:n2 <= 5000) (hm:may ⟨Dg,Di,Ds,Df⟩ = true)=>show Calls Tryz.prog 22 #[.agg #[.string (Lm.bs r.nam),.string (Lm.bs r.pat),.string (Lm.bs r.sys),.string (Lm.bs r.dec),.string (Lm.bs r.grp),.string (Lm.bs r.min),.string (Lm.bs r.per),.string (Lm.bs r.cur),.slice a1 X.pre.length a2,.slice b1 X.suf.length b2,.slice c1 X.npre.length c2,.slice d1 X.nsuf.length d2,.int .i64 X.pr,.int .i64 X.se,.int .i64 X.mi,.int .i64 X.mf,.int .i64 X.xf],.agg #[.bool Dg,.slice e1 n1 f1,.bool Ds,.slice e2 n2 f2]] u fun e w'=>∃ x,e = .returned x /\ OwnI 64 w' u.heap.size x (itd r X ⟨Dg,Di,Ds,Df⟩) /\ Q u w' from It.ritems_big r X _ _ _ _ Dg Ds e1 e2 n1 n2 f1 f2 Di Df u hok.ok (hrl.q q) hi hf k1 k2 (by omega) (by omega) hm hok.pr hok.se.2)
 replace HQ:=Hd (Q.trans HQ.out hq)
 replace HDX:=Hd (Bk.q HDX.out hq)
 clear hq hpl hrl hok HBE
 have HQ1:=Hd (Q.refl w1)
 obtain ⟨u1,hwu1⟩:∃ z,z = w1.alloc (.cells #[.string (Lm.bs r.nam),.string (Lm.bs r.pat),.string (Lm.bs r.sys),.string (Lm.bs r.dec),.string (Lm.bs r.grp),.string (Lm.bs r.min),.string (Lm.bs r.per),.string (Lm.bs r.cur),.slice a1 X.pre.length a2,.slice b1 X.suf.length b2,.slice c1 X.npre.length c2,.slice d1 X.nsuf.length d2,.int .i64 X.pr,.int .i64 X.se,.int .i64 X.mi,.int .i64 X.mf,.int .i64 X.xf] 34):=⟨_,rfl⟩
 have hq:Q w1 u1:=by rw [hwu1];exact (Q.refl _).alloc _
 have HLX:=Hd (show Bk u1 w1.heap.size 34 [.string (Lm.bs r.nam),.string (Lm.bs r.pat),.string (Lm.bs r.sys),.string (Lm.bs r.dec),.string (Lm.bs r.grp),.string (Lm.bs r.min),.string (Lm.bs r.per),.string (Lm.bs r.cur),.slice a1 X.pre.length a2,.slice b1 X.suf.length b2,.slice c1 X.npre.length c2,.slice d1 X.nsuf.length d2,.int .i64 X.pr,.int .i64 X.se,.int .i64 X.mi,.int .i64 X.mf,.int .i64 X.xf] by rw [hwu1];exact Bk.new _ _ _)
 obtain ⟨bL,hbbL⟩:∃ k,k = w1.heap.size:=⟨_,rfl⟩
 rw [<- hbbL] at HLX
 replace HQ:=Hd (Q.trans HQ.out hq)
 replace HDX:=Hd (Bk.q HDX.out hq)
 replace HQ1:=Hd (Q.trans HQ1.out hq)
 clear hq
 go_upto_region 2 with fail
 unfold Ro.lV
 rw [<- hwu1,<- hbbL]
 clear hwu1 hbbL
 go_wp2_with fail
 refine (HFW.out _).mono ?_
 rintro e _ ⟨rfl,rfl⟩
 have xHDX0:=HDX.out.cell 0 rfl
 have xHDX1:=HDX.out.cell 1 rfl
 have xHDX2:=HDX.out.cell 2 rfl
 have xHDX3:=HDX.out.cell 3 rfl
 go_wp2_with fail
 clear xHDX0 xHDX1 xHDX2 xHDX3
 refine (HGD.out _ HQ.out).mono ?_
 rintro e u2 ⟨x,rfl,hx3,hq⟩
 obtain ⟨i1,j1,i2,j2,rfl,hli,hlf⟩:=hx3
 dsimp only at hli hlf
 rw [HK1.out] at hli
 rw [HK2.out] at hlf
 have HLI:=Hd hli.lst
 have HLF:=Hd hlf.lst
 clear hli hlf
 replace HQ:=Hd (Q.trans HQ.out hq)
 replace HDX:=Hd (Bk.q HDX.out hq)
 replace HQ1:=Hd (Q.trans HQ1.out hq)
 replace HLX:=Hd (Bk.q HLX.out hq)
 clear hq
 obtain ⟨u3,hwu3⟩:∃ z,z = u2.alloc (.cells #[.bool tg,.slice i1 k1 j1,.bool ts,.slice i2 k2 j2] 26):=⟨_,rfl⟩
 have hq:Q u2 u3:=by rw [hwu3];exact (Q.refl _).alloc _
 have HOX:=Hd (show Bk u3 u2.heap.size 26 [.bool tg,.slice i1 k1 j1,.bool ts,.slice i2 k2 j2] by rw [hwu3];exact Bk.new _ _ _)
 obtain ⟨bO,hbbO⟩:∃ k,k = u2.heap.size:=⟨_,rfl⟩
 rw [<- hbbO] at HOX
 replace HQ:=Hd (Q.trans HQ.out hq)
 replace HDX:=Hd (Bk.q HDX.out hq)
 replace HQ1:=Hd (Q.trans HQ1.out hq)
 replace HLX:=Hd (Bk.q HLX.out hq)
 replace HLI:=Hd (Lst.q HLI.out hq)
 replace HLF:=Hd (Lst.q HLF.out hq)
 clear hq
 go_upto_region 6 with fail
 try rw [HK1.out,HK2.out]
 rw [<- hwu3,<- hbbO]
 clear hwu3 hbbO
 clear HDX
 clear HGD HFW
 have xHOX0:=HOX.out.cell 0 rfl
 have xHOX1:=HOX.out.cell 1 rfl
 have xHOX2:=HOX.out.cell 2 rfl
 have xHOX3:=HOX.out.cell 3 rfl
 go_wp2_with (refine wpList_load_row (by rfl) 34 _ (by rfl) bL (by rfl) 34 #[.string (Lm.bs r.nam),.string (Lm.bs r.pat),.string (Lm.bs r.sys),.string (Lm.bs r.dec),.string (Lm.bs r.grp),.string (Lm.bs r.min),.string (Lm.bs r.per),.string (Lm.bs r.cur),.slice a1 X.pre.length a2,.slice b1 X.suf.length b2,.slice c1 X.npre.length c2,.slice d1 X.nsuf.length d2,.int .i64 X.pr,.int .i64 X.se,.int .i64 X.mi,.int .i64 X.mf,.int .i64 X.xf] (0,0) _ HLX.out Tryz.underlying34 rfl (by exact Ro.infoL) ?_)
 clear xHOX0 xHOX1 xHOX2 xHOX3
 refine (HTX.out _ HQ1.out tg ts i1 i2 k1 k2 j1 j2 TI TF HLI.out HLF.out HK1.out HK2.out (by omega) (by omega) HGM.out).mono ?_
 rintro e u4 ⟨rfl,hq⟩
 replace HQ:=Hd (Q.trans HQ.out hq)
 replace HQ1:=Hd (Q.trans HQ1.out hq)
 replace HLX:=Hd (Bk.q HLX.out hq)
 replace HLI:=Hd (Lst.q HLI.out hq)
 replace HLF:=Hd (Lst.q HLF.out hq)
 replace HOX:=Hd (Bk.q HOX.out hq)
 clear hq
 clear HTX
 have HSZ:=Hd (show (tx r X ⟨tg,TI,ts,TF⟩).size <= 5000 by
  have h:=tx_size HOK.out HGM.out
  dsimp only at h
  rw [HK1.out,HK2.out] at h
  have h5:64 * (2 * k1 + k2 + 7) <= 64 * 37:=Nat.mul_le_mul_left _ (by omega)
  omega)
 have HSH:=Hd (rd_tx HOK.out HGM.out)
 generalize tx r X ⟨tg,TI,ts,TF⟩ = S at *
 have HSS:=Hd (fun u (q:Q w1 u)=>HSI.out u q S HSZ.out)
 rw [HSH.out.1,HSH.out.2] at HSS
 have HRM:=Hd (rd_may r X t)
 have HRN:=Hd (fun (h:isS r X t = false)=>rd_none h)
 have hrl2:=rd_len r X t
 have HSI2:=Hd (fun u (q:Q w1 u)=>HSI.out u q t (by omega))
 have HVA2:=Hd (fun u (q:Q w1 u)=>HVA.out u q t (by omega))
 have HRP2:=Hd (fun u (q:Q w1 u)=>HRP.out u q t (by omega))
 have HI0:=Hd (fun u (q:Q w1 u) i1 i2 j1 j2 hi hf=>HRI.out u q tg TI ts TF i1 i2 k1 k2 j1 j2 hi hf HK1.out HK2.out (by omega) (by omega) HGM.out)
 have HLL:=Hd (itd_small HOK.out HGM.out (by dsimp only;rw [HK1.out];omega) (by dsimp only;rw [HK2.out];omega)).1
 generalize rd r X t = R at *
 generalize isS r X t = I at *
 obtain ⟨Cg,Ci,Cs,Cf⟩:=R
 dsimp only at hrl2
 obtain ⟨n1,hn1⟩:∃ k,k = Ci.length:=⟨_,rfl⟩
 obtain ⟨n2,hn2⟩:∃ k,k = Cf.length:=⟨_,rfl⟩
 have HI1:=Hd (fun u (q:Q w1 u) i1 i2 j1 j2 hi hf=>HRI.out u q Cg Ci Cs Cf i1 i2 n1 n2 j1 j2 hi hf hn1.symm hn2.symm (by omega) (by omega) HRM.out)
 have HLC:=Hd (itd_small HOK.out HRM.out (by dsimp only;omega) (by dsimp only;omega)).1
 rw [<- hn1,<- hn2] at hrl2
 have HDN:=Hd (show (dL ⟨Cg,Ci,Cs,Cf⟩).length < 1000000 by
  have h:=dL_len HRM.out
  dsimp only at h
  rw [<- hn1,<- hn2] at h
  omega)
 have HDQ:=Hd (fun u i1 i2 j1 j2 (h1:Lst u (.slice i1 n1 j1) Ci) (h2:Lst u (.slice i2 n2 j2) Cf)=>rdec_q ⟨Cg,Ci,Cs,Cf⟩ HRM.out i1 i2 n1 n2 j1 j2 u h1 h2 hn1.symm hn2.symm (by omega) (by omega))
 dsimp only at HDQ
 have HZD:=Hd (fun (h:I = false)=>show dL ⟨Cg,Ci,Cs,Cf⟩ = [] by rw [HRN.out h];exact d_zero.2.1)
 generalize hLW:itd r X ⟨tg,TI,ts,TF⟩ = LW at *
 generalize hLC:itd r X ⟨Cg,Ci,Cs,Cf⟩ = LC at *
 generalize dG ⟨Cg,Ci,Cs,Cf⟩ = vg at *
 generalize dL ⟨Cg,Ci,Cs,Cf⟩ = VL at *
 generalize dS ⟨Cg,Ci,Cs,Cf⟩ = vs at *
 have HN1:=Hd hn1.symm
 have HN2:=Hd hn2.symm
 have HLL2:=Hd hrl2
 clear hLW hLC hn1 hn2 HSI HVA HRP HRI HRM HRN HSH HGM hrl2 hts
 go_wp2_with fail
 refine (HSS.out _ HQ1.out).mono ?_
 rintro e u5 ⟨va,rfl,hlw,hq⟩
 rw [show shI true LW = LW from rfl] at hlw
 rw [show cdS true = 0 from rfl]
 obtain ⟨nW,hnW⟩:∃ n,n = LW.length:=⟨_,rfl⟩
 obtain ⟨xa,xc,rfl,_,_⟩:=hlw.form0 hnW.symm
 have HWA:=Hd hlw
 have HNW:=Hd hnW.symm
 rw [<- hnW] at HLL
 clear hlw hnW
 replace HQ:=Hd (Q.trans HQ.out hq)
 replace HQ1:=Hd (Q.trans HQ1.out hq)
 replace HLX:=Hd (Bk.q HLX.out hq)
 replace HLI:=Hd (Lst.q HLI.out hq)
 replace HLF:=Hd (Lst.q HLF.out hq)
 replace HOX:=Hd (Bk.q HOX.out hq)
 clear hq
 clear HSS
 go_wp2_with fail
 refine (HSI2.out _ HQ1.out).mono ?_
 rintro e u6 ⟨vb,rfl,hlb,hq⟩
 obtain ⟨nb,hnb⟩:∃ n,n = (shI I LC).length:=⟨_,rfl⟩
 obtain ⟨ba,bc,rfl,_,_⟩:=hlb.form0 hnb.symm
 have HNB:=Hd hnb.symm
 clear hlb hnb
 obtain ⟨cd,hcd⟩:∃ c,c = cdS I:=⟨_,rfl⟩
 rw [<- hcd]
 have HCD:=Hd hcd
 clear hcd
 replace HQ:=Hd (Q.trans HQ.out hq)
 replace HQ1:=Hd (Q.trans HQ1.out hq)
 replace HLX:=Hd (Bk.q HLX.out hq)
 replace HLI:=Hd (Lst.q HLI.out hq)
 replace HLF:=Hd (Lst.q HLF.out hq)
 replace HOX:=Hd (Bk.q HOX.out hq)
 replace HWA:=Hd (LstI.q HWA.out hq)
 clear hq
 clear HSI2
 go_wp2_with fail
 refine (HVA2.out _ HQ1.out).mono ?_
 rintro e u7 ⟨va,vc,rfl,hvl,hq⟩
 rw [<- HCD.out]
 have HVL:=Hd hvl.lst
 obtain ⟨vn,hvn⟩:∃ n,n = VL.length:=⟨_,rfl⟩
 rw [<- hvn] at HVL |-
 have HVN:=Hd hvn.symm
 clear hvn hvl
 replace HQ:=Hd (Q.trans HQ.out hq)
 replace HQ1:=Hd (Q.trans HQ1.out hq)
 replace HLX:=Hd (Bk.q HLX.out hq)
 replace HLI:=Hd (Lst.q HLI.out hq)
 replace HLF:=Hd (Lst.q HLF.out hq)
 replace HOX:=Hd (Bk.q HOX.out hq)
 replace HWA:=Hd (LstI.q HWA.out hq)
 clear hq
 clear HVA2
 obtain ⟨u8,hwu8⟩:∃ z,z = u7.alloc (.cells #[.bool vg,.slice va vn vc,.int .i64 (vs:Nat)] 44):=⟨_,rfl⟩
 have hq:Q u7 u8:=by rw [hwu8];exact (Q.refl _).alloc _
 have HVX:=Hd (show Bk u8 u7.heap.size 44 [.bool vg,.slice va vn vc,.int .i64 (vs:Nat)] by rw [hwu8];exact Bk.new _ _ _)
 obtain ⟨bV,hbbV⟩:∃ k,k = u7.heap.size:=⟨_,rfl⟩
 rw [<- hbbV] at HVX
 replace HQ:=Hd (Q.trans HQ.out hq)
 replace HQ1:=Hd (Q.trans HQ1.out hq)
 replace HLX:=Hd (Bk.q HLX.out hq)
 replace HLI:=Hd (Lst.q HLI.out hq)
 replace HLF:=Hd (Lst.q HLF.out hq)
 replace HOX:=Hd (Bk.q HOX.out hq)
 replace HWA:=Hd (LstI.q HWA.out hq)
 replace HVL:=Hd (Lst.q HVL.out hq)
 clear hq
 go_upto_region 9 with fail
 rw [<- hwu8,<- hbbV]
 clear hwu8 hbbV
 go_wp2_with (refine wpList_load_row (by rfl) 34 _ (by rfl) bL (by rfl) 34 #[.string (Lm.bs r.nam),.string (Lm.bs r.pat),.string (Lm.bs r.sys),.string (Lm.bs r.dec),.string (Lm.bs r.grp),.string (Lm.bs r.min),.string (Lm.bs r.per),.string (Lm.bs r.cur),.slice a1 X.pre.length a2,.slice b1 X.suf.length b2,.slice c1 X.npre.length c2,.slice d1 X.nsuf.length d2,.int .i64 X.pr,.int .i64 X.se,.int .i64 X.mi,.int .i64 X.mf,.int .i64 X.xf] (0,0) _ HLX.out Tryz.underlying34 rfl (by exact Ro.infoL) ?_)
 refine (HRP2.out _ HQ1.out).mono ?_
 rintro e u9 ⟨x,rfl,hld,hq⟩
 rw [<- HCD.out]
 obtain ⟨c1_,d1_,c2_,d2_,rfl,hl1,hl2⟩:=hld
 dsimp only at hl1 hl2 |-
 rw [HN1.out] at hl1 |-
 rw [HN2.out] at hl2 |-
 have HCI:=Hd hl1.lst
 have HCF:=Hd hl2.lst
 clear hl1 hl2
 replace HQ:=Hd (Q.trans HQ.out hq)
 replace HQ1:=Hd (Q.trans HQ1.out hq)
 replace HLX:=Hd (Bk.q HLX.out hq)
 replace HLI:=Hd (Lst.q HLI.out hq)
 replace HLF:=Hd (Lst.q HLF.out hq)
 replace HOX:=Hd (Bk.q HOX.out hq)
 replace HWA:=Hd (LstI.q HWA.out hq)
 replace HVL:=Hd (Lst.q HVL.out hq)
 replace HVX:=Hd (Bk.q HVX.out hq)
 clear hq
 clear HRP2
 obtain ⟨u10,hwu10⟩:∃ z,z = u9.alloc (.cells #[.bool Cg,.slice c1_ n1 d1_,.bool Cs,.slice c2_ n2 d2_] 26):=⟨_,rfl⟩
 have hq:Q u9 u10:=by rw [hwu10];exact (Q.refl _).alloc _
 have HCX:=Hd (show Bk u10 u9.heap.size 26 [.bool Cg,.slice c1_ n1 d1_,.bool Cs,.slice c2_ n2 d2_] by rw [hwu10];exact Bk.new _ _ _)
 obtain ⟨bC,hbbC⟩:∃ k,k = u9.heap.size:=⟨_,rfl⟩
 rw [<- hbbC] at HCX
 replace HQ:=Hd (Q.trans HQ.out hq)
 replace HQ1:=Hd (Q.trans HQ1.out hq)
 replace HLX:=Hd (Bk.q HLX.out hq)
 replace HLI:=Hd (Lst.q HLI.out hq)
 replace HLF:=Hd (Lst.q HLF.out hq)
 replace HOX:=Hd (Bk.q HOX.out hq)
 replace HWA:=Hd (LstI.q HWA.out hq)
 replace HVL:=Hd (Lst.q HVL.out hq)
 replace HVX:=Hd (Bk.q HVX.out hq)
 replace HCI:=Hd (Lst.q HCI.out hq)
 replace HCF:=Hd (Lst.q HCF.out hq)
 clear hq
 go_upto_region 10 with fail
 rw [<- hwu10,<- hbbC]
 clear hwu10 hbbC
 have xHOX0:=HOX.out.cell 0 rfl
 have xHOX1:=HOX.out.cell 1 rfl
 have xHOX2:=HOX.out.cell 2 rfl
 have xHOX3:=HOX.out.cell 3 rfl
 go_wp2_with (refine wpList_load_row (by rfl) 34 _ (by rfl) bL (by rfl) 34 #[.string (Lm.bs r.nam),.string (Lm.bs r.pat),.string (Lm.bs r.sys),.string (Lm.bs r.dec),.string (Lm.bs r.grp),.string (Lm.bs r.min),.string (Lm.bs r.per),.string (Lm.bs r.cur),.slice a1 X.pre.length a2,.slice b1 X.suf.length b2,.slice c1 X.npre.length c2,.slice d1 X.nsuf.length d2,.int .i64 X.pr,.int .i64 X.se,.int .i64 X.mi,.int .i64 X.mf,.int .i64 X.xf] (0,0) _ HLX.out Tryz.underlying34 rfl (by exact Ro.infoL) ?_)
 clear xHOX0 xHOX1 xHOX2 xHOX3
 refine (HI0.out _ HQ1.out _ _ _ _ HLI.out HLF.out).mono ?_
 rintro e u11 ⟨vw,rfl,hlw,hq⟩
 have HWB:=Hd hlw.lst
 obtain ⟨wa,wc,rfl,_,hwc⟩:=HWB.out.form0 HNW.out
 clear hlw
 replace HQ:=Hd (Q.trans HQ.out hq)
 replace HQ1:=Hd (Q.trans HQ1.out hq)
 replace HLX:=Hd (Bk.q HLX.out hq)
 replace HLI:=Hd (Lst.q HLI.out hq)
 replace HLF:=Hd (Lst.q HLF.out hq)
 replace HOX:=Hd (Bk.q HOX.out hq)
 replace HWA:=Hd (LstI.q HWA.out hq)
 replace HVL:=Hd (Lst.q HVL.out hq)
 replace HVX:=Hd (Bk.q HVX.out hq)
 replace HCI:=Hd (Lst.q HCI.out hq)
 replace HCF:=Hd (Lst.q HCF.out hq)
 replace HCX:=Hd (Bk.q HCX.out hq)
 clear hq
 clear HOX HLI HLF
 clear HI0
 have hcc:(cd == cd) = true:=by simp
 have hnn:((nW:Int) == (nW:Int)) = true:=by simp
 unfold maxLen at hwc
 have HV1:=Hd (fun u (q:Q u11 u) k (h:k < nW)=>(HWA.out.q q).cellOf HNW.out h)
 have HV2:=Hd (fun u (q:Q u11 u) k (h:k < nW)=>(HWB.out.q q).cellOf HNW.out h)
 have hnw:nW <= 15007:=HLL.out
 go_wp2_with fail
 go_loopw [21] (fun i wr=>∃ k:Nat,i = .int .i64 k /\ k <= nW /\ Q u11 wr) (fun i _=>nW - (intOf i).toNat)
 case atStart=>exact ⟨0,rfl,by omega,Q.refl _⟩
 case round =>
  obtain ⟨k,rfl,hk,hq⟩:=hrel
  have HQB:=Hd hq
  clear hq
  by_cases hlt:k < nW
  ·have hltI:(k:Int) < (nW:Int):=by omega
   obtain ⟨g1,o1,p1,hvv,_,_,_,c1,c2,c3⟩:=HV1.out wr HQB.out k hlt
   cases hvv
   obtain ⟨g2',o2,p2,hvv,_,_,_,d1',d2',d3'⟩:=HV2.out wr HQB.out k hlt
   cases hvv
   generalize LW.getD k e0 = x at *
   obtain ⟨xa',xt,xb⟩:=x
   dsimp only at c1 c2 c3 d1' d2' d3'
   go_wp2_with fail
   go_quiet (fail)
   go_wp2_with fail
   exact ⟨⟨k + 1,by go_num,by omega,HQB.out.drewN _⟩,by simp [intOf];omega⟩
  ·obtain rfl:k = nW:=by omega
   clear hnn
   cases I
   ·have hcd0:=HCD.out
    rw [show cdS false = 2 from rfl] at hcd0
    subst hcd0
    have hz:=HZD.out rfl
    have hn0:vn = 0:=by rw [<- HVN.out,hz];rfl
    have hb0:nb = 0:=by rw [<- HNB.out];rfl
    subst hn0 hb0
    have x1:=(HVX.out.q HQB.out).cell 1 rfl
    have HQC:=Hd (HQ.out.trans HQB.out)
    go_wp2_with fail
    refine (Sp.lives_any _).mono ?_
    rintro e wz ⟨rfl,hqz⟩
    have HQZ:=Hd (HQC.out.trans hqz)
    clear hqz
    go_wp2_with fail
    go_ret
    exact ⟨rfl,HQZ.out⟩
   ·have hcd0:=HCD.out
    rw [show cdS true = 0 from rfl] at hcd0
    subst hcd0
    have HNC:=Hd (show LC.length = nb from HNB.out)
    have hnbn:((nb:Int) == (nb:Int)) = true:=by simp
    have hnbb:nb <= 15007:=by rw [<- HNC.out];exact HLC.out
    go_upto_region 20 with fail
    refine wp_region_held_drew (S:=fun u=>Q wr u) (by kernel_rfl) (by exact (Q.refl wr).drew) (fun hHeld=>?_)
    have hS:Q wr wr.drew:=hHeld
    clear hHeld
    have hq:Q wr wr.drew:=(Q.refl _).drew
    clear hq
    generalize wr.drew = yR1x0 at *
    change wpAnyH _ _ _ _ _ _ #[ff,ff,ff,ff,ff,ff,ff,ff,ff,ff,ff,ff,ff,ff,ff,ff,ff] _ _
    refine tk 0 ?_
    try simp only [Act.put,sA,sB,sC]
    refine tk 1 ?_
    try simp only [Act.put,sA,sB,sC]
    refine tk 2 ?_ (hy:=fun uz hSw=>by (try dsimp only at hSw);refine ld_row (x:=.tmp 10) ?_ ?_ (HLX.out.q (HQB.out.trans hSw)) Tryz.underlying34 (by exact Ro.infoL) <;> rfl)
    try simp only [Act.put,sA,sB,sC]
    refine tk 3 ?_ (hy:=fun uz hSw=>by (try dsimp only at hSw);refine ld_row (x:=.tmp 18) ?_ ?_ (HCX.out.q (HQB.out.trans hSw)) Tryz.underlying26 (by exact Rs.infoD) <;> rfl)
    try simp only [Act.put,sA,sB,sC]
    refine wpAnyH_ready (rs:=[4]) (by kernel_rfl) (by simp) ?_
    refine ar fun K hK=>?_
    go_simp
    refine (HI1.out _ (HQ1.out.trans (HQB.out.trans hS)) _ _ _ _ (HCI.out.q (HQB.out.trans hS)) (HCF.out.q (HQB.out.trans hS))).mono ?_
    rintro e yR1x5 ⟨vv,rfl,hlv,hq⟩
    obtain ⟨qa,qc,rfl,_,_⟩:=hlv.lst.form0 HNC.out
    clear hlv
    try (go_wp2_with fail)
    have hS2:=Q.trans hS hq
    refine hK.out _ _ (by exact hS2) (fun hHeld=>?_)
    clear hK K hHeld hS hq
    have hS:=hS2
    clear hS2
    try simp only [Act.put,sA,sB,sC]
    refine tk 5 ?_
    try simp only [Act.put,sA,sB,sC]
    refine tk 6 ?_
    try simp only [Act.put,sA,sB,sC]
    refine tk 7 ?_
    try simp only [Act.put,sA,sB,sC]
    refine tk 8 ?_ (hy:=fun uz hSw=>by (try dsimp only at hSw);refine ld_row (x:=.tmp 16) ?_ ?_ (HVX.out.q (HQB.out.trans hSw)) Tryz.underlying44 (by exact infoDc) <;> rfl)
    try simp only [Act.put,sA,sB,sC]
    refine tk 9 ?_ (hy:=fun uz hSw=>by (try dsimp only at hSw);refine ld_row (x:=.tmp 18) ?_ ?_ (HCX.out.q (HQB.out.trans hSw)) Tryz.underlying26 (by exact Rs.infoD) <;> rfl)
    try simp only [Act.put,sA,sB,sC]
    refine wpAnyH_ready (rs:=[10]) (by kernel_rfl) (by simp) ?_
    refine ar fun K hK=>?_
    go_simp
    refine (HDQ.out _ _ _ _ _ (HCI.out.q (HQB.out.trans hS)) (HCF.out.q (HQB.out.trans hS))).mono ?_
    rintro e yR1x11 ⟨da,dc,rfl,hdl,hq⟩
    rw [HVN.out] at hdl |-
    have HDL:=Hd hdl
    clear hdl
    try (go_wp2_with fail)
    have hS2:=Q.trans hS hq
    refine hK.out _ _ (by exact hS2) (fun hHeld=>?_)
    clear hK K hHeld hS hq
    have hS:=hS2
    clear hS2
    try simp only [Act.put,sA,sB,sC]
    refine wpAnyH_ready (rs:=[11]) (by kernel_rfl) (by simp) ?_
    refine ar fun K hK=>?_
    go_simp
    refine (same6_q vg vs va _ vn vc _ VL _ (HVL.out.q (HQB.out.trans hS)) HDL.out HDN.out).mono ?_
    rintro e yR1x12 ⟨rfl,hq⟩
    try (go_wp2_with fail)
    have HDL:=Hd (Lst.q HDL.out hq)
    have hS2:=Q.trans hS hq
    refine hK.out _ _ (by exact hS2) (fun hHeld=>?_)
    clear hK K hHeld hS hq
    have hS:=hS2
    clear hS2
    try simp only [Act.put,sA,sB,sC]
    refine tk 12 ?_
    try simp only [Act.put,sA,sB,sC]
    refine tk 13 ?_
    try simp only [Act.put,sA,sB,sC]
    refine wpAnyH_ready (rs:=[14]) (by kernel_rfl) (by simp) ?_
    refine ar fun K hK=>?_
    go_simp
    refine (Sp.lives_any _).mono ?_
    rintro e yR1x15 ⟨rfl,hq⟩
    try (go_wp2_with fail)
    have HDL:=Hd (Lst.q HDL.out hq)
    have hS2:=Q.trans hS hq
    refine hK.out _ _ (by exact hS2) (fun hHeld=>?_)
    clear hK K hHeld hS hq
    have hS:=hS2
    clear hS2
    try simp only [Act.put,sA,sB,sC]
    refine tk 15 ?_
    try simp only [Act.put,sA,sB,sC]
    refine tk 16 ?_
    try simp only [Act.put,sA,sB,sC]
    refine wpAnyH_done (by kernel_rfl) ?_ _
    have HQE:=Hd (HQ.out.trans (HQB.out.trans hS))
    clear hS
    go_wp2_with fail
    go_ret
    exact ⟨rfl,HQE.out⟩
end Sp
end
end Go.Proofs.YtdjhkbholijnmaaGreatDoor
