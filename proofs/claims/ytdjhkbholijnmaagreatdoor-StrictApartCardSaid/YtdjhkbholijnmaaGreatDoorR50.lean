/- Two drafts that are shown alike are the same. (and more) -/
import Derived.Test.YtdjhkbholijnmaaGreatDoorR43
import Derived.Test.YtdjhkbholijnmaaGreatDoorR41
set_option linter.all false
set_option maxRecDepth 100000
set_option maxHeartbeats 8000000
namespace Go.Proofs.YtdjhkbholijnmaaGreatDoor
section
open Go.RowKit
namespace Sp
open Um Cm Gm Im Lo Sx Tm
def L4 (u:World) (b:Nat) (dd:Nat -> T) (A1 A2:Nat -> Option Addr) (C1 C2:Nat -> Nat):Prop:=∀ k,k < 4 ->
 u.cell? ⟨b,k * 4,none⟩ = some (.bool (dd k).g) /\ u.cell? ⟨b,k * 4 + 1,none⟩ = some (.slice (A1 k) (dd k).i.length (C1 k)) /\ u.cell? ⟨b,k * 4 + 2,none⟩ = some (.bool (dd k).s) /\ u.cell? ⟨b,k * 4 + 3,none⟩ = some (.slice (A2 k) (dd k).f.length (C2 k)) /\
 Lst u (.slice (A1 k) (dd k).i.length (C1 k)) (dd k).i /\ Lst u (.slice (A2 k) (dd k).f.length (C2 k)) (dd k).f
theorem L4.q {w u:World} {b:Nat} {dd:Nat -> T} {A1 A2:Nat -> Option Addr} {C1 C2:Nat -> Nat} (h:L4 w b dd A1 A2 C1 C2) (hb:b < w.heap.size) (hq:Q w u):L4 u b dd A1 A2 C1 C2:=fun k hk=>by
 obtain ⟨c0,c1,c2,c3,l1,l2⟩:=h k hk
 have hg:∀ o,u.cell? ⟨b,o,none⟩ = w.cell? ⟨b,o,none⟩:=fun o=>World.cell?_of_block (w:=w) (hq.block hb)
 exact ⟨(hg _).trans c0,(hg _).trans c1,(hg _).trans c2,(hg _).trans c3,l1.q hq,l2.q hq⟩
def pk {α:Type} (a b c d:α):Nat -> α | 0=>a | 1=>b | 2=>c | _=>d
theorem L4.mk {u:World} {b:Nat} {g0 s0 g1 s1 g2 s2 g3 s3:Bool} {I0 F0 I1 F1 I2 F2 I3 F3:List Int} {a0 a1 a2 a3 b0 b1 b2 b3:Option Addr} {c0 c1 c2 c3 d0 d1 d2 d3:Nat} {T0':TypeId}
  (hb:Bk u b T0' [.bool g0,.slice a0 I0.length c0,.bool s0,.slice b0 F0.length d0,.bool g1,.slice a1 I1.length c1,.bool s1,.slice b1 F1.length d1,.bool g2,.slice a2 I2.length c2,.bool s2,.slice b2 F2.length d2,.bool g3,.slice a3 I3.length c3,.bool s3,.slice b3 F3.length d3])
  (h0:Lst u (.slice a0 I0.length c0) I0) (k0:Lst u (.slice b0 F0.length d0) F0) (h1:Lst u (.slice a1 I1.length c1) I1) (k1:Lst u (.slice b1 F1.length d1) F1) (h2:Lst u (.slice a2 I2.length c2) I2) (k2:Lst u (.slice b2 F2.length d2) F2) (h3:Lst u (.slice a3 I3.length c3) I3) (k3:Lst u (.slice b3 F3.length d3) F3) :
  L4 u b (pk ⟨g0,I0,s0,F0⟩ ⟨g1,I1,s1,F1⟩ ⟨g2,I2,s2,F2⟩ ⟨g3,I3,s3,F3⟩) (pk a0 a1 a2 a3) (pk b0 b1 b2 b3) (pk c0 c1 c2 c3) (pk d0 d1 d2 d3):=fun k hk=>by
 have hk4:k = 0 \/ k = 1 \/ k = 2 \/ k = 3:=by omega
 rcases hk4 with rfl | rfl | rfl | rfl
 ·exact ⟨hb.cell 0 rfl,hb.cell 1 rfl,hb.cell 2 rfl,hb.cell 3 rfl,h0,k0⟩
 ·exact ⟨hb.cell 4 rfl,hb.cell 5 rfl,hb.cell 6 rfl,hb.cell 7 rfl,h1,k1⟩
 ·exact ⟨hb.cell 8 rfl,hb.cell 9 rfl,hb.cell 10 rfl,hb.cell 11 rfl,h2,k2⟩
 ·exact ⟨hb.cell 12 rfl,hb.cell 13 rfl,hb.cell 14 rfl,hb.cell 15 rfl,h3,k3⟩
theorem may_sep {g s:Bool} {I F:List Int} (h:may ⟨g,I,s,F⟩ = true):may ⟨g,I,true,F⟩ = true:=by
 unfold may at h |-
 simp only [Bool.and_eq_true] at h |-
 exact ⟨h.1,by simp⟩
theorem may_neg {g s:Bool} {I F:List Int} (h:may ⟨g,I,s,F⟩ = true) (g':Bool):may ⟨g',I,s,F⟩ = true:=h
theorem law_apart (g0 g1 g2 g3 g4 g5 n:Int) (ag as_ bg bs:Bool) (e1 e2 t1 t2:Option Addr) (m1 m2 f1 f2 p1 p2 r1 r2:Nat) (DI DF BI BF:List Int) (w:World) (h0:-9223372036854775808 <= g0 /\ g0 <= 9223372036854775807) (h1:-9223372036854775808 <= g1 /\ g1 <= 9223372036854775807) (h2:-9223372036854775808 <= g2 /\ g2 <= 9223372036854775807) (h3:-9223372036854775808 <= g3 /\ g3 <= 9223372036854775807) (h4:-9223372036854775808 <= g4 /\ g4 <= 9223372036854775807) (h5:-9223372036854775808 <= g5 /\ g5 <= 9223372036854775807) (hn:-9223372036854775808 <= n /\ n <= 9223372036854775807) (hi:Lst w (.slice e1 m1 f1) DI) (hf:Lst w (.slice e2 m2 f2) DF) (q1:DI.length = m1) (q2:DF.length = m2) (bi:∀ n ∈ DI,-9223372036854775808 <= n /\ n <= 9223372036854775807) (bf:∀ n ∈ DF,-9223372036854775808 <= n /\ n <= 9223372036854775807) (ki:Lst w (.slice t1 p1 r1) BI) (kf:Lst w (.slice t2 p2 r2) BF) (z1:BI.length = p1) (z2:BF.length = p2) (ci:∀ n ∈ BI,-9223372036854775808 <= n /\ n <= 9223372036854775807) (cf:∀ n ∈ BF,-9223372036854775808 <= n /\ n <= 9223372036854775807) :
  Calls Tryz.prog 8 #[.agg #[.int .i64 g0,.int .i64 g1,.int .i64 g2,.int .i64 g3,.int .i64 g4,.int .i64 g5],.int .i64 n,.agg #[.bool ag,.slice e1 m1 f1,.bool as_,.slice e2 m2 f2],.agg #[.bool bg,.slice t1 p1 r1,.bool bs,.slice t2 p2 r2]] w fun e w'=>e = .returned (.bool true) /\ Q w w':=by
 have HBE:=Hd (fun u=>Sx.begin_any g0 g1 g2 g3 g4 g5 n u h0 h1 h2 h3 h4 h5 hn)
 have hic:=hi.form0 q1
 obtain ⟨_,_,hv,hnc,hcm⟩:=hic
 cases hv
 have hfc:=hf.form0 q2
 obtain ⟨_,_,hv,hnf,hfm⟩:=hfc
 cases hv
 unfold maxLen at hcm hfm
 have hic:=ki.form0 z1
 obtain ⟨_,_,hv,hnc2,hcm2⟩:=hic
 cases hv
 have hfc:=kf.form0 z2
 obtain ⟨_,_,hv,hnf2,hfm2⟩:=hfc
 cases hv
 unfold maxLen at hcm2 hfm2
 have HGDA:=Hd (fun u (q:Q w u)=>Tr.good_any ag as_ e1 e2 m1 m2 f1 f2 DI DF u (hi.q q) (hf.q q) q1 q2 (by omega) (by omega) bi bf 5 4 (by omega) (by omega))
 have hgm:=Tm.gdT_may ag as_ DI DF 5 4
 have hgl:=Tm.gdT_len ag as_ DI DF 5 4
 generalize Tm.gdT ag as_ DI DF 5 4 = D0 at *
 obtain ⟨xg,XI,xs,XF⟩:=D0
 dsimp only at hgl
 have HGMA:=Hd hgm
 obtain ⟨k1,hk1⟩:∃ k,k = XI.length:=⟨_,rfl⟩
 obtain ⟨k2,hk2⟩:∃ k,k = XF.length:=⟨_,rfl⟩
 rw [<- hk1,<- hk2] at hgl
 have HK1A:=Hd hk1.symm
 have HK2A:=Hd hk2.symm
 obtain ⟨hb1A,hb2A⟩:=hgl
 clear hgm hk1 hk2
 have HGDB:=Hd (fun u (q:Q w u)=>Tr.good_any bg bs t1 t2 p1 p2 r1 r2 BI BF u (ki.q q) (kf.q q) z1 z2 (by omega) (by omega) ci cf 5 4 (by omega) (by omega))
 have hgm:=Tm.gdT_may bg bs BI BF 5 4
 have hgl:=Tm.gdT_len bg bs BI BF 5 4
 generalize Tm.gdT bg bs BI BF 5 4 = D0 at *
 obtain ⟨yg,YI,ys,YF⟩:=D0
 dsimp only at hgl
 have HGMB:=Hd hgm
 obtain ⟨l1,hk1⟩:∃ k,k = YI.length:=⟨_,rfl⟩
 obtain ⟨l2,hk2⟩:∃ k,k = YF.length:=⟨_,rfl⟩
 rw [<- hk1,<- hk2] at hgl
 have HK1B:=Hd hk1.symm
 have HK2B:=Hd hk2.symm
 obtain ⟨hb1B,hb2B⟩:=hgl
 clear hgm hk1 hk2
 have HGDC:=Hd (fun u (q:Q w u)=>Tr.good_any ag as_ e1 e2 m1 m2 f1 f2 DI DF u (hi.q q) (hf.q q) q1 q2 (by omega) (by omega) bi bf 5 0 (by omega) (by omega))
 have hgm:=Tm.gdT_may ag as_ DI DF 5 0
 have hgl:=Tm.gdT_len ag as_ DI DF 5 0
 generalize Tm.gdT ag as_ DI DF 5 0 = D0 at *
 obtain ⟨vg,VI,vs,VF⟩:=D0
 dsimp only at hgl
 have HGMC:=Hd hgm
 obtain ⟨j1,hk1⟩:∃ k,k = VI.length:=⟨_,rfl⟩
 obtain ⟨j2,hk2⟩:∃ k,k = VF.length:=⟨_,rfl⟩
 rw [<- hk1,<- hk2] at hgl
 have HK1C:=Hd hk1.symm
 have HK2C:=Hd hk2.symm
 obtain ⟨hb1C,hb2C⟩:=hgl
 clear hgm hk1 hk2
 clear hi hf q1 q2 bi bf ki kf z1 z2 ci cf h0 h1 h2 h3 h4 h5 hn hnc hcm hnf hfm hnc2 hcm2 hnf2 hfm2
 obtain ⟨y0,hy0⟩:∃ z,z = w.alloc (.cells #[.int .i64 g0,.int .i64 g1,.int .i64 g2,.int .i64 g3,.int .i64 g4,.int .i64 g5] 23):=⟨_,rfl⟩
 have hq0:Q w y0:=by rw [hy0];exact (Q.refl _).alloc _
 have hs0:y0.heap.size = w.heap.size + 1:=by rw [hy0];simp
 have hc0:Bk y0 w.heap.size 23 [.int .i64 g0,.int .i64 g1,.int .i64 g2,.int .i64 g3,.int .i64 g4,.int .i64 g5]:=by rw [hy0];exact Bk.new _ _ _
 obtain ⟨y1,hy1⟩:∃ z,z = y0.alloc (.cells #[.bool ag,.slice e1 m1 f1,.bool as_,.slice e2 m2 f2] 26):=⟨_,rfl⟩
 have hq1:Q y0 y1:=by rw [hy1];exact (Q.refl _).alloc _
 have hs1:y1.heap.size = w.heap.size + 2:=by rw [hy1];simp;omega
 have hc1:Bk y1 y0.heap.size 26 [.bool ag,.slice e1 m1 f1,.bool as_,.slice e2 m2 f2]:=by rw [hy1];exact Bk.new _ _ _
 rw [hs0] at hc1
 obtain ⟨y2,hy2⟩:∃ z,z = y1.alloc (.cells #[.bool bg,.slice t1 p1 r1,.bool bs,.slice t2 p2 r2] 26):=⟨_,rfl⟩
 have hq2:Q y1 y2:=by rw [hy2];exact (Q.refl _).alloc _
 have hs2:y2.heap.size = w.heap.size + 3:=by rw [hy2];simp;omega
 have hc2:Bk y2 y1.heap.size 26 [.bool bg,.slice t1 p1 r1,.bool bs,.slice t2 p2 r2]:=by rw [hy2];exact Bk.new _ _ _
 rw [hs1] at hc2
 have HQ:=Hd (hq0.trans (hq1.trans hq2))
 have HGX:=Hd (hc0.q (hq1.trans hq2))
 have HAX:=Hd (hc1.q hq2)
 have HBX:=Hd hc2
 have hz2:y2 = ((w.alloc (.cells #[.int .i64 g0,.int .i64 g1,.int .i64 g2,.int .i64 g3,.int .i64 g4,.int .i64 g5] 23)).alloc (.cells #[.bool ag,.slice e1 m1 f1,.bool as_,.slice e2 m2 f2] 26)).alloc (.cells #[.bool bg,.slice t1 p1 r1,.bool bs,.slice t2 p2 r2] 26):=by rw [hy2,hy1,hy0]
 obtain ⟨bG,hbbG⟩:∃ k,k = w.heap.size:=⟨_,rfl⟩
 obtain ⟨bA,hbbA⟩:∃ k,k = w.heap.size + 1:=⟨_,rfl⟩
 obtain ⟨bB,hbbB⟩:∃ k,k = w.heap.size + 2:=⟨_,rfl⟩
 clear hq0 hs0 hc0 hy0 hq1 hs1 hc1 hy1 hq2 hs2 hc2 hy2
 go_enter Tryz.func8,Tryz.ntmps8
 go_upto_region 1 with fail
 try rw [show w.heap.size + 1 + 1 = w.heap.size + 2 from rfl]
 rw [<- hz2,<- hbbB,<- hbbA,<- hbbG]
 rw [<- hbbG] at HGX
 rw [<- hbbA] at HAX
 rw [<- hbbB] at HBX
 clear hz2 hbbG hbbA hbbB
 have xHGX0:=HGX.out.cell 0 rfl
 have xHGX1:=HGX.out.cell 1 rfl
 have xHGX2:=HGX.out.cell 2 rfl
 have xHGX3:=HGX.out.cell 3 rfl
 have xHGX4:=HGX.out.cell 4 rfl
 have xHGX5:=HGX.out.cell 5 rfl
 go_wp2_with fail
 clear xHGX0 xHGX1 xHGX2 xHGX3 xHGX4 xHGX5
 clear HGX
 refine (HBE.out _).mono ?_
 rintro e w1 ⟨r,X,pv,vv,hok,rfl,⟨g,pa,pb,pc,pd,pcl,rfl,hpl⟩,⟨la,lb,lc,ld,rfl,hrl⟩,hq⟩
 have HOK:=Hd hok
 obtain ⟨a1,a2,rfl⟩:=hrl.1.shape
 obtain ⟨b1,b2,rfl⟩:=hrl.2.1.shape
 obtain ⟨c1,c2,rfl⟩:=hrl.2.2.1.shape
 obtain ⟨d1,d2,rfl⟩:=hrl.2.2.2.shape
 have HIT:=Hd (fun u (q:Q w1 u) Dg Di Ds Df e1 e2 n1 n2 f1 f2 (hi:Lst u (.slice e1 n1 f1) Di) (hf:Lst u (.slice e2 n2 f2) Df) (k1:Di.length = n1) (k2:Df.length = n2) (l1:n1 <= 5000) (l2:n2 <= 5000) (hm:may ⟨Dg,Di,Ds,Df⟩ = true)=>show Calls Tryz.prog 25 #[.pointer (some ⟨g,0,none⟩),.agg #[.bool Dg,.slice e1 n1 f1,.bool Ds,.slice e2 n2 f2]] u fun e w'=>∃ x,e = .returned x /\ OwnI 75 w' u.heap.size x (itd r X ⟨Dg,Di,Ds,Df⟩) /\ Q u w' from It.items_big g r X pa pb pc pd pcl Dg Ds e1 e2 n1 n2 f1 f2 Di Df u hok.ok (hpl.q q) hi hf k1 k2 (by omega) (by omega) (may_dig hm).1 (may_dig hm).2.1)
 have HTT:=Hd (fun u v d (hv:LstI u v (itd r X d)) (hm:may d = true) (l1:d.i.length <= 5000) (l2:d.f.length <= 5000)=>show Calls Tryz.prog 24 #[v] u fun e w'=>e = .returned (.string (tx r X d)) /\ Q u w' from It.text_any v (itd r X d) u hv (by have:=(itd_small hok hm l1 l2).1;omega) (itd_small hok hm l1 l2).2)
 replace HQ:=Hd (Q.trans HQ.out hq)
 replace HAX:=Hd (Bk.q HAX.out hq)
 replace HBX:=Hd (Bk.q HBX.out hq)
 clear hq hpl hrl hok HBE
 have HQ1:=Hd (Q.refl w1)
 obtain ⟨u1,hwu1⟩:∃ z,z = w1.alloc (.cells #[.string (Lm.bs r.nam),.string (Lm.bs r.pat),.string (Lm.bs r.sys),.string (Lm.bs r.dec),.string (Lm.bs r.grp),.string (Lm.bs r.min),.string (Lm.bs r.per),.string (Lm.bs r.cur),.slice a1 X.pre.length a2,.slice b1 X.suf.length b2,.slice c1 X.npre.length c2,.slice d1 X.nsuf.length d2,.int .i64 X.pr,.int .i64 X.se,.int .i64 X.mi,.int .i64 X.mf,.int .i64 X.xf] 34):=⟨_,rfl⟩
 have hq:Q w1 u1:=by rw [hwu1];exact (Q.refl _).alloc _
 have HLX:=Hd (show Bk u1 w1.heap.size 34 [.string (Lm.bs r.nam),.string (Lm.bs r.pat),.string (Lm.bs r.sys),.string (Lm.bs r.dec),.string (Lm.bs r.grp),.string (Lm.bs r.min),.string (Lm.bs r.per),.string (Lm.bs r.cur),.slice a1 X.pre.length a2,.slice b1 X.suf.length b2,.slice c1 X.npre.length c2,.slice d1 X.nsuf.length d2,.int .i64 X.pr,.int .i64 X.se,.int .i64 X.mi,.int .i64 X.mf,.int .i64 X.xf] by rw [hwu1];exact Bk.new _ _ _)
 obtain ⟨bL,hbbL⟩:∃ k,k = w1.heap.size:=⟨_,rfl⟩
 rw [<- hbbL] at HLX
 replace HQ:=Hd (Q.trans HQ.out hq)
 replace HAX:=Hd (Bk.q HAX.out hq)
 replace HBX:=Hd (Bk.q HBX.out hq)
 replace HQ1:=Hd (Q.trans HQ1.out hq)
 clear hq
 go_upto_region 2 with fail
 unfold Ro.lV
 rw [<- hwu1,<- hbbL]
 clear hwu1 hbbL
 clear HLX
 have xHAX0:=HAX.out.cell 0 rfl
 have xHAX1:=HAX.out.cell 1 rfl
 have xHAX2:=HAX.out.cell 2 rfl
 have xHAX3:=HAX.out.cell 3 rfl
 go_wp2_with fail
 clear xHAX0 xHAX1 xHAX2 xHAX3
 refine (HGDA.out _ HQ.out).mono ?_
 rintro e u2 ⟨x,rfl,hx3,hq⟩
 obtain ⟨a1_,c1_,a2_,c2_,rfl,hli,hlf⟩:=hx3
 dsimp only at hli hlf
 rw [HK1A.out] at hli
 rw [HK2A.out] at hlf
 have HXI:=Hd hli.lst
 have HXF:=Hd hlf.lst
 clear hli hlf
 replace HQ:=Hd (Q.trans HQ.out hq)
 replace HAX:=Hd (Bk.q HAX.out hq)
 replace HBX:=Hd (Bk.q HBX.out hq)
 replace HQ1:=Hd (Q.trans HQ1.out hq)
 clear hq
 obtain ⟨u3,hwu3⟩:∃ z,z = u2.alloc (.cells #[.bool xg,.slice a1_ k1 c1_,.bool xs,.slice a2_ k2 c2_] 26):=⟨_,rfl⟩
 have hq:Q u2 u3:=by rw [hwu3];exact (Q.refl _).alloc _
 have HXX:=Hd (show Bk u3 u2.heap.size 26 [.bool xg,.slice a1_ k1 c1_,.bool xs,.slice a2_ k2 c2_] by rw [hwu3];exact Bk.new _ _ _)
 obtain ⟨bX,hbbX⟩:∃ k,k = u2.heap.size:=⟨_,rfl⟩
 rw [<- hbbX] at HXX
 replace HQ:=Hd (Q.trans HQ.out hq)
 replace HAX:=Hd (Bk.q HAX.out hq)
 replace HBX:=Hd (Bk.q HBX.out hq)
 replace HQ1:=Hd (Q.trans HQ1.out hq)
 replace HXI:=Hd (Lst.q HXI.out hq)
 replace HXF:=Hd (Lst.q HXF.out hq)
 clear hq
 go_upto_region 5 with fail
 try rw [HK1A.out,HK2A.out]
 rw [<- hwu3,<- hbbX]
 clear hwu3 hbbX
 have xHBX0:=HBX.out.cell 0 rfl
 have xHBX1:=HBX.out.cell 1 rfl
 have xHBX2:=HBX.out.cell 2 rfl
 have xHBX3:=HBX.out.cell 3 rfl
 go_wp2_with fail
 clear xHBX0 xHBX1 xHBX2 xHBX3
 refine (HGDB.out _ HQ.out).mono ?_
 rintro e u4 ⟨x,rfl,hx3,hq⟩
 obtain ⟨b1_,d1_,b2_,d2_,rfl,hli,hlf⟩:=hx3
 dsimp only at hli hlf
 rw [HK1B.out] at hli
 rw [HK2B.out] at hlf
 have HYI:=Hd hli.lst
 have HYF:=Hd hlf.lst
 clear hli hlf
 replace HQ:=Hd (Q.trans HQ.out hq)
 replace HAX:=Hd (Bk.q HAX.out hq)
 replace HBX:=Hd (Bk.q HBX.out hq)
 replace HQ1:=Hd (Q.trans HQ1.out hq)
 replace HXI:=Hd (Lst.q HXI.out hq)
 replace HXF:=Hd (Lst.q HXF.out hq)
 replace HXX:=Hd (Bk.q HXX.out hq)
 clear hq
 obtain ⟨u5,hwu5⟩:∃ z,z = u4.alloc (.cells #[.bool yg,.slice b1_ l1 d1_,.bool ys,.slice b2_ l2 d2_] 26):=⟨_,rfl⟩
 have hq:Q u4 u5:=by rw [hwu5];exact (Q.refl _).alloc _
 have HYX:=Hd (show Bk u5 u4.heap.size 26 [.bool yg,.slice b1_ l1 d1_,.bool ys,.slice b2_ l2 d2_] by rw [hwu5];exact Bk.new _ _ _)
 obtain ⟨bY,hbbY⟩:∃ k,k = u4.heap.size:=⟨_,rfl⟩
 rw [<- hbbY] at HYX
 replace HQ:=Hd (Q.trans HQ.out hq)
 replace HAX:=Hd (Bk.q HAX.out hq)
 replace HBX:=Hd (Bk.q HBX.out hq)
 replace HQ1:=Hd (Q.trans HQ1.out hq)
 replace HXI:=Hd (Lst.q HXI.out hq)
 replace HXF:=Hd (Lst.q HXF.out hq)
 replace HXX:=Hd (Bk.q HXX.out hq)
 replace HYI:=Hd (Lst.q HYI.out hq)
 replace HYF:=Hd (Lst.q HYF.out hq)
 clear hq
 go_upto_region 6 with fail
 try rw [HK1B.out,HK2B.out]
 rw [<- hwu5,<- hbbY]
 clear hwu5 hbbY
 clear HBX
 have xHXX0:=HXX.out.cell 0 rfl
 have xHXX1:=HXX.out.cell 1 rfl
 have xHXX2:=HXX.out.cell 2 rfl
 have xHXX3:=HXX.out.cell 3 rfl
 obtain ⟨u6,hwu6⟩:∃ z,z = u5.alloc (.cells #[.bool xg,.slice a1_ k1 c1_,.bool xs,.slice a2_ k2 c2_] 26):=⟨_,rfl⟩
 have hqa:Q u5 u6:=by rw [hwu6];exact (Q.refl _).alloc _
 have HZX:=Hd (show Bk u6 u5.heap.size 26 [.bool xg,.slice a1_ k1 c1_,.bool xs,.slice a2_ k2 c2_] by rw [hwu6];exact Bk.new _ _ _)
 obtain ⟨bZ,hbbZ⟩:∃ k,k = u5.heap.size:=⟨_,rfl⟩
 have HWbZ:=Hd (show u5.heap.size <= bZ by omega)
 rw [<- hbbZ] at HZX
 go_upto_region 7 with fail
 rw [<- hwu6,<- hbbZ]
 clear hwu6 hbbZ
 have q0:=(HXX.out.q hqa).cell 0 rfl
 have p0:=HZX.out.cell 0 rfl
 have p1:=HZX.out.free 0
 go_upto_region 8 with fail
 obtain ⟨u7,hu2⟩:∃ z,z = u6.setCell ⟨bZ,0,none⟩ (.bool (!xg)):=⟨_,rfl⟩
 have hq:Q u5 u7:=by rw [hu2];exact Q.setCell hqa (ad:=⟨bZ,0,none⟩) HWbZ.out _
 have hfx:Hid (Bk u7 bZ 26 [.bool (!xg),.slice a1_ k1 c1_,.bool xs,.slice a2_ k2 c2_]):=Hd (by rw [hu2];exact HZX.out.set 0 _)
 replace HZX:=hfx
 rw [<- hu2]
 clear hu2 hqa p0 p1 hfx
 replace HQ:=Hd (Q.trans HQ.out hq)
 replace HAX:=Hd (Bk.q HAX.out hq)
 replace HQ1:=Hd (Q.trans HQ1.out hq)
 replace HXI:=Hd (Lst.q HXI.out hq)
 replace HXF:=Hd (Lst.q HXF.out hq)
 replace HXX:=Hd (Bk.q HXX.out hq)
 replace HYI:=Hd (Lst.q HYI.out hq)
 replace HYF:=Hd (Lst.q HYF.out hq)
 replace HYX:=Hd (Bk.q HYX.out hq)
 clear hq
 clear xHXX0 xHXX1 xHXX2 xHXX3
 try clear q0
 have xHAX0:=HAX.out.cell 0 rfl
 have xHAX1:=HAX.out.cell 1 rfl
 have xHAX2:=HAX.out.cell 2 rfl
 have xHAX3:=HAX.out.cell 3 rfl
 go_wp2_with fail
 clear xHAX0 xHAX1 xHAX2 xHAX3
 refine (HGDC.out _ HQ.out).mono ?_
 rintro e u8 ⟨x,rfl,hx3,hq⟩
 obtain ⟨s1_,h1_,s2_,h2_,rfl,hli,hlf⟩:=hx3
 dsimp only at hli hlf
 rw [HK1C.out] at hli
 rw [HK2C.out] at hlf
 have HVI:=Hd hli.lst
 have HVF:=Hd hlf.lst
 clear hli hlf
 replace HQ:=Hd (Q.trans HQ.out hq)
 replace HAX:=Hd (Bk.q HAX.out hq)
 replace HQ1:=Hd (Q.trans HQ1.out hq)
 replace HXI:=Hd (Lst.q HXI.out hq)
 replace HXF:=Hd (Lst.q HXF.out hq)
 replace HXX:=Hd (Bk.q HXX.out hq)
 replace HYI:=Hd (Lst.q HYI.out hq)
 replace HYF:=Hd (Lst.q HYF.out hq)
 replace HYX:=Hd (Bk.q HYX.out hq)
 replace HZX:=Hd (Bk.q HZX.out hq)
 clear hq
 clear HAX
 clear HGDA HGDB HGDC
 obtain ⟨u9,hwu9⟩:∃ z,z = u8.alloc (.cells #[.bool vg,.slice s1_ j1 h1_,.bool vs,.slice s2_ j2 h2_] 26):=⟨_,rfl⟩
 have hqa:Q u8 u9:=by rw [hwu9];exact (Q.refl _).alloc _
 have HVX:=Hd (show Bk u9 u8.heap.size 26 [.bool vg,.slice s1_ j1 h1_,.bool vs,.slice s2_ j2 h2_] by rw [hwu9];exact Bk.new _ _ _)
 obtain ⟨bV,hbbV⟩:∃ k,k = u8.heap.size:=⟨_,rfl⟩
 have HWbV:=Hd (show u8.heap.size <= bV by omega)
 rw [<- hbbV] at HVX
 go_upto_region 9 with fail
 try rw [HK1C.out,HK2C.out]
 rw [<- hwu9,<- hbbV]
 clear hwu9 hbbV
 have p0:=HVX.out.cell 2 rfl
 have p1:=HVX.out.free 2
 go_upto_region 10 with fail
 obtain ⟨u10,hu2⟩:∃ z,z = u9.setCell ⟨bV,2,none⟩ (.bool true):=⟨_,rfl⟩
 have hq:Q u8 u10:=by rw [hu2];exact Q.setCell hqa (ad:=⟨bV,2,none⟩) HWbV.out _
 have hfx:Hid (Bk u10 bV 26 [.bool vg,.slice s1_ j1 h1_,.bool true,.slice s2_ j2 h2_]):=Hd (by rw [hu2];exact HVX.out.set 2 _)
 replace HVX:=hfx
 rw [<- hu2]
 clear hu2 hqa p0 p1 hfx
 replace HQ:=Hd (Q.trans HQ.out hq)
 replace HQ1:=Hd (Q.trans HQ1.out hq)
 replace HXI:=Hd (Lst.q HXI.out hq)
 replace HXF:=Hd (Lst.q HXF.out hq)
 replace HXX:=Hd (Bk.q HXX.out hq)
 replace HYI:=Hd (Lst.q HYI.out hq)
 replace HYF:=Hd (Lst.q HYF.out hq)
 replace HYX:=Hd (Bk.q HYX.out hq)
 replace HZX:=Hd (Bk.q HZX.out hq)
 replace HVI:=Hd (Lst.q HVI.out hq)
 replace HVF:=Hd (Lst.q HVF.out hq)
 clear hq
 go_upto_region 11 with (first | (refine wpList_load_row (by rfl) 26 _ (by rfl) bX (by rfl) 26 #[.bool xg,.slice a1_ k1 c1_,.bool xs,.slice a2_ k2 c2_] (0,0) _ HXX.out Tryz.underlying26 rfl (by exact Rs.infoD) ?_) | (refine wpList_load_row (by rfl) 26 _ (by rfl) bY (by rfl) 26 #[.bool yg,.slice b1_ l1 d1_,.bool ys,.slice b2_ l2 d2_] (0,0) _ HYX.out Tryz.underlying26 rfl (by exact Rs.infoD) ?_) | (refine wpList_load_row (by rfl) 26 _ (by rfl) bZ (by rfl) 26 #[.bool (!xg),.slice a1_ k1 c1_,.bool xs,.slice a2_ k2 c2_] (0,0) _ HZX.out Tryz.underlying26 rfl (by exact Rs.infoD) ?_) | (refine wpList_load_row (by rfl) 26 _ (by rfl) bV (by rfl) 26 #[.bool vg,.slice s1_ j1 h1_,.bool true,.slice s2_ j2 h2_] (0,0) _ HVX.out Tryz.underlying26 rfl (by exact Rs.infoD) ?_))
 obtain ⟨u11,hwu11⟩:∃ z,z = u10.alloc (.cells #[.bool xg,.slice a1_ k1 c1_,.bool xs,.slice a2_ k2 c2_,.bool yg,.slice b1_ l1 d1_,.bool ys,.slice b2_ l2 d2_,.bool (!xg),.slice a1_ k1 c1_,.bool xs,.slice a2_ k2 c2_,.bool vg,.slice s1_ j1 h1_,.bool true,.slice s2_ j2 h2_] 26):=⟨_,rfl⟩
 have hq:Q u10 u11:=by rw [hwu11];exact (Q.refl _).alloc _
 have HALL:=Hd (show Bk u11 u10.heap.size 26 [.bool xg,.slice a1_ k1 c1_,.bool xs,.slice a2_ k2 c2_,.bool yg,.slice b1_ l1 d1_,.bool ys,.slice b2_ l2 d2_,.bool (!xg),.slice a1_ k1 c1_,.bool xs,.slice a2_ k2 c2_,.bool vg,.slice s1_ j1 h1_,.bool true,.slice s2_ j2 h2_] by rw [hwu11];exact Bk.new _ _ _)
 obtain ⟨bL4,hbbL4⟩:∃ k,k = u10.heap.size:=⟨_,rfl⟩
 rw [<- hbbL4] at HALL
 replace HQ:=Hd (Q.trans HQ.out hq)
 replace HQ1:=Hd (Q.trans HQ1.out hq)
 replace HXI:=Hd (Lst.q HXI.out hq)
 replace HXF:=Hd (Lst.q HXF.out hq)
 replace HXX:=Hd (Bk.q HXX.out hq)
 replace HYI:=Hd (Lst.q HYI.out hq)
 replace HYF:=Hd (Lst.q HYF.out hq)
 replace HYX:=Hd (Bk.q HYX.out hq)
 replace HZX:=Hd (Bk.q HZX.out hq)
 replace HVI:=Hd (Lst.q HVI.out hq)
 replace HVF:=Hd (Lst.q HVF.out hq)
 replace HVX:=Hd (Bk.q HVX.out hq)
 clear hq
 rw [<- hwu11,<- hbbL4]
 clear hwu11 hbbL4
 clear HXX HYX HZX HVX
 have hb:=HALL.out
 rw [<- HK1A.out,<- HK2A.out,<- HK1B.out,<- HK2B.out,<- HK1C.out,<- HK2C.out] at hb
 have hxi:=HXI.out
 have hxf:=HXF.out
 have hyi:=HYI.out
 have hyf:=HYF.out
 have hvi:=HVI.out
 have hvf:=HVF.out
 rw [<- HK1A.out] at hxi
 rw [<- HK2A.out] at hxf
 rw [<- HK1B.out] at hyi
 rw [<- HK2B.out] at hyf
 rw [<- HK1C.out] at hvi
 rw [<- HK2C.out] at hvf
 have HL4:=Hd (L4.mk hb hxi hxf hyi hyf hxi hxf hvi hvf)
 have HBL:=Hd hb.lt
 have HMD:=Hd (show ∀ k,k < 4 -> may (pk (⟨xg,XI,xs,XF⟩:T) ⟨yg,YI,ys,YF⟩ ⟨!xg,XI,xs,XF⟩ ⟨vg,VI,true,VF⟩ k) = true /\ (pk (⟨xg,XI,xs,XF⟩:T) ⟨yg,YI,ys,YF⟩ ⟨!xg,XI,xs,XF⟩ ⟨vg,VI,true,VF⟩ k).i.length <= 5 /\ (pk (⟨xg,XI,xs,XF⟩:T) ⟨yg,YI,ys,YF⟩ ⟨!xg,XI,xs,XF⟩ ⟨vg,VI,true,VF⟩ k).f.length <= 4 from fun k hk=>by
  have hk4:k = 0 \/ k = 1 \/ k = 2 \/ k = 3:=by omega
  rcases hk4 with rfl | rfl | rfl | rfl
  ·exact ⟨HGMA.out,by show XI.length <= 5;rw [HK1A.out];exact hb1A,by show XF.length <= 4;rw [HK2A.out];exact hb2A⟩
  ·exact ⟨HGMB.out,by show YI.length <= 5;rw [HK1B.out];exact hb1B,by show YF.length <= 4;rw [HK2B.out];exact hb2B⟩
  ·exact ⟨may_neg HGMA.out _,by show XI.length <= 5;rw [HK1A.out];exact hb1A,by show XF.length <= 4;rw [HK2A.out];exact hb2A⟩
  ·exact ⟨may_sep HGMC.out,by show VI.length <= 5;rw [HK1C.out];exact hb1C,by show VF.length <= 4;rw [HK2C.out];omega⟩)
 clear hb hxi hxf hyi hyf hvi hvf HALL HXI HXF HYI HYF HVI HVF HGMA HGMB HGMC
 generalize pk (⟨xg,XI,xs,XF⟩:T) ⟨yg,YI,ys,YF⟩ ⟨!xg,XI,xs,XF⟩ ⟨vg,VI,true,VF⟩ = dd at *
 generalize pk a1_ b1_ a1_ s1_ = A1 at *
 generalize pk a2_ b2_ a2_ s2_ = A2 at *
 generalize pk c1_ d1_ c1_ h1_ = C1 at *
 generalize pk c2_ d2_ c2_ h2_ = C2 at *
 have HEL:=Hd (fun u (q:Q u11 u)=>L4.q HL4.out HBL.out q)
 go_wp2_with fail
 go_loopw [16] (fun i wr=>∃ a:Nat,i = .int .i64 a /\ a <= 4 /\ Q u11 wr) (fun i _=>4 - (intOf i).toNat)
 case atStart=>exact ⟨0,rfl,by omega,Q.refl _⟩
 case round =>
  obtain ⟨a,rfl,ha,hq⟩:=hrel
  have HQO:=Hd hq
  clear hq
  by_cases hlt:a < 4
  ·have hltI:(a:Int) < 4:=by omega
   go_wp2_with fail
   go_loopw [17] (fun i wr=>∃ b:Nat,i = .int .i64 b /\ b <= 4 /\ Q u11 wr) (fun i _=>4 - (intOf i).toNat)
   case atStart=>exact ⟨0,rfl,by omega,HQO.out⟩
   case round =>
    obtain ⟨b,rfl,hb,hq⟩:=hrel
    have HQB:=Hd hq
    clear hq
    by_cases hlb:b < 4
    ·have hlbI:(b:Int) < 4:=by omega
     obtain ⟨bq,he1,he2⟩:∃ bq,((tx r X (dd a)).toList == (tx r X (dd b)).toList) = bq /\ Tm.same (dd a) (dd b) = bq:=by
      by_cases he:dd a = dd b
      ·exact ⟨true,by rw [he];simp,by rw [he];exact same_self _⟩
      ·exact ⟨false,str_ne (fun h=>he (tx_inj HOK.out (HMD.out a hlt).1 (HMD.out b hlb).1 h)),Bool.eq_false_iff.2 (fun h=>he ((same_iff _ _).1 h))⟩
     have HE1:=Hd (fun u (q:Q u11 u)=>HEL.out u q a hlt)
     have HE2:=Hd (fun u (q:Q u11 u)=>HEL.out u q b hlb)
     have HM1:=Hd (HMD.out a hlt)
     have HM2:=Hd (HMD.out b hlb)
     have HS2:=Hd he2
     generalize dd a = da at *
     generalize dd b = db at *
     obtain ⟨ga,Ia,sa,Fa⟩:=da
     obtain ⟨gb,Ib,sb,Fb⟩:=db
     dsimp only at HE1 HE2 HM1 HM2
     generalize A1 a = x1 at *
     generalize A2 a = x2 at *
     generalize C1 a = y1 at *
     generalize C2 a = y2 at *
     generalize A1 b = x3 at *
     generalize A2 b = x4 at *
     generalize C1 b = y3 at *
     generalize C2 b = y4 at *
     obtain ⟨n1,hn1⟩:∃ n,n = Ia.length:=⟨_,rfl⟩
     obtain ⟨n2,hn2⟩:∃ n,n = Fa.length:=⟨_,rfl⟩
     obtain ⟨n3,hn3⟩:∃ n,n = Ib.length:=⟨_,rfl⟩
     obtain ⟨n4,hn4⟩:∃ n,n = Fb.length:=⟨_,rfl⟩
     rw [<- hn1,<- hn2] at HE1 HM1
     rw [<- hn3,<- hn4] at HE2 HM2
     have HSA:=Hd (fun u (q:Q u11 u)=>Tr.same_any ga sa gb sb _ _ _ _ Ia Fa Ib Fb u (HE1.out u q).2.2.2.2.1 (HE1.out u q).2.2.2.2.2 (HE2.out u q).2.2.2.2.1 (HE2.out u q).2.2.2.2.2 (by have:=HM1.out;omega) (by have:=HM1.out;omega) (by have:=HM2.out;omega) (by have:=HM2.out;omega))
     rw [HS2.out] at HSA
     have HI1:=Hd (fun u (q:Q u11 u)=>HIT.out u (HQ1.out.trans q) ga Ia sa Fa _ _ _ _ _ _ (HE1.out u q).2.2.2.2.1 (HE1.out u q).2.2.2.2.2 hn1.symm hn2.symm (by have:=HM1.out;omega) (by have:=HM1.out;omega) HM1.out.1)
     have HI2:=Hd (fun u (q:Q u11 u)=>HIT.out u (HQ1.out.trans q) gb Ib sb Fb _ _ _ _ _ _ (HE2.out u q).2.2.2.2.1 (HE2.out u q).2.2.2.2.2 hn3.symm hn4.symm (by have:=HM2.out;omega) (by have:=HM2.out;omega) HM2.out.1)
     have HT1:=Hd (fun u v (hv:LstI u v (itd r X ⟨ga,Ia,sa,Fa⟩))=>HTT.out u v ⟨ga,Ia,sa,Fa⟩ hv HM1.out.1 (by dsimp only;have:=HM1.out;omega) (by dsimp only;have:=HM1.out;omega))
     have HT2:=Hd (fun u v (hv:LstI u v (itd r X ⟨gb,Ib,sb,Fb⟩))=>HTT.out u v ⟨gb,Ib,sb,Fb⟩ hv HM2.out.1 (by dsimp only;have:=HM2.out;omega) (by dsimp only;have:=HM2.out;omega))
     generalize tx r X ⟨ga,Ia,sa,Fa⟩ = S1 at *
     generalize tx r X ⟨gb,Ib,sb,Fb⟩ = S2 at *
     generalize itd r X ⟨ga,Ia,sa,Fa⟩ = L1 at *
     generalize itd r X ⟨gb,Ib,sb,Fb⟩ = L2 at *
     clear hn1 hn2 hn3 hn4 he2 HS2
     have HEQ:=Hd he1
     clear he1
     obtain ⟨c0,c1,c2,c3,_,_⟩:=HE1.out _ HQB.out
     go_wp2_with fail
     refine (HI1.out _ HQB.out).mono ?_
     rintro e v1 ⟨x,rfl,hox,hq⟩
     have HX:=Hd hox.lst
     have HQV1:=Hd (HQB.out.trans hq)
     obtain ⟨xa,xc,rfl⟩:=hox.shape
     clear hox hq c0 c1 c2 c3
     go_wp2_with fail
     refine (HT1.out _ _ HX.out).mono ?_
     rintro e v2 ⟨rfl,hq⟩
     have HQV2:=Hd (HQV1.out.trans hq)
     obtain ⟨c0,c1,c2,c3,_,_⟩:=HE2.out _ HQV2.out
     clear hq
     go_wp2_with fail
     refine (HI2.out _ HQV2.out).mono ?_
     rintro e v3 ⟨z,rfl,hoz,hq⟩
     have HZ:=Hd hoz.lst
     have HQV3:=Hd (HQV2.out.trans hq)
     obtain ⟨za,zc,rfl⟩:=hoz.shape
     clear hoz hq c0 c1 c2 c3
     go_wp2_with fail
     refine (HT2.out _ _ HZ.out).mono ?_
     rintro e v4 ⟨rfl,hq⟩
     have HQV4:=Hd (HQV3.out.trans hq)
     clear hq HI1 HI2 HT1 HT2 HX HZ
     have heq:=HEQ.out
     go_upto_region 19 with fail
     cases bq
     ·refine wp_region_held_drew (S:=fun u=>Q v4 u) (by kernel_rfl) (by exact (Q.refl v4).drew) (fun hHeld=>?_)
      have hS:Q v4 v4.drew:=hHeld
      clear hHeld
      have hq:Q v4 v4.drew:=(Q.refl _).drew
      clear hq
      generalize v4.drew = yR1x0 at *
      change wpAnyH _ _ _ _ _ _ #[ff,ff,ff,ff,ff,ff,ff,ff,ff,ff,ff,ff,ff] _ _
      refine tk 0 ?_
      try simp only [Act.put,sA,sB,sC]
      refine tk 1 ?_
      try simp only [Act.put,sA,sB,sC]
      refine tk 2 ?_
      try simp only [Act.put,sA,sB,sC]
      refine tk 3 ?_
      try simp only [Act.put,sA,sB,sC]
      refine tk 4 ?_
      try simp only [Act.put,sA,sB,sC]
      refine tk 5 ?_
      try simp only [Act.put,sA,sB,sC]
      refine tk 6 ?_ (hy:=fun uz hSw=>by (try dsimp only at hSw);obtain ⟨q0,q1,q2,q3,_,_⟩:=HE1.out _ (HQV4.out.trans hSw);go_simp;try with_reducible rfl)
      try simp only [Act.put,sA,sB,sC]
      refine tk 7 ?_
      try simp only [Act.put,sA,sB,sC]
      refine tk 8 ?_
      try simp only [Act.put,sA,sB,sC]
      refine tk 9 ?_
      try simp only [Act.put,sA,sB,sC]
      refine tk 10 ?_ (hy:=fun uz hSw=>by (try dsimp only at hSw);obtain ⟨q0,q1,q2,q3,_,_⟩:=HE2.out _ (HQV4.out.trans hSw);go_simp;try with_reducible rfl)
      try simp only [Act.put,sA,sB,sC]
      refine wpAnyH_ready (rs:=[11]) (by kernel_rfl) (by simp) ?_
      refine ar fun K hK=>?_
      go_simp
      refine (HSA.out _ (HQV4.out.trans hS)).mono ?_
      rintro e yR1x12 ⟨rfl,hq⟩
      try (go_wp2_with fail)
      have hS2:=Q.trans hS hq
      refine hK.out _ _ (by exact hS2) (fun hHeld=>?_)
      clear hK K hHeld hS hq
      have hS:=hS2
      clear hS2
      try simp only [Act.put,sA,sB,sC]
      refine tk 12 ?_
      try simp only [Act.put,sA,sB,sC]
      refine wpAnyH_done (by kernel_rfl) ?_ _
      have HQ9:=Hd (HQV4.out.trans hS)
      clear hS
      go_wp2_with fail
      exact ⟨⟨b + 1,by go_num,by omega,HQ9.out⟩,by simp [intOf];omega⟩
     ·refine wp_region_held_drew (S:=fun u=>Q v4 u) (by kernel_rfl) (by exact (Q.refl v4).drew) (fun hHeld=>?_)
      have hS:Q v4 v4.drew:=hHeld
      clear hHeld
      have hq:Q v4 v4.drew:=(Q.refl _).drew
      clear hq
      generalize v4.drew = yR2x0 at *
      change wpAnyH _ _ _ _ _ _ #[ff,ff,ff,ff,ff,ff,ff,ff,ff,ff,ff,ff,ff] _ _
      refine tk 0 ?_
      try simp only [Act.put,sA,sB,sC]
      refine tk 1 ?_
      try simp only [Act.put,sA,sB,sC]
      refine tk 2 ?_
      try simp only [Act.put,sA,sB,sC]
      refine tk 3 ?_
      try simp only [Act.put,sA,sB,sC]
      refine tk 4 ?_
      try simp only [Act.put,sA,sB,sC]
      refine tk 5 ?_
      try simp only [Act.put,sA,sB,sC]
      refine tk 6 ?_ (hy:=fun uz hSw=>by (try dsimp only at hSw);obtain ⟨q0,q1,q2,q3,_,_⟩:=HE1.out _ (HQV4.out.trans hSw);go_simp;try with_reducible rfl)
      try simp only [Act.put,sA,sB,sC]
      refine tk 7 ?_
      try simp only [Act.put,sA,sB,sC]
      refine tk 8 ?_
      try simp only [Act.put,sA,sB,sC]
      refine tk 9 ?_
      try simp only [Act.put,sA,sB,sC]
      refine tk 10 ?_ (hy:=fun uz hSw=>by (try dsimp only at hSw);obtain ⟨q0,q1,q2,q3,_,_⟩:=HE2.out _ (HQV4.out.trans hSw);go_simp;try with_reducible rfl)
      try simp only [Act.put,sA,sB,sC]
      refine wpAnyH_ready (rs:=[11]) (by kernel_rfl) (by simp) ?_
      refine ar fun K hK=>?_
      go_simp
      refine (HSA.out _ (HQV4.out.trans hS)).mono ?_
      rintro e yR2x12 ⟨rfl,hq⟩
      try (go_wp2_with fail)
      have hS2:=Q.trans hS hq
      refine hK.out _ _ (by exact hS2) (fun hHeld=>?_)
      clear hK K hHeld hS hq
      have hS:=hS2
      clear hS2
      try simp only [Act.put,sA,sB,sC]
      refine tk 12 ?_
      try simp only [Act.put,sA,sB,sC]
      refine wpAnyH_done (by kernel_rfl) ?_ _
      have HQ9:=Hd (HQV4.out.trans hS)
      clear hS
      go_wp2_with fail
      exact ⟨⟨b + 1,by go_num,by omega,HQ9.out⟩,by simp [intOf];omega⟩
    ·obtain rfl:b = 4:=by omega
     go_wp2_with fail
     exact ⟨⟨a + 1,by go_num,by omega,HQB.out⟩,by simp [intOf];omega⟩
  ·obtain rfl:a = 4:=by omega
   have HQF:=Hd (HQ.out.trans HQO.out)
   go_wp2_with fail
   refine (Sp.lives_any _).mono ?_
   rintro e wz ⟨rfl,hqz⟩
   have HQZ:=Hd (HQF.out.trans hqz)
   clear hqz
   go_wp2_with fail
   go_ret
   exact ⟨rfl,HQZ.out⟩
end Sp
end
end Go.Proofs.YtdjhkbholijnmaaGreatDoor
