/- EditErases: what comes of each erasing is the document's, or it is refused. (and more) -/
import Derived.Test.YtnehhbobhnmbcaaR30
import Derived.Test.YtnehhbobhnmbcaaR40
import Derived.Test.YtnehhbobhnmbcaaR38
import Derived.Test.YtnehhbobhnmbcaaR23
set_option linter.all false
set_option maxRecDepth 100000
set_option maxHeartbeats 8000000
namespace Go.Proofs.Ytnehhbobhnmbcaa
section
open Go.RowKit
namespace El
open Ed Tm
open Re hiding ret_st may_any way_any sel_any tog_any mov_any ins_any word_right word_left
theorem law_erases (g s:Bool) (a1 a2:Option Addr) (n1 n2 c1 c2:Nat) (I F:List Int) (c a:Int) (li lf:Int) (lg:Bool) (wh:Int) (w:World) (hi:Lst w (.slice a1 n1 c1) I) (hf:Lst w (.slice a2 n2 c2) F) (k1:I.length = n1) (k2:F.length = n2) (bi:∀ n ∈ I,-9223372036854775808 <= n /\ n <= 9223372036854775807) (bf:∀ n ∈ F,-9223372036854775808 <= n /\ n <= 9223372036854775807) (hc:-9223372036854775808 <= c /\ c <= 9223372036854775807) (ha:-9223372036854775808 <= a /\ a <= 9223372036854775807) (hli:-9223372036854775808 <= li /\ li <= 9223372036854775807) (hlf:-9223372036854775808 <= lf /\ lf <= 9223372036854775807) (hwh:-9223372036854775808 <= wh /\ wh <= 9223372036854775807) :
  Calls Try.prog 4 #[.agg #[.bool g,.slice a1 n1 c1,.bool s,.slice a2 n2 c2,.int .i64 c,.int .i64 a],.agg #[.int .i64 li,.int .i64 lf,.bool lg],.int .i64 wh] w fun e w'=>e = .returned (.bool true) /\ Q w w':=by
 obtain ⟨_,_,hv,hnc,hcm⟩:=hi.form0 k1;cases hv;obtain ⟨_,_,hv,hnf,hfm⟩:=hf.form0 k2;cases hv;have HGD:=Hd (fun u (q:Q w u)=>good_any g s a1 a2 n1 n2 c1 c2 I F c a u (hi.q q) (hf.q q) k1 k2 (by unfold maxLen at hcm;omega) (by unfold maxLen at hfm;omega) bi bf hc ha 6 4 (by omega) (by omega));have hmX:=gdS_may ⟨⟨g,I,s,F⟩,c,a⟩ 6 4;have hlX:=gdS_len ⟨⟨g,I,s,F⟩,c,a⟩ 6 4;obtain ⟨f1,hf1⟩:∃ p,p = min n1 8:=⟨_,rfl⟩;obtain ⟨f2,hf2⟩:∃ p,p = min n2 8:=⟨_,rfl⟩;have HFW:=Hd (fun u=>few_any g s a1 a2 n1 n2 c1 c2 c a 8 u hnc hnf hcm hfm (by omega) f1 f2 hf1 hf2);have hr1:=hi.take f1 (by omega);have hr2:=hf.take f2 (by omega);obtain ⟨L1,hL1⟩:∃ L,L = I.take f1:=⟨_,rfl⟩;obtain ⟨L2,hL2⟩:∃ L,L = F.take f2:=⟨_,rfl⟩;have kk1:L1.length = f1:=by rw [hL1,List.length_take];omega
 have kk2:L2.length = f2:=by rw [hL2,List.length_take];omega
 rw [<- hL1] at hr1;rw [<- hL2] at hr2;have HLL:=Hd (⟨kk1,kk2⟩:_ /\ _);have HRW:=Hd (fun u (q:Q w u)=>(⟨hr1.q q,hr2.q q⟩:_ /\ _));have hf18:f1 <= 8:=by omega
 have hf28:f2 <= 8:=by omega
 clear hr1 hr2 hL1 hL2 kk1 kk2 hf1 hf2;have HLIM:=Hd (fun u=>lim_any li lf lg u hli hlf);have hA1:=Um.around_bd li 10 (by omega);have hA2:=Um.around_bd lf 7 (by omega);generalize Um.around li 10 = A1 at *;generalize Um.around lf 7 = A2 at *;generalize gdS ⟨⟨g,I,s,F⟩,c,a⟩ 6 4 = X at *;obtain ⟨⟨ogX,oIX,osX_,oFX⟩,ocX,oaX⟩:=X;dsimp only at hlX;obtain ⟨m1X,hm1⟩:∃ m,m = oIX.length:=⟨_,rfl⟩;obtain ⟨m2X,hm2⟩:∃ m,m = oFX.length:=⟨_,rfl⟩;rw [<- hm1,<- hm2] at hlX;have HM1X:=Hd hm1.symm;have HM2X:=Hd hm2.symm;clear hm1 hm2;clear hi hf k1 k2 bi bf hc ha hmX hnc hcm hnf hfm;obtain ⟨y0,hy0⟩:∃ z,z = w.alloc (.cells #[.bool g,.slice a1 n1 c1,.bool s,.slice a2 n2 c2,.int .i64 c,.int .i64 a] 26):=⟨_,rfl⟩;have hq0:Q w y0:=by rw [hy0];exact (Q.refl _).alloc _
 have hs0:y0.heap.size = w.heap.size + 1:=by rw [hy0];simp
 have hc0:Bk y0 w.heap.size 26 [.bool g,.slice a1 n1 c1,.bool s,.slice a2 n2 c2,.int .i64 c,.int .i64 a]:=by rw [hy0];exact Bk.new _ _ _
 obtain ⟨y1,hy1⟩:∃ z,z = y0.alloc (.cells #[.int .i64 li,.int .i64 lf,.bool lg] 28):=⟨_,rfl⟩;have hq1:Q y0 y1:=by rw [hy1];exact (Q.refl _).alloc _
 have hs1:y1.heap.size = w.heap.size + 2:=by rw [hy1];simp;omega
 have hc1:Bk y1 y0.heap.size 28 [.int .i64 li,.int .i64 lf,.bool lg]:=by rw [hy1];exact Bk.new _ _ _
 rw [hs0] at hc1;have HQ:=Hd (hq0.trans hq1);have HSB:=Hd (hc0.q hq1);have HLB:=Hd hc1;have hz2:y1 = (w.alloc (.cells #[.bool g,.slice a1 n1 c1,.bool s,.slice a2 n2 c2,.int .i64 c,.int .i64 a] 26)).alloc (.cells #[.int .i64 li,.int .i64 lf,.bool lg] 28):=by rw [hy1,hy0]
 obtain ⟨bS,hbbS⟩:∃ k,k = w.heap.size:=⟨_,rfl⟩;have HWbS:=Hd (show w.heap.size <= bS by omega);obtain ⟨bL,hbbL⟩:∃ k,k = w.heap.size + 1:=⟨_,rfl⟩;have HWbL:=Hd (show w.heap.size <= bL by omega);clear hq0 hs0 hc0 hy0 hq1 hs1 hc1 hy1;go_enter Try.func4,Try.ntmps4
 go_upto_region 1 with fail
 rw [<- hz2,<- hbbL,<- hbbS];rw [<- hbbS] at HSB;rw [<- hbbL] at HLB;clear hz2 hbbS hbbL;go_wp2_with (refine wpList_load_row (by rfl) 26 _ (by rfl) bS (by rfl) 26 #[.bool g,.slice a1 n1 c1,.bool s,.slice a2 n2 c2,.int .i64 c,.int .i64 a] (0,0) _ HSB.out Try.underlying26 rfl (by exact infoS) ?_)
 refine (HGD.out _ HQ.out).mono ?_;rintro e u1 ⟨x,rfl,hso,hq⟩;obtain ⟨p1X,r1X,p2X,r2X,rfl,ho1,ho2⟩:=hso;dsimp only at ho1 ho2 |-;rw [HM1X.out] at ho1 |-;rw [HM2X.out] at ho2 |-;have HO1X:=Hd ho1;have HO2X:=Hd ho2;clear ho1 ho2;replace HQ:=Hd (Q.trans HQ.out hq);replace HSB:=Hd (Bk.q HSB.out hq);replace HLB:=Hd (Bk.q HLB.out hq);clear hq;clear HGD;obtain ⟨u2,hwu2⟩:∃ z,z = u1.alloc (.cells #[.bool ogX,.slice p1X m1X r1X,.bool osX_,.slice p2X m2X r2X,.int .i64 ocX,.int .i64 oaX] 26):=⟨_,rfl⟩;have hq:Q u1 u2:=by rw [hwu2];exact (Q.refl _).alloc _
 have HXB:=Hd (show Bk u2 u1.heap.size 26 [.bool ogX,.slice p1X m1X r1X,.bool osX_,.slice p2X m2X r2X,.int .i64 ocX,.int .i64 oaX] by rw [hwu2];exact Bk.new _ _ _);obtain ⟨bX,hbbX⟩:∃ k,k = u1.heap.size:=⟨_,rfl⟩;rw [<- hbbX] at HXB;replace HQ:=Hd (Q.trans HQ.out hq);replace HSB:=Hd (Bk.q HSB.out hq);replace HLB:=Hd (Bk.q HLB.out hq);replace HO1X:=Hd (Own.q HO1X.out hq);replace HO2X:=Hd (Own.q HO2X.out hq);clear hq;go_upto_region 2 with fail
 rw [<- hwu2,<- hbbX];clear hwu2 hbbX;have xHXB0:=HXB.out.cell 0 rfl;have xHXB1:=HXB.out.cell 1 rfl;have xHXB2:=HXB.out.cell 2 rfl;have xHXB3:=HXB.out.cell 3 rfl;have xHXB4:=HXB.out.cell 4 rfl;have xHXB5:=HXB.out.cell 5 rfl;have HQP:=HQ;have HXP:=HXB;have HSP:=HSB;have HLP:=HLB;obtain ⟨u3,hwu3⟩:∃ z,z = u2.alloc (.cells #[.bool ogX,.slice p1X m1X r1X,.bool osX_,.slice p2X m2X r2X,.int .i64 ocX,.int .i64 oaX] 26):=⟨_,rfl⟩;have hq:Q u2 u3:=by rw [hwu3];exact (Q.refl _).alloc _
 have HBB:=Hd (show Bk u3 u2.heap.size 26 [.bool ogX,.slice p1X m1X r1X,.bool osX_,.slice p2X m2X r2X,.int .i64 ocX,.int .i64 oaX] by rw [hwu3];exact Bk.new _ _ _);obtain ⟨bB,hbbB⟩:∃ k,k = u2.heap.size:=⟨_,rfl⟩;rw [<- hbbB] at HBB;replace HQ:=Hd (Q.trans HQ.out hq);replace HSB:=Hd (Bk.q HSB.out hq);replace HLB:=Hd (Bk.q HLB.out hq);replace HO1X:=Hd (Own.q HO1X.out hq);replace HO2X:=Hd (Own.q HO2X.out hq);replace HXB:=Hd (Bk.q HXB.out hq);clear hq;go_upto_region 3 with fail
 have HND:=Hd (show w.heap.size <= bB /\ bB ≠ bX /\ bB ≠ bS /\ bB ≠ bL by rw [hbbB];have h1:=HQP.out.le;have h2:=HXP.out.lt;have h3:=HSP.out.lt;have h4:=HLP.out.lt;omega);rw [<- hwu3,<- hbbB];clear hwu3 hbbB;clear HQP HXP HSP HLP;clear xHXB0 xHXB1 xHXB2 xHXB3 xHXB4 xHXB5;have xHXB4:=HXB.out.cell 4 rfl;have y0:=HBB.out.cell 5 rfl;have f0:=HBB.out.free 5;obtain ⟨q9,hvq9⟩:∃ z,z = u3.setCell ⟨bB,5,none⟩ (.int .i64 ocX):=⟨_,rfl⟩;have hd9:Bk q9 bB 26 [.bool ogX,.slice p1X m1X r1X,.bool osX_,.slice p2X m2X r2X,.int .i64 ocX,.int .i64 ocX]:=by rw [hvq9];exact HBB.out.set 5 _
 replace HXB:=Hd (show Bk q9 bX 26 [.bool ogX,.slice p1X m1X r1X,.bool osX_,.slice p2X m2X r2X,.int .i64 ocX,.int .i64 oaX] by rw [hvq9];exact HXB.out.past HND.out.2.1 _);replace HSB:=Hd (show Bk q9 bS 26 [.bool g,.slice a1 n1 c1,.bool s,.slice a2 n2 c2,.int .i64 c,.int .i64 a] by rw [hvq9];exact HSB.out.past HND.out.2.2.1 _);replace HLB:=Hd (show Bk q9 bL 28 [.int .i64 li,.int .i64 lf,.bool lg] by rw [hvq9];exact HLB.out.past HND.out.2.2.2 _);replace HQ:=Hd (show Q w q9 by rw [hvq9];exact Q.setCell HQ.out (ad:=⟨bB,5,none⟩) HND.out.1 _);replace HO1X:=Hd (show Own q9 _ (.slice p1X m1X r1X) oIX by rw [hvq9];exact Tm.Own_past HO1X.out HBB.out (by decide) 5 _);replace HO2X:=Hd (show Own q9 _ (.slice p2X m2X r2X) oFX by rw [hvq9];exact Tm.Own_past HO2X.out HBB.out (by decide) 5 _);replace HBB:=Hd hd9;clear hd9;go_upto_region 4 with fail
 rw [<- hvq9];clear hvq9 y0 f0;clear xHXB4;go_wp2_with (refine wpList_load_row (by rfl) 28 _ (by rfl) bL (by rfl) 28 #[.int .i64 li,.int .i64 lf,.bool lg] (0,0) _ HLB.out Try.underlying28 rfl (by exact infoL) ?_)
 refine (HLIM.out _).mono ?_;rintro e u4 ⟨rfl,hq⟩;replace HQ:=Hd (Q.trans HQ.out hq);replace HSB:=Hd (Bk.q HSB.out hq);replace HLB:=Hd (Bk.q HLB.out hq);replace HO1X:=Hd (Own.q HO1X.out hq);replace HO2X:=Hd (Own.q HO2X.out hq);replace HXB:=Hd (Bk.q HXB.out hq);replace HBB:=Hd (Bk.q HBB.out hq);clear hq;clear HLIM;clear HLB;obtain ⟨u5,hwu5⟩:∃ z,z = u4.alloc (.cells #[.int .i64 A1,.int .i64 A2,.bool lg] 28):=⟨_,rfl⟩;have hq:Q u4 u5:=by rw [hwu5];exact (Q.refl _).alloc _
 have HMB:=Hd (show Bk u5 u4.heap.size 28 [.int .i64 A1,.int .i64 A2,.bool lg] by rw [hwu5];exact Bk.new _ _ _);obtain ⟨bM,hbbM⟩:∃ k,k = u4.heap.size:=⟨_,rfl⟩;rw [<- hbbM] at HMB;replace HQ:=Hd (Q.trans HQ.out hq);replace HSB:=Hd (Bk.q HSB.out hq);replace HO1X:=Hd (Own.q HO1X.out hq);replace HO2X:=Hd (Own.q HO2X.out hq);replace HXB:=Hd (Bk.q HXB.out hq);replace HBB:=Hd (Bk.q HBB.out hq);clear hq;go_upto_region 5 with fail
 rw [<- hwu5,<- hbbM];clear hwu5 hbbM;go_cut [10] (fun p wx=>∃ b,p = .slice (some ⟨b,0,none⟩) 3 3 /\ Bk wx b 26 [.bool ogX,.slice p1X m1X r1X,.bool osX_,.slice p2X m2X r2X,.int .i64 ocX,.int .i64 oaX,.bool ogX,.slice p1X m1X r1X,.bool osX_,.slice p2X m2X r2X,.int .i64 ocX,.int .i64 ocX,.bool g,.slice a1 f1 c1,.bool s,.slice a2 f2 c2,.int .i64 c,.int .i64 a] /\ Q u5 wx)
 case first =>
  refine wp_region_held_drew (S:=fun u=>Q u5 u) (by kernel_rfl) (by exact (Q.refl u5).drew) (fun hHeld=>?_);have hS:Q u5 u5.drew:=hHeld;clear hHeld;have hq:Q u5 u5.drew:=(Q.refl _).drew;clear hq;generalize u5.drew = yR1x0 at *;change wpAnyH _ _ _ _ _ _ #[ff,ff,ff,ff,ff,ff] _ _;refine tk 0 (by simp only [gA,gB,gC];rfl) (by first | kernel_rfl | rfl) (fun uz hSw=>by (try dsimp only at hSw);refine ld_row (x:=.tmp 7) ?_ ?_ (Bk.q HXB.out hSw) Try.underlying26 (by exact infoS) <;> rfl) pq hS ?_
  try simp only [Act.put,sA,sB,sC]
  refine tk 1 (by simp only [gA,gB,gC];rfl) (by first | kernel_rfl | rfl) (fun uz hSw=>by (try dsimp only at hSw);refine ld_row (x:=.tmp 8) ?_ ?_ (Bk.q HBB.out hSw) Try.underlying26 (by exact infoS) <;> rfl) pq hS ?_
  try simp only [Act.put,sA,sB,sC]
  refine tk 2 (by simp only [gA,gB,gC];rfl) (by first | kernel_rfl | rfl) (fun uz hSw=>by (try dsimp only at hSw);refine ld_row (x:=.tmp 3) ?_ ?_ (Bk.q HSB.out hSw) Try.underlying26 (by exact infoS) <;> rfl) pq hS ?_
  try simp only [Act.put,sA,sB,sC]
  refine wpAnyH_ready (rs:=[3]) (by kernel_rfl) (by simp) ?_;refine ar (by (try simp only [gA,gB,gC]);rfl) fun K hK=>?_;go_simp
  refine (HFW.out _).mono ?_;rintro e yR1x4 ⟨rfl,hq⟩;try (go_wp2_with fail)
  have hS2:=Q.trans hS hq;refine hK.out _ _ (by exact hS2) (fun hHeld=>?_);clear hK K hHeld hS hq;have hS:=hS2;clear hS2;try simp only [Act.put,sA,sB,sC]
  refine wpAnyH_ready (rs:=[4]) (by kernel_rfl) (by simp) ?_;refine ar (by (try simp only [gA,gB,gC]);rfl) fun K hK=>?_;go_simp
  have hq:=(Q.refl yR1x4).alloc (.cells #[.bool ogX,.slice p1X m1X r1X,.bool osX_,.slice p2X m2X r2X,.int .i64 ocX,.int .i64 oaX,.bool ogX,.slice p1X m1X r1X,.bool osX_,.slice p2X m2X r2X,.int .i64 ocX,.int .i64 ocX,.bool g,.slice a1 f1 c1,.bool s,.slice a2 f2 c2,.int .i64 c,.int .i64 a] 26);have HBA:=Hd (Bk.new yR1x4 26 [.bool ogX,.slice p1X m1X r1X,.bool osX_,.slice p2X m2X r2X,.int .i64 ocX,.int .i64 oaX,.bool ogX,.slice p1X m1X r1X,.bool osX_,.slice p2X m2X r2X,.int .i64 ocX,.int .i64 ocX,.bool g,.slice a1 f1 c1,.bool s,.slice a2 f2 c2,.int .i64 c,.int .i64 a]);have HW_bA:=Hd (Q.le hS);have hS2:=Q.trans hS hq;refine hK.out _ _ (by exact hS2) (fun hHeld=>?_);clear hK K hHeld hS hq;have hS:=hS2;clear hS2;generalize yR1x4.alloc (.cells #[.bool ogX,.slice p1X m1X r1X,.bool osX_,.slice p2X m2X r2X,.int .i64 ocX,.int .i64 oaX,.bool ogX,.slice p1X m1X r1X,.bool osX_,.slice p2X m2X r2X,.int .i64 ocX,.int .i64 ocX,.bool g,.slice a1 f1 c1,.bool s,.slice a2 f2 c2,.int .i64 c,.int .i64 a] 26) = yR1x5 at *;generalize yR1x4.heap.size = bA at *;try simp only [Act.put,sA,sB,sC]
  refine tk 5 (by simp only [gA,gB,gC];rfl) (by first | kernel_rfl | rfl) (fun uz _=>by go_simp;try with_reducible rfl) pq hS ?_;try simp only [Act.put,sA,sB,sC]
  refine wpAnyH_done (by kernel_rfl) ?_ _;go_wp2_with fail
  go_meet
  exact ⟨bA,rfl,HBA.out,hS⟩
 case rest =>
  obtain ⟨bA,rfl,hba,hq⟩:=hcut;have HBA:=Hd hba;obtain ⟨V,hV⟩:∃ x,x = wc:=⟨_,rfl⟩;subst hV;replace HQ:=Hd (Q.trans HQ.out hq);replace HSB:=Hd (Bk.q HSB.out hq);replace HO1X:=Hd (Own.q HO1X.out hq);replace HO2X:=Hd (Own.q HO2X.out hq);replace HXB:=Hd (Bk.q HXB.out hq);replace HBB:=Hd (Bk.q HBB.out hq);replace HMB:=Hd (Bk.q HMB.out hq);clear hq hba HFW;have HEL:=Hd (show EL bA V 8 from EL.of HBA.out ⟨HO1X.out.lst,HO2X.out.lst,HM1X.out,HM2X.out,by omega,by omega⟩ ⟨HO1X.out.lst,HO2X.out.lst,HM1X.out,HM2X.out,by omega,by omega⟩ ⟨(HRW.out _ HQ.out).1,(HRW.out _ HQ.out).2,HLL.out.1,HLL.out.2,hf18,hf28⟩);have HQV:=Hd HQ.out;have HMV:=Hd HMB.out;clear HQ HSB HXB HBB HBA HMB HO1X HO2X HRW HLL HM1X HM2X HND;go_wp2_with fail
  go_loopw [11] (fun t wr=>∃ i:Nat,t = .int .i64 i /\ i <= 3 /\ Q V wr) (fun t _=>3 - (intOf t).toNat)
  case atStart=>exact ⟨0,rfl,by omega,Q.refl _⟩
  case round =>
   obtain ⟨i,rfl,hi,hq⟩:=hrel;have HQ0:=Hd hq;clear hq;by_cases hi3:i < 3
   ·obtain ⟨zg,zs,z1,z2,zm,zn,z3,z4,zI,zF,zc,za,hc,h1,h2,k1,k2,hz1,hz2⟩:=HEL.out i hi3
    have HC:=Hd hc;have HP:=Hd (fun u (q:Q V u) n=>Pe.ers_any zg zs z1 z2 zm zn z3 z4 zI zF zc za A1 A2 lg n u (h1.q q) (h2.q q) k1 k2 (by omega) (by omega));have HR:=Hd (fun u (q:Q V u) n=>Re.ers_any zg zs z1 z2 zm zn z3 z4 zI zF zc za A1 A2 lg n u (h1.q q) (h2.q q) k1 k2 (by omega) (by omega));have HLN:=Hd (fun n=>ers_len (s:=⟨⟨zg,zI,zs,zF⟩,zc,za⟩) (l:=⟨A1,A2,lg⟩) (w:=n) (k:=100) (by dsimp only;have:=hA1.2;omega) (by dsimp only;have:=hA2.2;omega));have hi3i:(i:Int) < 3:=by omega
    clear hc h1 h2 k1 k2;go_wp2_with fail
    go_loopw [12] (fun t wr=>∃ k:Int,t = .int .i64 k /\ -1 <= k /\ k <= 8 /\ Q V wr) (fun t _=>(8 - intOf t).toNat)
    case atStart=>exact ⟨-1,rfl,by omega,by omega,HQ0.out⟩
    case round =>
     obtain ⟨k,rfl,hk1,hk2,hq⟩:=hrel;have HQ1:=Hd hq;clear hq;by_cases hk7:k <= 7
     ·obtain ⟨NN,hNN⟩:∃ n,n = if k = 7 then wh else k:=⟨_,rfl⟩
      go_upto_if 41 with fail
      go_cut [13] (fun x wx=>x = .int .i64 NN /\ Q V wx)
      case first =>
       by_cases h7:k = 7
       ·have HN:=Hd (hNN.trans (if_pos h7))
        have hb:(k == 7) = true:=beq_iff_eq.2 h7;clear hNN;go_wp2_with fail
        go_meet
        exact ⟨by rw [HN.out] <;> rfl,HQ1.out⟩
       ·have HN:=Hd (hNN.trans (if_neg h7))
        have hb:(k == 7) = false:=beq_eq_false_iff_ne.2 h7;clear hNN;go_wp2_with fail
        go_meet
        exact ⟨by rw [HN.out] <;> rfl,HQ1.out⟩
      case rest =>
       obtain ⟨rfl,hq1⟩:=hcut;obtain ⟨V1,hV1⟩:∃ x,x = wc:=⟨_,rfl⟩;subst hV1;replace HQ1:=Hd hq1;clear hq1 hNN;replace HP:=Hd (fun u q=>HP.out u q NN);replace HR:=Hd (fun u q=>HR.out u q NN);replace HLN:=HLN.out NN;generalize ers ⟨⟨zg,zI,zs,zF⟩,zc,za⟩ ⟨A1,A2,lg⟩ NN = RR at *;obtain ⟨⟨⟨og,oI,os_,oF⟩,oc,oa⟩,er⟩:=RR;dsimp only at HP HR HLN;obtain ⟨m1,hm1⟩:∃ m,m = oI.length:=⟨_,rfl⟩;obtain ⟨m2,hm2⟩:∃ m,m = oF.length:=⟨_,rfl⟩;rw [<- hm1,<- hm2] at HLN;have HM1:=Hd hm1.symm;have HM2:=Hd hm2.symm;clear hm1 hm2;have HSM:=Hd (fun u a1 a2 b1 b2 c1 c2 d1 d2 h1 h2 h3 h4=>same_self og os_ a1 a2 b1 b2 m1 m2 c1 c2 d1 d2 oI oF oc oa u h1 h2 h3 h4 (by rw [HM1.out];omega) (by rw [HM2.out];omega));go_upto_region 15 with fail
       go_cut [14,15] (fun p e wx=>∃ b p1 r1 p2 r2,p = .pointer (some ⟨b,0,none⟩) /\ e = .int .i64 er /\ Bk wx b 39 [.bool og,.slice p1 m1 r1,.bool os_,.slice p2 m2 r2,.int .i64 oc,.int .i64 oa] /\ Lst wx (.slice p1 m1 r1) oI /\ Lst wx (.slice p2 m2 r2) oF /\ Q V1 wx)
       case first =>
        refine wp_region_held_drew (S:=fun u=>Q V1 u) (by kernel_rfl) (by exact (Q.refl V1).drew) (fun hHeld=>?_);have hS:Q V1 V1.drew:=hHeld;clear hHeld;have hq:Q V1 V1.drew:=(Q.refl _).drew;clear hq;generalize V1.drew = yR2x0 at *;change wpAnyH _ _ _ _ _ _ #[ff,ff,ff,ff,ff,ff,ff,ff,ff,ff,ff,ff,ff,ff] _ _;refine tk 0 (by simp only [gA,gB,gC];rfl) (by first | kernel_rfl | rfl) (fun uz _=>by go_simp;try with_reducible rfl) pq hS ?_;try simp only [Act.put,sA,sB,sC]
        refine tk 1 (by simp only [gA,gB,gC];rfl) (by first | kernel_rfl | rfl) (fun uz _=>by go_simp;try with_reducible rfl) pq hS ?_;try simp only [Act.put,sA,sB,sC]
        refine tk 2 (by simp only [gA,gB,gC];rfl) (by first | kernel_rfl | rfl) (fun uz _=>by go_simp;try with_reducible rfl) pq hS ?_;try simp only [Act.put,sA,sB,sC]
        refine tk 3 (by simp only [gA,gB,gC];rfl) (by first | kernel_rfl | rfl) (fun uz hSw=>by (try dsimp only at hSw);obtain ⟨d0,d1,d2,d3,d4,d5⟩:=HC.out _ (HQ1.out.trans hSw);go_simp;try with_reducible rfl) pq hS ?_;try simp only [Act.put,sA,sB,sC]
        refine tk 5 (by simp only [gA,gB,gC];rfl) (by first | kernel_rfl | rfl) (fun uz hSw=>by (try dsimp only at hSw);refine ld_row (x:=.tmp 9) ?_ ?_ ((HMV.out.q (HQ1.out.trans hSw))) Try.underlying28 (by exact infoL) <;> rfl) pq hS ?_
        try simp only [Act.put,sA,sB,sC]
        refine tk 6 (by simp only [gA,gB,gC];rfl) (by first | kernel_rfl | rfl) (fun uz _=>by go_simp;try with_reducible rfl) pq hS ?_;try simp only [Act.put,sA,sB,sC]
        refine wpAnyH_ready (rs:=[4,11]) (by kernel_rfl) (by simp) ?_;refine (AllReadyH.cons (by (try simp only [gA,gB,gC]);rfl) (fun K hK=>?_) (AllReadyH.cons (by (try simp only [gA,gB,gC]);rfl) (fun K hK=>?_) AllReadyH.nil))
        ·go_simp
         refine (of_any _ _ _ _ _ _ _ _ _ _ _).mono ?_;rintro e yR2x7 ⟨rfl,hq⟩;try (go_wp2_with fail)
         have hS2:=Q.trans hS hq;refine hK.out _ _ (by exact hS2) (fun hHeld=>?_);clear hK K hHeld hS hq;have hS:=hS2;clear hS2;try simp only [Act.put,sA,sB,sC]
         refine wpAnyH_ready (rs:=[7,11]) (by kernel_rfl) (by simp) ?_;refine (AllReadyH.cons (by (try simp only [gA,gB,gC]);rfl) (fun K hK=>?_) (AllReadyH.cons (by (try simp only [gA,gB,gC]);rfl) (fun K hK=>?_) AllReadyH.nil))
         ·go_simp
          refine (HP.out _ (HQ1.out.trans hS)).mono ?_;rintro e yR2x8 ⟨x,rfl,hso,hq⟩;obtain ⟨p1,r1,p2,r2,rfl,ho1,ho2⟩:=hso;dsimp only at ho1 ho2 |-;rw [HM1.out] at ho1 |-;rw [HM2.out] at ho2 |-;have HI7:=Hd ho1;have HF7:=Hd ho2;clear ho1 ho2;try (go_wp2_with fail)
          have hS2:=Q.trans hS hq;refine hK.out _ _ (by exact hS2) (fun hHeld=>?_);clear hK K hHeld hS hq;have hS:=hS2;clear hS2;try simp only [Act.put,sA,sB,sC]
          refine tk 8 (by simp only [gA,gB,gC];rfl) (by first | kernel_rfl | rfl) (fun uz _=>by go_simp;try with_reducible rfl) pq hS ?_;try simp only [Act.put,sA,sB,sC]
          refine tk 9 (by simp only [gA,gB,gC];rfl) (by first | kernel_rfl | rfl) (fun uz _=>by go_simp;try with_reducible rfl) pq hS ?_;try simp only [Act.put,sA,sB,sC]
          refine tk 10 (by simp only [gA,gB,gC];rfl) (by first | kernel_rfl | rfl) (fun uz _=>by go_simp;try with_reducible rfl) pq hS ?_;try simp only [Act.put,sA,sB,sC]
          refine wpAnyH_ready (rs:=[11]) (by kernel_rfl) (by simp) ?_;refine ar (by (try simp only [gA,gB,gC]);rfl) fun K hK=>?_;go_simp
          have hq:=(Q.refl yR2x8).alloc (.cells #[.bool false,.slice none 0 0,.bool false,.slice none 0 0,.int .i64 0,.int .i64 0] 39);have HPX:=Hd (Bk.new yR2x8 39 [.bool false,.slice none 0 0,.bool false,.slice none 0 0,.int .i64 0,.int .i64 0]);have HW_bP:=Hd (Q.le hS);have HI7:=Hd (Own.q HI7.out hq);have HF7:=Hd (Own.q HF7.out hq);have hS2:=Q.trans hS hq;refine hK.out _ _ (by exact hS2) (fun hHeld=>?_);clear hK K hHeld hS hq;have hS:=hS2;clear hS2;generalize yR2x8.alloc (.cells #[.bool false,.slice none 0 0,.bool false,.slice none 0 0,.int .i64 0,.int .i64 0] 39) = yR2x12 at *;generalize yR2x8.heap.size = bP at *;try simp only [Act.put,sA,sB,sC]
          refine wpAnyH_ready (rs:=[12]) (by kernel_rfl) (by simp) ?_;refine ar (by (try simp only [gA,gB,gC]);rfl) fun K hK=>?_;rw [if_pos (by rfl)];refine wp_store_row 39 _ _ rfl (bP) #[.bool og,.slice p1 m1 r1,.bool os_,.slice p2 m2 r2,.int .i64 oc,.int .i64 oa] (by rfl) (by rfl) 39 _ HPX.out (by exact Pe.infoS) rfl (Rw.all1 (by rfl)) ?_;have hS2:=Rw.Q_row hS HW_bP.out #[.bool og,.slice p1 m1 r1,.bool os_,.slice p2 m2 r2,.int .i64 oc,.int .i64 oa];replace HI7:=Hd (Own_rowT HI7.out HPX.out (by decide) #[.bool og,.slice p1 m1 r1,.bool os_,.slice p2 m2 r2,.int .i64 oc,.int .i64 oa]);replace HF7:=Hd (Own_rowT HF7.out HPX.out (by decide) #[.bool og,.slice p1 m1 r1,.bool os_,.slice p2 m2 r2,.int .i64 oc,.int .i64 oa]);replace HPX:=Hd (Rw.Bk_row HPX.out [.bool og,.slice p1 m1 r1,.bool os_,.slice p2 m2 r2,.int .i64 oc,.int .i64 oa]);refine hK.out _ _ (by exact hS2) (fun hHeld=>?_);clear hK K hHeld hS;have hS:=hS2;clear hS2;generalize yR2x12.setRow (bP) #[.bool og,.slice p1 m1 r1,.bool os_,.slice p2 m2 r2,.int .i64 oc,.int .i64 oa] = yR2x13 at *;try simp only [Act.put,sA,sB,sC]
          refine tk 13 (by simp only [gA,gB,gC];rfl) (by first | kernel_rfl | rfl) (fun uz _=>by go_simp;try with_reducible rfl) pq hS ?_;try simp only [Act.put,sA,sB,sC]
          refine wpAnyH_done (by kernel_rfl) ?_ _;go_wp2_with fail
          go_meet
          exact ⟨bP,p1,r1,p2,r2,rfl,rfl,HPX.out,HI7.out.lst,HF7.out.lst,hS⟩
         ·go_simp
          have hq:=(Q.refl yR2x7).alloc (.cells #[.bool false,.slice none 0 0,.bool false,.slice none 0 0,.int .i64 0,.int .i64 0] 39);have HPX:=Hd (Bk.new yR2x7 39 [.bool false,.slice none 0 0,.bool false,.slice none 0 0,.int .i64 0,.int .i64 0]);have HW_bP:=Hd (Q.le hS);have hS2:=Q.trans hS hq;refine hK.out _ _ (by exact hS2) (fun hHeld=>?_);clear hK K hHeld hS hq;have hS:=hS2;clear hS2;generalize yR2x7.alloc (.cells #[.bool false,.slice none 0 0,.bool false,.slice none 0 0,.int .i64 0,.int .i64 0] 39) = yR2x15 at *;generalize yR2x7.heap.size = bP at *;try simp only [Act.put,sA,sB,sC]
          refine wpAnyH_ready (rs:=[7]) (by kernel_rfl) (by simp) ?_;refine ar (by (try simp only [gA,gB,gC]);rfl) fun K hK=>?_;go_simp
          refine (HP.out _ (HQ1.out.trans hS)).mono ?_;rintro e yR2x16 ⟨x,rfl,hso,hq⟩;obtain ⟨p1,r1,p2,r2,rfl,ho1,ho2⟩:=hso;dsimp only at ho1 ho2 |-;rw [HM1.out] at ho1 |-;rw [HM2.out] at ho2 |-;have HI7:=Hd ho1;have HF7:=Hd ho2;clear ho1 ho2;try (go_wp2_with fail)
          have HPX:=Hd (Bk.q HPX.out hq);have hS2:=Q.trans hS hq;refine hK.out _ _ (by exact hS2) (fun hHeld=>?_);clear hK K hHeld hS hq;have hS:=hS2;clear hS2;try simp only [Act.put,sA,sB,sC]
          refine tk 8 (by simp only [gA,gB,gC];rfl) (by first | kernel_rfl | rfl) (fun uz _=>by go_simp;try with_reducible rfl) pq hS ?_;try simp only [Act.put,sA,sB,sC]
          refine tk 9 (by simp only [gA,gB,gC];rfl) (by first | kernel_rfl | rfl) (fun uz _=>by go_simp;try with_reducible rfl) pq hS ?_;try simp only [Act.put,sA,sB,sC]
          refine tk 10 (by simp only [gA,gB,gC];rfl) (by first | kernel_rfl | rfl) (fun uz _=>by go_simp;try with_reducible rfl) pq hS ?_;try simp only [Act.put,sA,sB,sC]
          refine wpAnyH_ready (rs:=[12]) (by kernel_rfl) (by simp) ?_;refine ar (by (try simp only [gA,gB,gC]);rfl) fun K hK=>?_;rw [if_pos (by rfl)];refine wp_store_row 39 _ _ rfl (bP) #[.bool og,.slice p1 m1 r1,.bool os_,.slice p2 m2 r2,.int .i64 oc,.int .i64 oa] (by rfl) (by rfl) 39 _ HPX.out (by exact Pe.infoS) rfl (Rw.all1 (by rfl)) ?_;have hS2:=Rw.Q_row hS HW_bP.out #[.bool og,.slice p1 m1 r1,.bool os_,.slice p2 m2 r2,.int .i64 oc,.int .i64 oa];replace HI7:=Hd (Own_rowT HI7.out HPX.out (by decide) #[.bool og,.slice p1 m1 r1,.bool os_,.slice p2 m2 r2,.int .i64 oc,.int .i64 oa]);replace HF7:=Hd (Own_rowT HF7.out HPX.out (by decide) #[.bool og,.slice p1 m1 r1,.bool os_,.slice p2 m2 r2,.int .i64 oc,.int .i64 oa]);replace HPX:=Hd (Rw.Bk_row HPX.out [.bool og,.slice p1 m1 r1,.bool os_,.slice p2 m2 r2,.int .i64 oc,.int .i64 oa]);refine hK.out _ _ (by exact hS2) (fun hHeld=>?_);clear hK K hHeld hS;have hS:=hS2;clear hS2;generalize yR2x16.setRow (bP) #[.bool og,.slice p1 m1 r1,.bool os_,.slice p2 m2 r2,.int .i64 oc,.int .i64 oa] = yR2x20 at *;try simp only [Act.put,sA,sB,sC]
          refine tk 13 (by simp only [gA,gB,gC];rfl) (by first | kernel_rfl | rfl) (fun uz _=>by go_simp;try with_reducible rfl) pq hS ?_;try simp only [Act.put,sA,sB,sC]
          refine wpAnyH_done (by kernel_rfl) ?_ _;go_wp2_with fail
          go_meet
          exact ⟨bP,p1,r1,p2,r2,rfl,rfl,HPX.out,HI7.out.lst,HF7.out.lst,hS⟩
        ·go_simp
         have hq:=(Q.refl yR2x0).alloc (.cells #[.bool false,.slice none 0 0,.bool false,.slice none 0 0,.int .i64 0,.int .i64 0] 39);have HPX:=Hd (Bk.new yR2x0 39 [.bool false,.slice none 0 0,.bool false,.slice none 0 0,.int .i64 0,.int .i64 0]);have HW_bP:=Hd (Q.le hS);have hS2:=Q.trans hS hq;refine hK.out _ _ (by exact hS2) (fun hHeld=>?_);clear hK K hHeld hS hq;have hS:=hS2;clear hS2;generalize yR2x0.alloc (.cells #[.bool false,.slice none 0 0,.bool false,.slice none 0 0,.int .i64 0,.int .i64 0] 39) = yR2x22 at *;generalize yR2x0.heap.size = bP at *;try simp only [Act.put,sA,sB,sC]
         refine wpAnyH_ready (rs:=[4]) (by kernel_rfl) (by simp) ?_;refine ar (by (try simp only [gA,gB,gC]);rfl) fun K hK=>?_;go_simp
         refine (of_any _ _ _ _ _ _ _ _ _ _ _).mono ?_;rintro e yR2x23 ⟨rfl,hq⟩;try (go_wp2_with fail)
         have HPX:=Hd (Bk.q HPX.out hq);have hS2:=Q.trans hS hq;refine hK.out _ _ (by exact hS2) (fun hHeld=>?_);clear hK K hHeld hS hq;have hS:=hS2;clear hS2;try simp only [Act.put,sA,sB,sC]
         refine wpAnyH_ready (rs:=[7]) (by kernel_rfl) (by simp) ?_;refine ar (by (try simp only [gA,gB,gC]);rfl) fun K hK=>?_;go_simp
         refine (HP.out _ (HQ1.out.trans hS)).mono ?_;rintro e yR2x24 ⟨x,rfl,hso,hq⟩;obtain ⟨p1,r1,p2,r2,rfl,ho1,ho2⟩:=hso;dsimp only at ho1 ho2 |-;rw [HM1.out] at ho1 |-;rw [HM2.out] at ho2 |-;have HI7:=Hd ho1;have HF7:=Hd ho2;clear ho1 ho2;try (go_wp2_with fail)
         have HPX:=Hd (Bk.q HPX.out hq);have hS2:=Q.trans hS hq;refine hK.out _ _ (by exact hS2) (fun hHeld=>?_);clear hK K hHeld hS hq;have hS:=hS2;clear hS2;try simp only [Act.put,sA,sB,sC]
         refine tk 8 (by simp only [gA,gB,gC];rfl) (by first | kernel_rfl | rfl) (fun uz _=>by go_simp;try with_reducible rfl) pq hS ?_;try simp only [Act.put,sA,sB,sC]
         refine tk 9 (by simp only [gA,gB,gC];rfl) (by first | kernel_rfl | rfl) (fun uz _=>by go_simp;try with_reducible rfl) pq hS ?_;try simp only [Act.put,sA,sB,sC]
         refine tk 10 (by simp only [gA,gB,gC];rfl) (by first | kernel_rfl | rfl) (fun uz _=>by go_simp;try with_reducible rfl) pq hS ?_;try simp only [Act.put,sA,sB,sC]
         refine wpAnyH_ready (rs:=[12]) (by kernel_rfl) (by simp) ?_;refine ar (by (try simp only [gA,gB,gC]);rfl) fun K hK=>?_;rw [if_pos (by rfl)];refine wp_store_row 39 _ _ rfl (bP) #[.bool og,.slice p1 m1 r1,.bool os_,.slice p2 m2 r2,.int .i64 oc,.int .i64 oa] (by rfl) (by rfl) 39 _ HPX.out (by exact Pe.infoS) rfl (Rw.all1 (by rfl)) ?_;have hS2:=Rw.Q_row hS HW_bP.out #[.bool og,.slice p1 m1 r1,.bool os_,.slice p2 m2 r2,.int .i64 oc,.int .i64 oa];replace HI7:=Hd (Own_rowT HI7.out HPX.out (by decide) #[.bool og,.slice p1 m1 r1,.bool os_,.slice p2 m2 r2,.int .i64 oc,.int .i64 oa]);replace HF7:=Hd (Own_rowT HF7.out HPX.out (by decide) #[.bool og,.slice p1 m1 r1,.bool os_,.slice p2 m2 r2,.int .i64 oc,.int .i64 oa]);replace HPX:=Hd (Rw.Bk_row HPX.out [.bool og,.slice p1 m1 r1,.bool os_,.slice p2 m2 r2,.int .i64 oc,.int .i64 oa]);refine hK.out _ _ (by exact hS2) (fun hHeld=>?_);clear hK K hHeld hS;have hS:=hS2;clear hS2;generalize yR2x24.setRow (bP) #[.bool og,.slice p1 m1 r1,.bool os_,.slice p2 m2 r2,.int .i64 oc,.int .i64 oa] = yR2x28 at *;try simp only [Act.put,sA,sB,sC]
         refine tk 13 (by simp only [gA,gB,gC];rfl) (by first | kernel_rfl | rfl) (fun uz _=>by go_simp;try with_reducible rfl) pq hS ?_;try simp only [Act.put,sA,sB,sC]
         refine wpAnyH_done (by kernel_rfl) ?_ _;go_wp2_with fail
         go_meet
         exact ⟨bP,p1,r1,p2,r2,rfl,rfl,HPX.out,HI7.out.lst,HF7.out.lst,hS⟩
       case rest =>
        obtain ⟨bPx,p1x,r1x,p2x,r2x,rfl,rfl,hbx,hl1,hl2,hqc⟩:=hcut;obtain ⟨V2,hV2⟩:∃ x,x = wc:=⟨_,rfl⟩;subst hV2;have HPx:=Hd hbx;have HIx:=Hd hl1;have HFx:=Hd hl2;have HQx:=Hd (HQ1.out.trans hqc);clear hbx hl1 hl2 hqc;go_upto_region 16 with fail
        go_cut [16,17] (fun p e wx=>∃ b p1 r1 p2 r2,p = .pointer (some ⟨b,0,none⟩) /\ e = .int .i64 er /\ Bk wx b 26 [.bool og,.slice p1 m1 r1,.bool os_,.slice p2 m2 r2,.int .i64 oc,.int .i64 oa] /\ Lst wx (.slice p1 m1 r1) oI /\ Lst wx (.slice p2 m2 r2) oF /\ Q V2 wx)
        case first =>
         refine wp_region_held_drew (S:=fun u=>Q V2 u) (by kernel_rfl) (by exact (Q.refl V2).drew) (fun hHeld=>?_);have hS:Q V2 V2.drew:=hHeld;clear hHeld;have hq:Q V2 V2.drew:=(Q.refl _).drew;clear hq;generalize V2.drew = yR3x0 at *;change wpAnyH _ _ _ _ _ _ #[ff,ff,ff,ff,ff,ff,ff,ff,ff,ff,ff,ff,ff] _ _;refine tk 0 (by simp only [gA,gB,gC];rfl) (by first | kernel_rfl | rfl) (fun uz _=>by go_simp;try with_reducible rfl) pq hS ?_;try simp only [Act.put,sA,sB,sC]
         refine tk 1 (by simp only [gA,gB,gC];rfl) (by first | kernel_rfl | rfl) (fun uz _=>by go_simp;try with_reducible rfl) pq hS ?_;try simp only [Act.put,sA,sB,sC]
         refine tk 2 (by simp only [gA,gB,gC];rfl) (by first | kernel_rfl | rfl) (fun uz _=>by go_simp;try with_reducible rfl) pq hS ?_;try simp only [Act.put,sA,sB,sC]
         refine tk 3 (by simp only [gA,gB,gC];rfl) (by first | kernel_rfl | rfl) (fun uz hSw=>by (try dsimp only at hSw);obtain ⟨d0,d1,d2,d3,d4,d5⟩:=HC.out _ (HQx.out.trans hSw);go_simp;try with_reducible rfl) pq hS ?_;try simp only [Act.put,sA,sB,sC]
         refine tk 4 (by simp only [gA,gB,gC];rfl) (by first | kernel_rfl | rfl) (fun uz hSw=>by (try dsimp only at hSw);refine ld_row (x:=.tmp 9) ?_ ?_ ((HMV.out.q (HQx.out.trans hSw))) Try.underlying28 (by exact infoL) <;> rfl) pq hS ?_
         try simp only [Act.put,sA,sB,sC]
         refine tk 5 (by simp only [gA,gB,gC];rfl) (by first | kernel_rfl | rfl) (fun uz _=>by go_simp;try with_reducible rfl) pq hS ?_;try simp only [Act.put,sA,sB,sC]
         refine wpAnyH_ready (rs:=[6,10]) (by kernel_rfl) (by simp) ?_;refine (AllReadyH.cons (by (try simp only [gA,gB,gC]);rfl) (fun K hK=>?_) (AllReadyH.cons (by (try simp only [gA,gB,gC]);rfl) (fun K hK=>?_) AllReadyH.nil))
         ·go_simp
          refine (HR.out _ (HQx.out.trans hS)).mono ?_;rintro e yR3x7 ⟨x,rfl,hso,hq⟩;obtain ⟨p1,r1,p2,r2,rfl,ho1,ho2⟩:=hso;dsimp only at ho1 ho2 |-;rw [HM1.out] at ho1 |-;rw [HM2.out] at ho2 |-;have HI7:=Hd ho1;have HF7:=Hd ho2;clear ho1 ho2;try (go_wp2_with fail)
          have hS2:=Q.trans hS hq;refine hK.out _ _ (by exact hS2) (fun hHeld=>?_);clear hK K hHeld hS hq;have hS:=hS2;clear hS2;try simp only [Act.put,sA,sB,sC]
          refine tk 7 (by simp only [gA,gB,gC];rfl) (by first | kernel_rfl | rfl) (fun uz _=>by go_simp;try with_reducible rfl) pq hS ?_;try simp only [Act.put,sA,sB,sC]
          refine tk 8 (by simp only [gA,gB,gC];rfl) (by first | kernel_rfl | rfl) (fun uz _=>by go_simp;try with_reducible rfl) pq hS ?_;try simp only [Act.put,sA,sB,sC]
          refine tk 9 (by simp only [gA,gB,gC];rfl) (by first | kernel_rfl | rfl) (fun uz _=>by go_simp;try with_reducible rfl) pq hS ?_;try simp only [Act.put,sA,sB,sC]
          refine wpAnyH_ready (rs:=[10]) (by kernel_rfl) (by simp) ?_;refine ar (by (try simp only [gA,gB,gC]);rfl) fun K hK=>?_;go_simp
          have hq:=(Q.refl yR3x7).alloc (.cells #[.bool false,.slice none 0 0,.bool false,.slice none 0 0,.int .i64 0,.int .i64 0] 26);have HPX:=Hd (Bk.new yR3x7 26 [.bool false,.slice none 0 0,.bool false,.slice none 0 0,.int .i64 0,.int .i64 0]);have HW_bP:=Hd (Q.le hS);have HI7:=Hd (Own.q HI7.out hq);have HF7:=Hd (Own.q HF7.out hq);have hS2:=Q.trans hS hq;refine hK.out _ _ (by exact hS2) (fun hHeld=>?_);clear hK K hHeld hS hq;have hS:=hS2;clear hS2;generalize yR3x7.alloc (.cells #[.bool false,.slice none 0 0,.bool false,.slice none 0 0,.int .i64 0,.int .i64 0] 26) = yR3x11 at *;generalize yR3x7.heap.size = bP at *;try simp only [Act.put,sA,sB,sC]
          refine wpAnyH_ready (rs:=[11]) (by kernel_rfl) (by simp) ?_;refine ar (by (try simp only [gA,gB,gC]);rfl) fun K hK=>?_;rw [if_pos (by rfl)];refine wp_store_row 26 _ _ rfl (bP) #[.bool og,.slice p1 m1 r1,.bool os_,.slice p2 m2 r2,.int .i64 oc,.int .i64 oa] (by rfl) (by rfl) 26 _ HPX.out (by exact infoS) rfl (Rw.all1 (by rfl)) ?_;have hS2:=Rw.Q_row hS HW_bP.out #[.bool og,.slice p1 m1 r1,.bool os_,.slice p2 m2 r2,.int .i64 oc,.int .i64 oa];replace HI7:=Hd (Own_rowT HI7.out HPX.out (by decide) #[.bool og,.slice p1 m1 r1,.bool os_,.slice p2 m2 r2,.int .i64 oc,.int .i64 oa]);replace HF7:=Hd (Own_rowT HF7.out HPX.out (by decide) #[.bool og,.slice p1 m1 r1,.bool os_,.slice p2 m2 r2,.int .i64 oc,.int .i64 oa]);replace HPX:=Hd (Rw.Bk_row HPX.out [.bool og,.slice p1 m1 r1,.bool os_,.slice p2 m2 r2,.int .i64 oc,.int .i64 oa]);refine hK.out _ _ (by exact hS2) (fun hHeld=>?_);clear hK K hHeld hS;have hS:=hS2;clear hS2;generalize yR3x11.setRow (bP) #[.bool og,.slice p1 m1 r1,.bool os_,.slice p2 m2 r2,.int .i64 oc,.int .i64 oa] = yR3x12 at *;try simp only [Act.put,sA,sB,sC]
          refine tk 12 (by simp only [gA,gB,gC];rfl) (by first | kernel_rfl | rfl) (fun uz _=>by go_simp;try with_reducible rfl) pq hS ?_;try simp only [Act.put,sA,sB,sC]
          refine wpAnyH_done (by kernel_rfl) ?_ _;go_wp2_with fail
          go_meet
          exact ⟨bP,p1,r1,p2,r2,rfl,rfl,HPX.out,HI7.out.lst,HF7.out.lst,hS⟩
         ·go_simp
          have hq:=(Q.refl yR3x0).alloc (.cells #[.bool false,.slice none 0 0,.bool false,.slice none 0 0,.int .i64 0,.int .i64 0] 26);have HPX:=Hd (Bk.new yR3x0 26 [.bool false,.slice none 0 0,.bool false,.slice none 0 0,.int .i64 0,.int .i64 0]);have HW_bP:=Hd (Q.le hS);have hS2:=Q.trans hS hq;refine hK.out _ _ (by exact hS2) (fun hHeld=>?_);clear hK K hHeld hS hq;have hS:=hS2;clear hS2;generalize yR3x0.alloc (.cells #[.bool false,.slice none 0 0,.bool false,.slice none 0 0,.int .i64 0,.int .i64 0] 26) = yR3x14 at *;generalize yR3x0.heap.size = bP at *;try simp only [Act.put,sA,sB,sC]
          refine wpAnyH_ready (rs:=[6]) (by kernel_rfl) (by simp) ?_;refine ar (by (try simp only [gA,gB,gC]);rfl) fun K hK=>?_;go_simp
          refine (HR.out _ (HQx.out.trans hS)).mono ?_;rintro e yR3x15 ⟨x,rfl,hso,hq⟩;obtain ⟨p1,r1,p2,r2,rfl,ho1,ho2⟩:=hso;dsimp only at ho1 ho2 |-;rw [HM1.out] at ho1 |-;rw [HM2.out] at ho2 |-;have HI7:=Hd ho1;have HF7:=Hd ho2;clear ho1 ho2;try (go_wp2_with fail)
          have HPX:=Hd (Bk.q HPX.out hq);have hS2:=Q.trans hS hq;refine hK.out _ _ (by exact hS2) (fun hHeld=>?_);clear hK K hHeld hS hq;have hS:=hS2;clear hS2;try simp only [Act.put,sA,sB,sC]
          refine tk 7 (by simp only [gA,gB,gC];rfl) (by first | kernel_rfl | rfl) (fun uz _=>by go_simp;try with_reducible rfl) pq hS ?_;try simp only [Act.put,sA,sB,sC]
          refine tk 8 (by simp only [gA,gB,gC];rfl) (by first | kernel_rfl | rfl) (fun uz _=>by go_simp;try with_reducible rfl) pq hS ?_;try simp only [Act.put,sA,sB,sC]
          refine tk 9 (by simp only [gA,gB,gC];rfl) (by first | kernel_rfl | rfl) (fun uz _=>by go_simp;try with_reducible rfl) pq hS ?_;try simp only [Act.put,sA,sB,sC]
          refine wpAnyH_ready (rs:=[11]) (by kernel_rfl) (by simp) ?_;refine ar (by (try simp only [gA,gB,gC]);rfl) fun K hK=>?_;rw [if_pos (by rfl)];refine wp_store_row 26 _ _ rfl (bP) #[.bool og,.slice p1 m1 r1,.bool os_,.slice p2 m2 r2,.int .i64 oc,.int .i64 oa] (by rfl) (by rfl) 26 _ HPX.out (by exact infoS) rfl (Rw.all1 (by rfl)) ?_;have hS2:=Rw.Q_row hS HW_bP.out #[.bool og,.slice p1 m1 r1,.bool os_,.slice p2 m2 r2,.int .i64 oc,.int .i64 oa];replace HI7:=Hd (Own_rowT HI7.out HPX.out (by decide) #[.bool og,.slice p1 m1 r1,.bool os_,.slice p2 m2 r2,.int .i64 oc,.int .i64 oa]);replace HF7:=Hd (Own_rowT HF7.out HPX.out (by decide) #[.bool og,.slice p1 m1 r1,.bool os_,.slice p2 m2 r2,.int .i64 oc,.int .i64 oa]);replace HPX:=Hd (Rw.Bk_row HPX.out [.bool og,.slice p1 m1 r1,.bool os_,.slice p2 m2 r2,.int .i64 oc,.int .i64 oa]);refine hK.out _ _ (by exact hS2) (fun hHeld=>?_);clear hK K hHeld hS;have hS:=hS2;clear hS2;generalize yR3x15.setRow (bP) #[.bool og,.slice p1 m1 r1,.bool os_,.slice p2 m2 r2,.int .i64 oc,.int .i64 oa] = yR3x19 at *;try simp only [Act.put,sA,sB,sC]
          refine tk 12 (by simp only [gA,gB,gC];rfl) (by first | kernel_rfl | rfl) (fun uz _=>by go_simp;try with_reducible rfl) pq hS ?_;try simp only [Act.put,sA,sB,sC]
          refine wpAnyH_done (by kernel_rfl) ?_ _;go_wp2_with fail
          go_meet
          exact ⟨bP,p1,r1,p2,r2,rfl,rfl,HPX.out,HI7.out.lst,HF7.out.lst,hS⟩
        case rest =>
         obtain ⟨bPy,p1y,r1y,p2y,r2y,rfl,rfl,hbx,hl1,hl2,hqc⟩:=hcut;obtain ⟨V3,hV3⟩:∃ x,x = wc:=⟨_,rfl⟩;subst hV3;have HPy:=Hd hbx;have HIy:=Hd hl1;have HFy:=Hd hl2;have HQy:=Hd (HQx.out.trans hqc);replace HPx:=Hd (HPx.out.q hqc);replace HIx:=Hd (HIx.out.q hqc);replace HFx:=Hd (HFx.out.q hqc);clear hbx hl1 hl2 hqc;go_upto_region 17 with fail
         refine wp_region_held_drew (S:=fun u=>Q V3 u) (by kernel_rfl) (by exact (Q.refl V3).drew) (fun hHeld=>?_);have hS:Q V3 V3.drew:=hHeld;clear hHeld;have hq:Q V3 V3.drew:=(Q.refl _).drew;clear hq;generalize V3.drew = yR4x0 at *;change wpAnyH _ _ _ _ _ _ #[ff,ff,ff,ff,ff,ff,ff,ff,ff,ff] _ _;refine tk 0 (by simp only [gA,gB,gC];rfl) (by first | kernel_rfl | rfl) (fun uz _=>by go_simp;try with_reducible rfl) pq hS ?_;try simp only [Act.put,sA,sB,sC]
         refine tk 1 (by simp only [gA,gB,gC];rfl) (by first | kernel_rfl | rfl) (fun uz _=>by go_simp;try with_reducible rfl) pq hS ?_;try simp only [Act.put,sA,sB,sC]
         refine tk 2 (by simp only [gA,gB,gC];rfl) (by first | kernel_rfl | rfl) (fun uz _=>by go_simp;try with_reducible rfl) pq hS ?_;try simp only [Act.put,sA,sB,sC]
         refine tk 3 (by simp only [gA,gB,gC];rfl) (by first | kernel_rfl | rfl) (fun uz _=>by go_simp;try with_reducible rfl) pq hS ?_;try simp only [Act.put,sA,sB,sC]
         refine tk 4 (by simp only [gA,gB,gC];rfl) (by first | kernel_rfl | rfl) (fun uz hSw=>by (try dsimp only at hSw);refine ld_row (x:=.tmp 14) ?_ ?_ (HPx.out.q hSw) Try.underlying39 (by exact Pe.infoS) <;> rfl) pq hS ?_
         try simp only [Act.put,sA,sB,sC]
         refine tk 6 (by simp only [gA,gB,gC];rfl) (by first | kernel_rfl | rfl) (fun uz hSw=>by (try dsimp only at hSw);refine ld_row (x:=.tmp 16) ?_ ?_ (HPy.out.q hSw) Try.underlying26 (by exact infoS) <;> rfl) pq hS ?_
         try simp only [Act.put,sA,sB,sC]
         refine wpAnyH_ready (rs:=[5]) (by kernel_rfl) (by simp) ?_;refine ar (by (try simp only [gA,gB,gC]);rfl) fun K hK=>?_;go_simp
         refine (as_any _ _ _ _ _ _ _ _ _ _ _).mono ?_;rintro e yR4x7 ⟨rfl,hq⟩;try (go_wp2_with fail)
         have hS2:=Q.trans hS hq;refine hK.out _ _ (by exact hS2) (fun hHeld=>?_);clear hK K hHeld hS hq;have hS:=hS2;clear hS2;try simp only [Act.put,sA,sB,sC]
         refine wpAnyH_ready (rs:=[7]) (by kernel_rfl) (by simp) ?_;refine ar (by (try simp only [gA,gB,gC]);rfl) fun K hK=>?_;go_simp
         refine (HSM.out _ _ _ _ _ _ _ _ _ (HIx.out.q hS) (HFx.out.q hS) (HIy.out.q hS) (HFy.out.q hS)).mono ?_;rintro e yR4x8 ⟨rfl,hq⟩;try (go_wp2_with fail)
         have hS2:=Q.trans hS hq;refine hK.out _ _ (by exact hS2) (fun hHeld=>?_);clear hK K hHeld hS hq;have hS:=hS2;clear hS2;try simp only [Act.put,sA,sB,sC]
         refine tk 8 (by simp only [gA,gB,gC];rfl) (by first | kernel_rfl | rfl) (fun uz _=>by go_simp;try with_reducible rfl) pq hS ?_;try simp only [Act.put,sA,sB,sC]
         refine tk 9 (by simp only [gA,gB,gC];rfl) (by first | kernel_rfl | rfl) (fun uz _=>by go_simp;try with_reducible rfl) pq hS ?_;try simp only [Act.put,sA,sB,sC]
         refine wpAnyH_done (by kernel_rfl) ?_ _;go_wp2_with fail
         exact ⟨⟨k + 1,by first | rfl | go_num,by omega,by omega,HQy.out.trans hS⟩,by simp [intOf];omega⟩
     ·have hk7i:¬ k <= 7:=hk7
      go_wp2_with fail
      exact ⟨⟨i + 1,by go_num,by omega,HQ1.out⟩,by simp [intOf];omega⟩
   ·have hi3i:¬ (i:Int) < 3:=by omega
    have HQE:=Hd (HQV.out.trans HQ0.out);go_wp2_with fail
    refine (lives_any _).mono ?_;rintro e wz ⟨rfl,hqz⟩;have HQZ:=Hd (HQE.out.trans hqz);clear hqz;go_wp2_with fail
    go_ret
    exact ⟨rfl,HQZ.out⟩
end El
end
end Go.Proofs.Ytnehhbobhnmbcaa
