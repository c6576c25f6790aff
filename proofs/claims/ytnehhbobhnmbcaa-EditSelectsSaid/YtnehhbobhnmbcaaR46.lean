/- EditSelects: what may be selected is, and the front and the back are told; the sign is turned where there may be one. (and more) -/
import Derived.Test.YtnehhbobhnmbcaaR44
set_option linter.all false
set_option maxRecDepth 100000
set_option maxHeartbeats 8000000
namespace Go.Proofs.Ytnehhbobhnmbcaa
section
open Go.RowKit
namespace El
open Ed Tm
open Re hiding ret_st may_any way_any sel_any tog_any mov_any ins_any word_right word_left
theorem law_selects (g s:Bool) (a1 a2:Option Addr) (n1 n2 c1 c2:Nat) (I F:List Int) (c a:Int) (sa sb:Int) (li lf:Int) (lg:Bool) (w:World) (hi:Lst w (.slice a1 n1 c1) I) (hf:Lst w (.slice a2 n2 c2) F) (k1:I.length = n1) (k2:F.length = n2) (bi:∀ n ∈ I,-9223372036854775808 <= n /\ n <= 9223372036854775807) (bf:∀ n ∈ F,-9223372036854775808 <= n /\ n <= 9223372036854775807) (hc:-9223372036854775808 <= c /\ c <= 9223372036854775807) (ha:-9223372036854775808 <= a /\ a <= 9223372036854775807) (hsa:-9223372036854775808 <= sa /\ sa <= 9223372036854775807) (hsb:-9223372036854775808 <= sb /\ sb <= 9223372036854775807) (hli:-9223372036854775808 <= li /\ li <= 9223372036854775807) (hlf:-9223372036854775808 <= lf /\ lf <= 9223372036854775807) :
  Calls Try.prog 6 #[.agg #[.bool g,.slice a1 n1 c1,.bool s,.slice a2 n2 c2,.int .i64 c,.int .i64 a],.int .i64 sa,.int .i64 sb,.agg #[.int .i64 li,.int .i64 lf,.bool lg]] w fun e w'=>e = .returned (.bool true) /\ Q w w':=by
 obtain ⟨_,_,hv,hnc,hcm⟩:=hi.form0 k1;cases hv;obtain ⟨_,_,hv,hnf,hfm⟩:=hf.form0 k2;cases hv;have HGD:=Hd (fun u (q:Q w u)=>good_any g s a1 a2 n1 n2 c1 c2 I F c a u (hi.q q) (hf.q q) k1 k2 (by unfold maxLen at hcm;omega) (by unfold maxLen at hfm;omega) bi bf hc ha 6 4 (by omega) (by omega));have hmX:=gdS_may ⟨⟨g,I,s,F⟩,c,a⟩ 6 4;have hlX:=gdS_len ⟨⟨g,I,s,F⟩,c,a⟩ 6 4;obtain ⟨f1,hf1⟩:∃ p,p = min n1 8:=⟨_,rfl⟩;obtain ⟨f2,hf2⟩:∃ p,p = min n2 8:=⟨_,rfl⟩;have HFW:=Hd (fun u=>few_any g s a1 a2 n1 n2 c1 c2 c a 8 u hnc hnf hcm hfm (by omega) f1 f2 hf1 hf2);have hr1:=hi.take f1 (by omega);have hr2:=hf.take f2 (by omega);obtain ⟨L1,hL1⟩:∃ L,L = I.take f1:=⟨_,rfl⟩;obtain ⟨L2,hL2⟩:∃ L,L = F.take f2:=⟨_,rfl⟩;have kk1:L1.length = f1:=by rw [hL1,List.length_take];omega
 have kk2:L2.length = f2:=by rw [hL2,List.length_take];omega
 rw [<- hL1] at hr1;rw [<- hL2] at hr2;have HLL:=Hd (⟨kk1,kk2⟩:_ /\ _);have HRW:=Hd (fun u (q:Q w u)=>(⟨hr1.q q,hr2.q q⟩:_ /\ _));have hf18:f1 <= 8:=by omega
 have hf28:f2 <= 8:=by omega
 clear hr1 hr2 hL1 hL2 kk1 kk2 hf1 hf2;have HAA:=Hd (fun u=>(by
  refine (Ur.around_any sa 13 u hsa.1 hsa.2 (by omega) (by omega)).mono ?_;rintro e w' ⟨rfl,rfl⟩;exact ⟨rfl,Q.refl _⟩:Calls Try.prog 24 #[.int .i64 sa,.int .i64 13] u fun e w'=>e = .returned (.int .i64 (Um.around sa 13)) /\ Q u w'))
 generalize Um.around sa 13 = AA at *;have HAB:=Hd (fun u=>(by
  refine (Ur.around_any sb 13 u hsb.1 hsb.2 (by omega) (by omega)).mono ?_;rintro e w' ⟨rfl,rfl⟩;exact ⟨rfl,Q.refl _⟩:Calls Try.prog 24 #[.int .i64 sb,.int .i64 13] u fun e w'=>e = .returned (.int .i64 (Um.around sb 13)) /\ Q u w'))
 generalize Um.around sb 13 = AB at *;generalize gdS ⟨⟨g,I,s,F⟩,c,a⟩ 6 4 = X at *;obtain ⟨⟨ogX,oIX,osX_,oFX⟩,ocX,oaX⟩:=X;dsimp only at hlX;obtain ⟨m1X,hm1⟩:∃ m,m = oIX.length:=⟨_,rfl⟩;obtain ⟨m2X,hm2⟩:∃ m,m = oFX.length:=⟨_,rfl⟩;rw [<- hm1,<- hm2] at hlX;have HM1X:=Hd hm1.symm;have HM2X:=Hd hm2.symm;clear hm1 hm2;clear hi hf k1 k2 bi bf hc ha hmX hnc hcm hnf hfm hsa hsb;obtain ⟨y0,hy0⟩:∃ z,z = w.alloc (.cells #[.bool g,.slice a1 n1 c1,.bool s,.slice a2 n2 c2,.int .i64 c,.int .i64 a] 26):=⟨_,rfl⟩;have hq0:Q w y0:=by rw [hy0];exact (Q.refl _).alloc _
 have hs0:y0.heap.size = w.heap.size + 1:=by rw [hy0];simp
 have hc0:Bk y0 w.heap.size 26 [.bool g,.slice a1 n1 c1,.bool s,.slice a2 n2 c2,.int .i64 c,.int .i64 a]:=by rw [hy0];exact Bk.new _ _ _
 obtain ⟨y1,hy1⟩:∃ z,z = y0.alloc (.cells #[.int .i64 li,.int .i64 lf,.bool lg] 28):=⟨_,rfl⟩;have hq1:Q y0 y1:=by rw [hy1];exact (Q.refl _).alloc _
 have hs1:y1.heap.size = w.heap.size + 2:=by rw [hy1];simp;omega
 have hc1:Bk y1 y0.heap.size 28 [.int .i64 li,.int .i64 lf,.bool lg]:=by rw [hy1];exact Bk.new _ _ _
 rw [hs0] at hc1;have HQ:=Hd (hq0.trans hq1);have HSB:=Hd (hc0.q hq1);have HLB:=Hd hc1;have hz2:y1 = (w.alloc (.cells #[.bool g,.slice a1 n1 c1,.bool s,.slice a2 n2 c2,.int .i64 c,.int .i64 a] 26)).alloc (.cells #[.int .i64 li,.int .i64 lf,.bool lg] 28):=by rw [hy1,hy0]
 obtain ⟨bS,hbbS⟩:∃ k,k = w.heap.size:=⟨_,rfl⟩;have HWbS:=Hd (show w.heap.size <= bS by omega);obtain ⟨bL,hbbL⟩:∃ k,k = w.heap.size + 1:=⟨_,rfl⟩;have HWbL:=Hd (show w.heap.size <= bL by omega);clear hq0 hs0 hc0 hy0 hq1 hs1 hc1 hy1;go_enter Try.func6,Try.ntmps6
 go_upto_region 1 with fail
 rw [<- hz2,<- hbbL,<- hbbS];rw [<- hbbS] at HSB;rw [<- hbbL] at HLB;clear hz2 hbbS hbbL;go_wp2_with (refine wpList_load_row (by rfl) 26 _ (by rfl) bS (by rfl) 26 #[.bool g,.slice a1 n1 c1,.bool s,.slice a2 n2 c2,.int .i64 c,.int .i64 a] (0,0) _ HSB.out Try.underlying26 rfl (by exact infoS) ?_)
 refine (HGD.out _ HQ.out).mono ?_;rintro e u1 ⟨x,rfl,hso,hq⟩;obtain ⟨p1X,r1X,p2X,r2X,rfl,ho1,ho2⟩:=hso;dsimp only at ho1 ho2 |-;rw [HM1X.out] at ho1 |-;rw [HM2X.out] at ho2 |-;have HO1X:=Hd ho1;have HO2X:=Hd ho2;clear ho1 ho2;replace HQ:=Hd (Q.trans HQ.out hq);replace HSB:=Hd (Bk.q HSB.out hq);replace HLB:=Hd (Bk.q HLB.out hq);clear hq;clear HGD;obtain ⟨u2,hwu2⟩:∃ z,z = u1.alloc (.cells #[.bool ogX,.slice p1X m1X r1X,.bool osX_,.slice p2X m2X r2X,.int .i64 ocX,.int .i64 oaX] 26):=⟨_,rfl⟩;have hq:Q u1 u2:=by rw [hwu2];exact (Q.refl _).alloc _
 have HXB:=Hd (show Bk u2 u1.heap.size 26 [.bool ogX,.slice p1X m1X r1X,.bool osX_,.slice p2X m2X r2X,.int .i64 ocX,.int .i64 oaX] by rw [hwu2];exact Bk.new _ _ _);obtain ⟨bX,hbbX⟩:∃ k,k = u1.heap.size:=⟨_,rfl⟩;rw [<- hbbX] at HXB;replace HQ:=Hd (Q.trans HQ.out hq);replace HSB:=Hd (Bk.q HSB.out hq);replace HLB:=Hd (Bk.q HLB.out hq);replace HO1X:=Hd (Own.q HO1X.out hq);replace HO2X:=Hd (Own.q HO2X.out hq);clear hq;go_upto_region 2 with fail
 rw [<- hwu2,<- hbbX];clear hwu2 hbbX;go_cut [10] (fun p wx=>∃ b,p = .slice (some ⟨b,0,none⟩) 3 3 /\ Bk wx b 26 [.bool ogX,.slice p1X m1X r1X,.bool osX_,.slice p2X m2X r2X,.int .i64 ocX,.int .i64 oaX,.bool g,.slice a1 f1 c1,.bool s,.slice a2 f2 c2,.int .i64 c,.int .i64 a,.bool ogX,.slice p1X m1X r1X,.bool osX_,.slice p2X m2X r2X,.int .i64 ocX,.int .i64 oaX] /\ Q u2 wx)
 case first =>
  refine wp_region_held_drew (S:=fun u=>Q u2 u) (by kernel_rfl) (by exact (Q.refl u2).drew) (fun hHeld=>?_);have hS:Q u2 u2.drew:=hHeld;clear hHeld;have hq:Q u2 u2.drew:=(Q.refl _).drew;clear hq;generalize u2.drew = yR6x0 at *;refine tk 0 (by simp only [gA,gB,gC];rfl) (by first | kernel_rfl | rfl) (fun uz hSw=>by (try dsimp only at hSw);refine ld_row (x:=.tmp 9) ?_ ?_ (Bk.q HXB.out hSw) Try.underlying26 (by exact infoS) <;> rfl) pq hS ?_
  try simp only [Act.put,sA,sB,sC]
  refine tk 1 (by simp only [gA,gB,gC];rfl) (by first | kernel_rfl | rfl) (fun uz hSw=>by (try dsimp only at hSw);refine ld_row (x:=.tmp 4) ?_ ?_ (Bk.q HSB.out hSw) Try.underlying26 (by exact infoS) <;> rfl) pq hS ?_
  try simp only [Act.put,sA,sB,sC]
  refine tk 3 (by simp only [gA,gB,gC];rfl) (by first | kernel_rfl | rfl) (fun uz hSw=>by (try dsimp only at hSw);refine ld_row (x:=.tmp 9) ?_ ?_ (Bk.q HXB.out hSw) Try.underlying26 (by exact infoS) <;> rfl) pq hS ?_
  try simp only [Act.put,sA,sB,sC]
  refine wpAnyH_ready (rs:=[2]) (by kernel_rfl) (by simp) ?_;refine ar (by (try simp only [gA,gB,gC]);rfl) fun K hK=>?_;go_simp
  refine (HFW.out _).mono ?_;rintro e yR6x4 ⟨rfl,hq⟩;try (go_wp2_with fail)
  have hS2:=Q.trans hS hq;refine hK.out _ _ (by exact hS2) (fun hHeld=>?_);clear hK K hHeld hS hq;have hS:=hS2;clear hS2;try simp only [Act.put,sA,sB,sC]
  refine wpAnyH_ready (rs:=[4]) (by kernel_rfl) (by simp) ?_;refine ar (by (try simp only [gA,gB,gC]);rfl) fun K hK=>?_;go_simp
  have hq:=(Q.refl yR6x4).alloc (.cells #[.bool ogX,.slice p1X m1X r1X,.bool osX_,.slice p2X m2X r2X,.int .i64 ocX,.int .i64 oaX,.bool g,.slice a1 f1 c1,.bool s,.slice a2 f2 c2,.int .i64 c,.int .i64 a,.bool ogX,.slice p1X m1X r1X,.bool osX_,.slice p2X m2X r2X,.int .i64 ocX,.int .i64 oaX] 26);have HBA:=Hd (Bk.new yR6x4 26 [.bool ogX,.slice p1X m1X r1X,.bool osX_,.slice p2X m2X r2X,.int .i64 ocX,.int .i64 oaX,.bool g,.slice a1 f1 c1,.bool s,.slice a2 f2 c2,.int .i64 c,.int .i64 a,.bool ogX,.slice p1X m1X r1X,.bool osX_,.slice p2X m2X r2X,.int .i64 ocX,.int .i64 oaX]);have HW_bA:=Hd (Q.le hS);have hS2:=Q.trans hS hq;refine hK.out _ _ (by exact hS2) (fun hHeld=>?_);clear hK K hHeld hS hq;have hS:=hS2;clear hS2;generalize yR6x4.alloc (.cells #[.bool ogX,.slice p1X m1X r1X,.bool osX_,.slice p2X m2X r2X,.int .i64 ocX,.int .i64 oaX,.bool g,.slice a1 f1 c1,.bool s,.slice a2 f2 c2,.int .i64 c,.int .i64 a,.bool ogX,.slice p1X m1X r1X,.bool osX_,.slice p2X m2X r2X,.int .i64 ocX,.int .i64 oaX] 26) = yR6x5 at *;generalize yR6x4.heap.size = bA at *;try simp only [Act.put,sA,sB,sC]
  refine tk 5 (by simp only [gA,gB,gC];rfl) (by first | kernel_rfl | rfl) (fun uz _=>by go_simp;try with_reducible rfl) pq hS ?_;try simp only [Act.put,sA,sB,sC]
  refine wpAnyH_done (by kernel_rfl) ?_ _;go_wp2_with fail
  go_meet
  exact ⟨bA,rfl,HBA.out,hS⟩
 case rest =>
  obtain ⟨bA,rfl,hba,hq⟩:=hcut;have HBA:=Hd hba;obtain ⟨V,hV⟩:∃ x,x = wc:=⟨_,rfl⟩;subst hV;replace HQ:=Hd (Q.trans HQ.out hq);replace HSB:=Hd (Bk.q HSB.out hq);replace HLB:=Hd (Bk.q HLB.out hq);replace HO1X:=Hd (Own.q HO1X.out hq);replace HO2X:=Hd (Own.q HO2X.out hq);replace HXB:=Hd (Bk.q HXB.out hq);clear hq hba HFW;go_wp2_with fail
  refine (HAA.out _).mono ?_;rintro e u23 ⟨rfl,hq⟩;replace HQ:=Hd (Q.trans HQ.out hq);replace HSB:=Hd (Bk.q HSB.out hq);replace HLB:=Hd (Bk.q HLB.out hq);replace HO1X:=Hd (Own.q HO1X.out hq);replace HO2X:=Hd (Own.q HO2X.out hq);replace HXB:=Hd (Bk.q HXB.out hq);replace HBA:=Hd (Bk.q HBA.out hq);clear hq;go_wp2_with fail
  refine (HAA.out _).mono ?_;rintro e u24 ⟨rfl,hq⟩;replace HQ:=Hd (Q.trans HQ.out hq);replace HSB:=Hd (Bk.q HSB.out hq);replace HLB:=Hd (Bk.q HLB.out hq);replace HO1X:=Hd (Own.q HO1X.out hq);replace HO2X:=Hd (Own.q HO2X.out hq);replace HXB:=Hd (Bk.q HXB.out hq);replace HBA:=Hd (Bk.q HBA.out hq);clear hq;obtain ⟨u25,hwu25⟩:∃ z,z = u24.alloc (.cells #[.int .i64 AA,.int .i64 AA,.int .i64 sa] 3):=⟨_,rfl⟩;have hq:Q u24 u25:=by rw [hwu25];exact (Q.refl _).alloc _
  have HIB:=Hd (show Bk u25 u24.heap.size 3 [.int .i64 AA,.int .i64 AA,.int .i64 sa] by rw [hwu25];exact Bk.new _ _ _);obtain ⟨bI,hbbI⟩:∃ k,k = u24.heap.size:=⟨_,rfl⟩;rw [<- hbbI] at HIB;replace HQ:=Hd (Q.trans HQ.out hq);replace HSB:=Hd (Bk.q HSB.out hq);replace HLB:=Hd (Bk.q HLB.out hq);replace HO1X:=Hd (Own.q HO1X.out hq);replace HO2X:=Hd (Own.q HO2X.out hq);replace HXB:=Hd (Bk.q HXB.out hq);replace HBA:=Hd (Bk.q HBA.out hq);clear hq;go_upto_region 4 with fail
  rw [<- hwu25,<- hbbI];clear hwu25 hbbI;go_wp2_with fail
  refine (HAB.out _).mono ?_;rintro e u26 ⟨rfl,hq⟩;replace HQ:=Hd (Q.trans HQ.out hq);replace HSB:=Hd (Bk.q HSB.out hq);replace HLB:=Hd (Bk.q HLB.out hq);replace HO1X:=Hd (Own.q HO1X.out hq);replace HO2X:=Hd (Own.q HO2X.out hq);replace HXB:=Hd (Bk.q HXB.out hq);replace HBA:=Hd (Bk.q HBA.out hq);replace HIB:=Hd (Bk.q HIB.out hq);clear hq;go_wp2_with fail
  refine (HAB.out _).mono ?_;rintro e u27 ⟨rfl,hq⟩;replace HQ:=Hd (Q.trans HQ.out hq);replace HSB:=Hd (Bk.q HSB.out hq);replace HLB:=Hd (Bk.q HLB.out hq);replace HO1X:=Hd (Own.q HO1X.out hq);replace HO2X:=Hd (Own.q HO2X.out hq);replace HXB:=Hd (Bk.q HXB.out hq);replace HBA:=Hd (Bk.q HBA.out hq);replace HIB:=Hd (Bk.q HIB.out hq);clear hq;obtain ⟨u28,hwu28⟩:∃ z,z = u27.alloc (.cells #[.int .i64 AB,.int .i64 AB,.int .i64 sb] 3):=⟨_,rfl⟩;have hq:Q u27 u28:=by rw [hwu28];exact (Q.refl _).alloc _
  have HJB:=Hd (show Bk u28 u27.heap.size 3 [.int .i64 AB,.int .i64 AB,.int .i64 sb] by rw [hwu28];exact Bk.new _ _ _);obtain ⟨bJ,hbbJ⟩:∃ k,k = u27.heap.size:=⟨_,rfl⟩;rw [<- hbbJ] at HJB;replace HQ:=Hd (Q.trans HQ.out hq);replace HSB:=Hd (Bk.q HSB.out hq);replace HLB:=Hd (Bk.q HLB.out hq);replace HO1X:=Hd (Own.q HO1X.out hq);replace HO2X:=Hd (Own.q HO2X.out hq);replace HXB:=Hd (Bk.q HXB.out hq);replace HBA:=Hd (Bk.q HBA.out hq);replace HIB:=Hd (Bk.q HIB.out hq);clear hq;go_upto_region 5 with fail
  rw [<- hwu28,<- hbbJ];clear hwu28 hbbJ;obtain ⟨V9,hV9⟩:∃ x,x = u28:=⟨_,rfl⟩;subst hV9;have HEL:=Hd (show EL bA V9 8 from EL.of HBA.out ⟨HO1X.out.lst,HO2X.out.lst,HM1X.out,HM2X.out,by omega,by omega⟩ ⟨(HRW.out _ HQ.out).1,(HRW.out _ HQ.out).2,HLL.out.1,HLL.out.2,hf18,hf28⟩ ⟨HO1X.out.lst,HO2X.out.lst,HM1X.out,HM2X.out,by omega,by omega⟩);have hxi:=HIB.out;have hxj:=HJB.out;have HEI:=Hd (fun (i:Nat) (hi:i < 3)=>(by
   have h3:i = 0 \/ i = 1 \/ i = 2:=by omega
   rcases h3 with rfl | rfl | rfl
   ·exact ⟨AA,AB,fun u q=>⟨(hxi.q q).cell 0 rfl,(hxj.q q).cell 0 rfl⟩⟩
   ·exact ⟨AA,AB,fun u q=>⟨(hxi.q q).cell 1 rfl,(hxj.q q).cell 1 rfl⟩⟩
   ·exact ⟨sa,sb,fun u q=>⟨(hxi.q q).cell 2 rfl,(hxj.q q).cell 2 rfl⟩⟩:∃ x y:Int,∀ u,Q V9 u -> u.cell? ⟨bI,i,none⟩ = some (.int .i64 x) /\ u.cell? ⟨bJ,i,none⟩ = some (.int .i64 y)))
  have HQV:=Hd HQ.out;have HLV:=Hd HLB.out;clear HQ HSB HXB HBA HLB HIB HJB hxi hxj HO1X HO2X HRW HLL HM1X HM2X HAA HAB;go_wp2_with fail
  go_loopw [13] (fun t wr=>∃ i:Nat,t = .int .i64 i /\ i <= 3 /\ Q V9 wr) (fun t _=>3 - (intOf t).toNat)
  case atStart=>exact ⟨0,rfl,by omega,Q.refl _⟩
  case round =>
   obtain ⟨i,rfl,hi,hq⟩:=hrel;have HQ1:=Hd hq;clear hq;by_cases hi3:i < 3
   ·obtain ⟨zg,zs,z1,z2,zm,zn,z3,z4,zI,zF,zc,za,hc,h1,h2,k1,k2,hz1,hz2⟩:=HEL.out i hi3
    obtain ⟨xa,xb,hij⟩:=HEI.out i hi3;have HC:=Hd hc;have HJ:=Hd hij;have HZL:=Hd (fun u (q:Q V9 u)=>(⟨h1.q q,h2.q q⟩:_ /\ _));have HPs:=Hd (fun u (q:Q V9 u)=>Pe.sel_any zg zs z1 z2 zm zn z3 z4 zI zF zc za xa xb u (h1.q q) (h2.q q) k1 k2 (by omega) (by omega));have HRs:=Hd (fun u (q:Q V9 u)=>Re.sel_any zg zs z1 z2 zm zn z3 z4 zI zF zc za xa xb u (h1.q q) (h2.q q) k1 k2 (by omega) (by omega));have HPt:=Hd (fun u (q:Q V9 u)=>Pe.tog_any zg zs z1 z2 zm zn z3 z4 zI zF zc za li lf lg u (h1.q q) (h2.q q) k1 k2 (by omega) (by omega));have HRt:=Hd (fun u (q:Q V9 u)=>Re.tog_any zg zs z1 z2 zm zn z3 z4 zI zF zc za li lf lg u (h1.q q) (h2.q q) k1 k2 (by omega) (by omega));have HSP:=Hd (fun u (q:Q V9 u)=>Pe.span_any zg zs z1 z2 zm zn z3 z4 zI zF zc za u (h1.q q) (h2.q q) k1 k2 (by omega) (by omega));have HPm:=Hd (fun u (q:Q V9 u)=>Pe.may_any zg zs z1 z2 zm zn z3 z4 zI zF zc za u (h1.q q) (h2.q q) k1 k2 (by omega) (by omega));have HRm:=Hd (fun u (q:Q V9 u)=>Re.may_any zg zs z1 z2 zm zn z3 z4 zI zF zc za u (h1.q q) (h2.q q) k1 k2 (by omega) (by omega));have HOK:=Hd (fun (h:mayS ⟨⟨zg,zI,zs,zF⟩,zc,za⟩ = true)=>(⟨spF_ok h,spB_ok h⟩:_ /\ _));have HNO:=Hd (fun (h:mayS ⟨⟨zg,zI,zs,zF⟩,zc,za⟩ = false)=>(⟨spF_no h,spB_no h⟩:_ /\ _));have HLS:=sel_len (s:=⟨⟨zg,zI,zs,zF⟩,zc,za⟩) (a:=xa) (c:=xb) (k:=100) (by dsimp only;omega) (by dsimp only;omega);have HLT:=tog_len (s:=⟨⟨zg,zI,zs,zF⟩,zc,za⟩) (l:=⟨li,lf,lg⟩) (k:=100) (by dsimp only;omega) (by dsimp only;omega);have HMN:=Hd (show (if za < zc then za else zc) = fr ⟨⟨zg,zI,zs,zF⟩,zc,za⟩ by show _ = min zc za;split <;> omega)
    have HMX:=Hd (show (if zc < za then za else zc) = bk ⟨⟨zg,zI,zs,zF⟩,zc,za⟩ by show _ = max zc za;split <;> omega)
    have hi3i:(i:Int) < 3:=by omega
    generalize sel ⟨⟨zg,zI,zs,zF⟩,zc,za⟩ xa xb = RRs at *;generalize tog ⟨⟨zg,zI,zs,zF⟩,zc,za⟩ ⟨li,lf,lg⟩ = RRt at *;generalize spF ⟨⟨zg,zI,zs,zF⟩,zc,za⟩ = SF at *;generalize spB ⟨⟨zg,zI,zs,zF⟩,zc,za⟩ = SB at *;generalize fr ⟨⟨zg,zI,zs,zF⟩,zc,za⟩ = FR at *;generalize bk ⟨⟨zg,zI,zs,zF⟩,zc,za⟩ = BK at *;generalize mayS ⟨⟨zg,zI,zs,zF⟩,zc,za⟩ = M at *;obtain ⟨⟨⟨ogs,oIs,oss_,oFs⟩,ocs,oas⟩,ers_⟩:=RRs;obtain ⟨⟨⟨ogt,oIt,ost_,oFt⟩,oct,oat⟩,ert_⟩:=RRt;dsimp only at HPs HRs HLS HPt HRt HLT;obtain ⟨m1s,hm1⟩:∃ m,m = oIs.length:=⟨_,rfl⟩;obtain ⟨m2s,hm2⟩:∃ m,m = oFs.length:=⟨_,rfl⟩;rw [<- hm1,<- hm2] at HLS;obtain ⟨m1t,hm3⟩:∃ m,m = oIt.length:=⟨_,rfl⟩;obtain ⟨m2t,hm4⟩:∃ m,m = oFt.length:=⟨_,rfl⟩;rw [<- hm3,<- hm4] at HLT;have HM1s:=Hd hm1.symm;have HM2s:=Hd hm2.symm;have HM1t:=Hd hm3.symm;have HM2t:=Hd hm4.symm;clear hm1 hm2 hm3 hm4 hc hij h1 h2 k1 k2;have HSMs:=Hd (fun u a1 a2 b1 b2 c1 c2 d1 d2 h1 h2 h3 h4=>same_self ogs oss_ a1 a2 b1 b2 m1s m2s c1 c2 d1 d2 oIs oFs ocs oas u h1 h2 h3 h4 (by rw [HM1s.out];omega) (by rw [HM2s.out];omega));have HSMt:=Hd (fun u a1 a2 b1 b2 c1 c2 d1 d2 h1 h2 h3 h4=>same_self ogt ost_ a1 a2 b1 b2 m1t m2t c1 c2 d1 d2 oIt oFt oct oat u h1 h2 h3 h4 (by rw [HM1t.out];omega) (by rw [HM2t.out];omega));go_upto_region 8 with fail
    go_cut [14,15] (fun p e wx=>∃ b p1 r1 p2 r2,p = .pointer (some ⟨b,0,none⟩) /\ e = .int .i64 ers_ /\ Bk wx b 39 [.bool ogs,.slice p1 m1s r1,.bool oss_,.slice p2 m2s r2,.int .i64 ocs,.int .i64 oas] /\ Lst wx (.slice p1 m1s r1) oIs /\ Lst wx (.slice p2 m2s r2) oFs /\ Q wr wx)
    case first =>
     refine r8 V9 wr bA bI bJ bL i hi3i zg zs z1 z2 zm zn z3 z4 zI zF zc za xa xb li lf lg ogs oss_ oIs oFs ocs oas ers_ m1s m2s HC HJ HLV HZL HQ1 HM1s HM2s HPs _ _ (fun _ _ d _ _ h=>by cases d <;> exact h) (fun b p1 r1 p2 r2 _ _ _ _ _ _ _ _ _ _ _ _ _ _ _ _ _ y h1 h2 h3 h4=>?_)
     dsimp only;go_wp2_with fail
     go_meet
     exact ⟨b,p1,r1,p2,r2,rfl,rfl,h1,h2,h3,h4⟩
    case rest =>
     obtain ⟨bPx,p1x,r1x,p2x,r2x,rfl,rfl,hbx,hl1,hl2,hqc⟩:=hcut;obtain ⟨U2,hU2⟩:∃ x,x = wc:=⟨_,rfl⟩;subst hU2;have HPx:=Hd hbx;have HIx:=Hd hl1;have HFx:=Hd hl2;have HQx:=Hd (HQ1.out.trans hqc);clear hbx hl1 hl2 hqc HPs;go_upto_region 9 with fail
     go_cut [16,17] (fun p e wx=>∃ b p1 r1 p2 r2,p = .pointer (some ⟨b,0,none⟩) /\ e = .int .i64 ers_ /\ Bk wx b 26 [.bool ogs,.slice p1 m1s r1,.bool oss_,.slice p2 m2s r2,.int .i64 ocs,.int .i64 oas] /\ Lst wx (.slice p1 m1s r1) oIs /\ Lst wx (.slice p2 m2s r2) oFs /\ Q U2 wx)
     case first =>
      refine r9 V9 U2 bA bI bJ bL i hi3i zg zs z1 z2 zm zn z3 z4 zI zF zc za xa xb li lf lg ogs oss_ oIs oFs ocs oas ers_ m1s m2s HC HJ HLV HZL HQx HM1s HM2s HRs _ _ (fun _ _ d _ _ h=>by cases d <;> exact h) (fun b p1 r1 p2 r2 _ _ _ _ _ _ _ _ _ _ _ _ _ _ _ _ y h1 h2 h3 h4=>?_)
      dsimp only;go_wp2_with fail
      go_meet
      exact ⟨b,p1,r1,p2,r2,rfl,rfl,h1,h2,h3,h4⟩
     case rest =>
      obtain ⟨bPy,p1y,r1y,p2y,r2y,rfl,rfl,hbx,hl1,hl2,hqc⟩:=hcut;obtain ⟨U3,hU3⟩:∃ x,x = wc:=⟨_,rfl⟩;subst hU3;have HPy:=Hd hbx;have HIy:=Hd hl1;have HFy:=Hd hl2;have HQy:=Hd (HQx.out.trans hqc);replace HPx:=Hd (HPx.out.q hqc);replace HIx:=Hd (HIx.out.q hqc);replace HFx:=Hd (HFx.out.q hqc);clear hbx hl1 hl2 hqc HRs;go_upto_region 10 with fail
      go_cut [18,19] (fun p e wx=>∃ b p1 r1 p2 r2,p = .pointer (some ⟨b,0,none⟩) /\ e = .int .i64 ert_ /\ Bk wx b 39 [.bool ogt,.slice p1 m1t r1,.bool ost_,.slice p2 m2t r2,.int .i64 oct,.int .i64 oat] /\ Lst wx (.slice p1 m1t r1) oIt /\ Lst wx (.slice p2 m2t r2) oFt /\ Q U3 wx)
      case first =>
       refine r10 V9 U3 bA bI bJ bL i hi3i zg zs z1 z2 zm zn z3 z4 zI zF zc za xa xb li lf lg ogt ost_ oIt oFt oct oat ert_ m1t m2t HC HJ HLV HZL HQy HM1t HM2t HPt _ _ (fun _ _ d _ _ h=>by cases d <;> exact h) (fun b p1 r1 p2 r2 _ _ _ _ _ _ _ _ _ _ y h1 h2 h3 h4=>?_)
       dsimp only;go_wp2_with fail
       go_meet
       exact ⟨b,p1,r1,p2,r2,rfl,rfl,h1,h2,h3,h4⟩
      case rest =>
       obtain ⟨bPz,p1z,r1z,p2z,r2z,rfl,rfl,hbx,hl1,hl2,hqc⟩:=hcut;obtain ⟨U4,hU4⟩:∃ x,x = wc:=⟨_,rfl⟩;subst hU4;have HPz:=Hd hbx;have HIz:=Hd hl1;have HFz:=Hd hl2;have HQz:=Hd (HQy.out.trans hqc);replace HPx:=Hd (HPx.out.q hqc);replace HIx:=Hd (HIx.out.q hqc);replace HFx:=Hd (HFx.out.q hqc);replace HPy:=Hd (HPy.out.q hqc);replace HIy:=Hd (HIy.out.q hqc);replace HFy:=Hd (HFy.out.q hqc);clear hbx hl1 hl2 hqc HPt;go_upto_region 11 with fail
       go_cut [20,21] (fun p e wx=>∃ b p1 r1 p2 r2,p = .pointer (some ⟨b,0,none⟩) /\ e = .int .i64 ert_ /\ Bk wx b 26 [.bool ogt,.slice p1 m1t r1,.bool ost_,.slice p2 m2t r2,.int .i64 oct,.int .i64 oat] /\ Lst wx (.slice p1 m1t r1) oIt /\ Lst wx (.slice p2 m2t r2) oFt /\ Q U4 wx)
       case first =>
        refine r11 V9 U4 bA bI bJ bL i hi3i zg zs z1 z2 zm zn z3 z4 zI zF zc za xa xb li lf lg ogt ost_ oIt oFt oct oat ert_ m1t m2t HC HJ HLV HZL HQz HM1t HM2t HRt _ _ (fun _ _ d _ _ h=>by cases d <;> exact h) (fun b p1 r1 p2 r2 _ _ _ _ _ _ _ _ _ y h1 h2 h3 h4=>?_)
        dsimp only;go_wp2_with fail
        go_meet
        exact ⟨b,p1,r1,p2,r2,rfl,rfl,h1,h2,h3,h4⟩
       case rest =>
        obtain ⟨bPv,p1v,r1v,p2v,r2v,rfl,rfl,hbx,hl1,hl2,hqc⟩:=hcut;obtain ⟨U5,hU5⟩:∃ x,x = wc:=⟨_,rfl⟩;subst hU5;have HPv:=Hd hbx;have HIv:=Hd hl1;have HFv:=Hd hl2;have HQv:=Hd (HQz.out.trans hqc);replace HPx:=Hd (HPx.out.q hqc);replace HIx:=Hd (HIx.out.q hqc);replace HFx:=Hd (HFx.out.q hqc);replace HPy:=Hd (HPy.out.q hqc);replace HIy:=Hd (HIy.out.q hqc);replace HFy:=Hd (HFy.out.q hqc);replace HPz:=Hd (HPz.out.q hqc);replace HIz:=Hd (HIz.out.q hqc);replace HFz:=Hd (HFz.out.q hqc);clear hbx hl1 hl2 hqc HRt;go_upto_region 12 with fail
        obtain ⟨d0,d1,d2,d3,d4,d5⟩:=HC.out _ HQv.out;go_wp2_with fail
        clear d0 d1 d2 d3 d4 d5;refine (of_any _ _ _ _ _ _ _ _ _ _ _).mono ?_;rintro e u301 ⟨rfl,hq⟩;replace HQv:=Hd (Q.trans HQv.out hq);replace HPx:=Hd (Bk.q HPx.out hq);replace HIx:=Hd (Lst.q HIx.out hq);replace HFx:=Hd (Lst.q HFx.out hq);replace HPy:=Hd (Bk.q HPy.out hq);replace HIy:=Hd (Lst.q HIy.out hq);replace HFy:=Hd (Lst.q HFy.out hq);replace HPz:=Hd (Bk.q HPz.out hq);replace HIz:=Hd (Lst.q HIz.out hq);replace HFz:=Hd (Lst.q HFz.out hq);replace HPv:=Hd (Bk.q HPv.out hq);replace HIv:=Hd (Lst.q HIv.out hq);replace HFv:=Hd (Lst.q HFv.out hq);clear hq;go_wp2_with fail
        refine (HSP.out _ HQv.out).mono ?_;rintro e u302 ⟨rfl,hq⟩;replace HQv:=Hd (Q.trans HQv.out hq);replace HPx:=Hd (Bk.q HPx.out hq);replace HIx:=Hd (Lst.q HIx.out hq);replace HFx:=Hd (Lst.q HFx.out hq);replace HPy:=Hd (Bk.q HPy.out hq);replace HIy:=Hd (Lst.q HIy.out hq);replace HFy:=Hd (Lst.q HFy.out hq);replace HPz:=Hd (Bk.q HPz.out hq);replace HIz:=Hd (Lst.q HIz.out hq);replace HFz:=Hd (Lst.q HFz.out hq);replace HPv:=Hd (Bk.q HPv.out hq);replace HIv:=Hd (Lst.q HIv.out hq);replace HFv:=Hd (Lst.q HFv.out hq);clear hq;obtain ⟨d0,d1,d2,d3,d4,d5⟩:=HC.out _ HQv.out;go_wp2_with fail
        clear d0 d1 d2 d3 d4 d5;refine (HRm.out _ HQv.out).mono ?_;rintro e u303 ⟨rfl,hq⟩;replace HQv:=Hd (Q.trans HQv.out hq);replace HPx:=Hd (Bk.q HPx.out hq);replace HIx:=Hd (Lst.q HIx.out hq);replace HFx:=Hd (Lst.q HFx.out hq);replace HPy:=Hd (Bk.q HPy.out hq);replace HIy:=Hd (Lst.q HIy.out hq);replace HFy:=Hd (Lst.q HFy.out hq);replace HPz:=Hd (Bk.q HPz.out hq);replace HIz:=Hd (Lst.q HIz.out hq);replace HFz:=Hd (Lst.q HFz.out hq);replace HPv:=Hd (Bk.q HPv.out hq);replace HIv:=Hd (Lst.q HIv.out hq);replace HFv:=Hd (Lst.q HFv.out hq);clear hq;go_upto_region 14 with fail
        clear HSP HRm HZL HJ;refine r14 V9 u303 bA i hi3i zg zs z1 z2 zm zn z3 z4 zI zF zc za M ogs oss_ oIs oFs ocs oas ers_ m1s m2s ogt ost_ oIt oFt oct oat ert_ m1t m2t bPx p1x p2x r1x r2x bPy p1y p2y r1y r2y bPz p1z p2z r1z r2z bPv p1v p2v r1v r2v HC HQv HM1s HM2s HLS HM1t HM2t HLT HPx HIx HFx HPy HIy HFy HPz HIz HFz HPv HIv HFv HPm _ _ (fun _ _ d _ _ h=>by cases d <;> exact h) (fun _ _ _ _ _ _ _ _ _ _ _ _ _ _ _ _ _ _ _ _ _ _ _ _ _ _ _ _ _ _ _ y hS=>?_)
        dsimp only;have HQw:=Hd (HQv.out.trans hS);obtain ⟨d0,d1,d2,d3,d4,d5⟩:=HC.out _ HQw.out;clear hS d0 d1 d2 d3 HPx HIx HFx HPy HIy HFy HPz HIz HFz HPv HIv HFv HSMs HSMt HPm HQx HQy HQz HQv HC;cases M with
        | true =>
         obtain ⟨z1_,z2_⟩:=HOK.out rfl;subst z1_ z2_;clear HOK HNO;have hmn:=HMN.out;have hmx:=HMX.out;clear HMN HMX;go_upto_region 16 with fail
         go_quiet (fail)
         clear hmn hmx d4 d5;go_wp2_with fail
         exact ⟨⟨i + 1,by go_num,by omega,HQw.out.drewN _⟩,by simp [intOf];omega⟩
        | false =>
         obtain ⟨z1_,z2_⟩:=HNO.out rfl;subst z1_ z2_;clear HOK HNO HMN HMX d4 d5;go_upto_region 16 with fail
         go_quiet (fail)
         go_wp2_with fail
         exact ⟨⟨i + 1,by go_num,by omega,HQw.out.drewN _⟩,by simp [intOf];omega⟩
   ·have hi3i:¬ (i:Int) < 3:=by omega
    have HQE:=Hd (HQV.out.trans HQ1.out);go_wp2_with fail
    refine (lives_any _).mono ?_;rintro e wz ⟨rfl,hqz⟩;have HQZ:=Hd (HQE.out.trans hqz);clear hqz;go_wp2_with fail
    go_ret
    exact ⟨rfl,HQZ.out⟩
end El
end
end Go.Proofs.Ytnehhbobhnmbcaa
