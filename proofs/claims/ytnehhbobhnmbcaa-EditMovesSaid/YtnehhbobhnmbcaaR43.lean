/- EditMoves: where each move leads is the document's, and no draft is changed. (and more) -/
import Derived.Test.YtnehhbobhnmbcaaR40
import Derived.Test.YtnehhbobhnmbcaaR38
import Derived.Test.YtnehhbobhnmbcaaR23
import Derived.Test.YtnehhbobhnmbcaaR36
set_option linter.all false
set_option maxRecDepth 100000
set_option maxHeartbeats 8000000
namespace Go.Proofs.Ytnehhbobhnmbcaa
section
open Go.RowKit
namespace El
open Ed Tm
open Re hiding ret_st may_any way_any sel_any tog_any mov_any ins_any word_right word_left
theorem law_moves (g s:Bool) (a1 a2:Option Addr) (n1 n2 c1 c2:Nat) (I F:List Int) (c a:Int) (wh:Int) (w:World) (hi:Lst w (.slice a1 n1 c1) I) (hf:Lst w (.slice a2 n2 c2) F) (k1:I.length = n1) (k2:F.length = n2) (bi:∀ n ∈ I,-9223372036854775808 <= n /\ n <= 9223372036854775807) (bf:∀ n ∈ F,-9223372036854775808 <= n /\ n <= 9223372036854775807) (hc:-9223372036854775808 <= c /\ c <= 9223372036854775807) (ha:-9223372036854775808 <= a /\ a <= 9223372036854775807) (hwh:-9223372036854775808 <= wh /\ wh <= 9223372036854775807) :
  Calls Try.prog 5 #[.agg #[.bool g,.slice a1 n1 c1,.bool s,.slice a2 n2 c2,.int .i64 c,.int .i64 a],.int .i64 wh] w fun e w'=>e = .returned (.bool true) /\ Q w w':=by
 obtain ⟨_,_,hv,hnc,hcm⟩:=hi.form0 k1;cases hv;obtain ⟨_,_,hv,hnf,hfm⟩:=hf.form0 k2;cases hv;have HGD:=Hd (fun u (q:Q w u)=>good_any g s a1 a2 n1 n2 c1 c2 I F c a u (hi.q q) (hf.q q) k1 k2 (by unfold maxLen at hcm;omega) (by unfold maxLen at hfm;omega) bi bf hc ha 6 4 (by omega) (by omega));have hmX:=gdS_may ⟨⟨g,I,s,F⟩,c,a⟩ 6 4;have hlX:=gdS_len ⟨⟨g,I,s,F⟩,c,a⟩ 6 4;obtain ⟨f1,hf1⟩:∃ p,p = min n1 8:=⟨_,rfl⟩;obtain ⟨f2,hf2⟩:∃ p,p = min n2 8:=⟨_,rfl⟩;have HFW:=Hd (fun u=>few_any g s a1 a2 n1 n2 c1 c2 c a 8 u hnc hnf hcm hfm (by omega) f1 f2 hf1 hf2);have hr1:=hi.take f1 (by omega);have hr2:=hf.take f2 (by omega);obtain ⟨L1,hL1⟩:∃ L,L = I.take f1:=⟨_,rfl⟩;obtain ⟨L2,hL2⟩:∃ L,L = F.take f2:=⟨_,rfl⟩;have kk1:L1.length = f1:=by rw [hL1,List.length_take];omega
 have kk2:L2.length = f2:=by rw [hL2,List.length_take];omega
 rw [<- hL1] at hr1;rw [<- hL2] at hr2;have HLL:=Hd (⟨kk1,kk2⟩:_ /\ _);have HRW:=Hd (fun u (q:Q w u)=>(⟨hr1.q q,hr2.q q⟩:_ /\ _));have hf18:f1 <= 8:=by omega
 have hf28:f2 <= 8:=by omega
 clear hr1 hr2 hL1 hL2 kk1 kk2 hf1 hf2;generalize gdS ⟨⟨g,I,s,F⟩,c,a⟩ 6 4 = X at *;obtain ⟨⟨ogX,oIX,osX_,oFX⟩,ocX,oaX⟩:=X;dsimp only at hlX;obtain ⟨m1X,hm1⟩:∃ m,m = oIX.length:=⟨_,rfl⟩;obtain ⟨m2X,hm2⟩:∃ m,m = oFX.length:=⟨_,rfl⟩;rw [<- hm1,<- hm2] at hlX;have HM1X:=Hd hm1.symm;have HM2X:=Hd hm2.symm;clear hm1 hm2;clear hi hf k1 k2 bi bf hc ha hmX hnc hcm hnf hfm;obtain ⟨y0,hy0⟩:∃ z,z = w.alloc (.cells #[.bool g,.slice a1 n1 c1,.bool s,.slice a2 n2 c2,.int .i64 c,.int .i64 a] 26):=⟨_,rfl⟩;have hq0:Q w y0:=by rw [hy0];exact (Q.refl _).alloc _
 have hs0:y0.heap.size = w.heap.size + 1:=by rw [hy0];simp
 have hc0:Bk y0 w.heap.size 26 [.bool g,.slice a1 n1 c1,.bool s,.slice a2 n2 c2,.int .i64 c,.int .i64 a]:=by rw [hy0];exact Bk.new _ _ _
 have HQ:=Hd hq0;have HSB:=Hd hc0;have hz2:y0 = w.alloc (.cells #[.bool g,.slice a1 n1 c1,.bool s,.slice a2 n2 c2,.int .i64 c,.int .i64 a] 26):=by rw [hy0]
 obtain ⟨bS,hbbS⟩:∃ k,k = w.heap.size:=⟨_,rfl⟩;have HWbS:=Hd (show w.heap.size <= bS by omega);clear hq0 hs0 hc0 hy0;go_enter Try.func5,Try.ntmps5
 go_upto_region 1 with fail
 rw [<- hz2,<- hbbS];rw [<- hbbS] at HSB;clear hz2 hbbS;go_wp2_with (refine wpList_load_row (by rfl) 26 _ (by rfl) bS (by rfl) 26 #[.bool g,.slice a1 n1 c1,.bool s,.slice a2 n2 c2,.int .i64 c,.int .i64 a] (0,0) _ HSB.out Try.underlying26 rfl (by exact infoS) ?_)
 refine (HGD.out _ HQ.out).mono ?_;rintro e u1 ⟨x,rfl,hso,hq⟩;obtain ⟨p1X,r1X,p2X,r2X,rfl,ho1,ho2⟩:=hso;dsimp only at ho1 ho2 |-;rw [HM1X.out] at ho1 |-;rw [HM2X.out] at ho2 |-;have HO1X:=Hd ho1;have HO2X:=Hd ho2;clear ho1 ho2;replace HQ:=Hd (Q.trans HQ.out hq);replace HSB:=Hd (Bk.q HSB.out hq);clear hq;clear HGD;obtain ⟨u2,hwu2⟩:∃ z,z = u1.alloc (.cells #[.bool ogX,.slice p1X m1X r1X,.bool osX_,.slice p2X m2X r2X,.int .i64 ocX,.int .i64 oaX] 26):=⟨_,rfl⟩;have hq:Q u1 u2:=by rw [hwu2];exact (Q.refl _).alloc _
 have HXB:=Hd (show Bk u2 u1.heap.size 26 [.bool ogX,.slice p1X m1X r1X,.bool osX_,.slice p2X m2X r2X,.int .i64 ocX,.int .i64 oaX] by rw [hwu2];exact Bk.new _ _ _);obtain ⟨bX,hbbX⟩:∃ k,k = u1.heap.size:=⟨_,rfl⟩;rw [<- hbbX] at HXB;replace HQ:=Hd (Q.trans HQ.out hq);replace HSB:=Hd (Bk.q HSB.out hq);replace HO1X:=Hd (Own.q HO1X.out hq);replace HO2X:=Hd (Own.q HO2X.out hq);clear hq;go_upto_region 2 with fail
 rw [<- hwu2,<- hbbX];clear hwu2 hbbX;have xHXB0:=HXB.out.cell 0 rfl;have xHXB1:=HXB.out.cell 1 rfl;have xHXB2:=HXB.out.cell 2 rfl;have xHXB3:=HXB.out.cell 3 rfl;have xHXB4:=HXB.out.cell 4 rfl;have xHXB5:=HXB.out.cell 5 rfl;have HQP:=HQ;have HXP:=HXB;have HSP:=HSB;obtain ⟨u3,hwu3⟩:∃ z,z = u2.alloc (.cells #[.bool ogX,.slice p1X m1X r1X,.bool osX_,.slice p2X m2X r2X,.int .i64 ocX,.int .i64 oaX] 26):=⟨_,rfl⟩;have hq:Q u2 u3:=by rw [hwu3];exact (Q.refl _).alloc _
 have HBB:=Hd (show Bk u3 u2.heap.size 26 [.bool ogX,.slice p1X m1X r1X,.bool osX_,.slice p2X m2X r2X,.int .i64 ocX,.int .i64 oaX] by rw [hwu3];exact Bk.new _ _ _);obtain ⟨bB,hbbB⟩:∃ k,k = u2.heap.size:=⟨_,rfl⟩;rw [<- hbbB] at HBB;replace HQ:=Hd (Q.trans HQ.out hq);replace HSB:=Hd (Bk.q HSB.out hq);replace HO1X:=Hd (Own.q HO1X.out hq);replace HO2X:=Hd (Own.q HO2X.out hq);replace HXB:=Hd (Bk.q HXB.out hq);clear hq;go_upto_region 3 with fail
 have HND:=Hd (show w.heap.size <= bB /\ bB ≠ bX /\ bB ≠ bS by rw [hbbB];have h1:=HQP.out.le;have h2:=HXP.out.lt;have h3:=HSP.out.lt;omega);rw [<- hwu3,<- hbbB];clear hwu3 hbbB;clear HQP HXP HSP;clear xHXB0 xHXB1 xHXB2 xHXB3 xHXB4 xHXB5;have xHXB4:=HXB.out.cell 4 rfl;have y0:=HBB.out.cell 5 rfl;have f0:=HBB.out.free 5;obtain ⟨q9,hvq9⟩:∃ z,z = u3.setCell ⟨bB,5,none⟩ (.int .i64 ocX):=⟨_,rfl⟩;have hd9:Bk q9 bB 26 [.bool ogX,.slice p1X m1X r1X,.bool osX_,.slice p2X m2X r2X,.int .i64 ocX,.int .i64 ocX]:=by rw [hvq9];exact HBB.out.set 5 _
 replace HXB:=Hd (show Bk q9 bX 26 [.bool ogX,.slice p1X m1X r1X,.bool osX_,.slice p2X m2X r2X,.int .i64 ocX,.int .i64 oaX] by rw [hvq9];exact HXB.out.past HND.out.2.1 _);replace HSB:=Hd (show Bk q9 bS 26 [.bool g,.slice a1 n1 c1,.bool s,.slice a2 n2 c2,.int .i64 c,.int .i64 a] by rw [hvq9];exact HSB.out.past HND.out.2.2 _);replace HQ:=Hd (show Q w q9 by rw [hvq9];exact Q.setCell HQ.out (ad:=⟨bB,5,none⟩) HND.out.1 _);replace HO1X:=Hd (show Own q9 _ (.slice p1X m1X r1X) oIX by rw [hvq9];exact Tm.Own_past HO1X.out HBB.out (by decide) 5 _);replace HO2X:=Hd (show Own q9 _ (.slice p2X m2X r2X) oFX by rw [hvq9];exact Tm.Own_past HO2X.out HBB.out (by decide) 5 _);replace HBB:=Hd hd9;clear hd9;go_upto_region 4 with fail
 rw [<- hvq9];clear hvq9 y0 f0;clear xHXB4;go_cut [7] (fun p wx=>∃ b,p = .slice (some ⟨b,0,none⟩) 3 3 /\ Bk wx b 26 [.bool ogX,.slice p1X m1X r1X,.bool osX_,.slice p2X m2X r2X,.int .i64 ocX,.int .i64 oaX,.bool ogX,.slice p1X m1X r1X,.bool osX_,.slice p2X m2X r2X,.int .i64 ocX,.int .i64 ocX,.bool g,.slice a1 f1 c1,.bool s,.slice a2 f2 c2,.int .i64 c,.int .i64 a] /\ Q q9 wx)
 case first =>
  refine wp_region_held_drew (S:=fun u=>Q q9 u) (by kernel_rfl) (by exact (Q.refl q9).drew) (fun hHeld=>?_);have hS:Q q9 q9.drew:=hHeld;clear hHeld;have hq:Q q9 q9.drew:=(Q.refl _).drew;clear hq;generalize q9.drew = yR1x0 at *;change wpAnyH _ _ _ _ _ _ #[ff,ff,ff,ff,ff,ff] _ _;refine tk 0 (by simp only [gA,gB,gC];rfl) (by first | kernel_rfl | rfl) (fun uz hSw=>by (try dsimp only at hSw);refine ld_row (x:=.tmp 5) ?_ ?_ (Bk.q HXB.out hSw) Try.underlying26 (by exact infoS) <;> rfl) pq hS ?_
  try simp only [Act.put,sA,sB,sC]
  refine tk 1 (by simp only [gA,gB,gC];rfl) (by first | kernel_rfl | rfl) (fun uz hSw=>by (try dsimp only at hSw);refine ld_row (x:=.tmp 6) ?_ ?_ (Bk.q HBB.out hSw) Try.underlying26 (by exact infoS) <;> rfl) pq hS ?_
  try simp only [Act.put,sA,sB,sC]
  refine tk 2 (by simp only [gA,gB,gC];rfl) (by first | kernel_rfl | rfl) (fun uz hSw=>by (try dsimp only at hSw);refine ld_row (x:=.tmp 2) ?_ ?_ (Bk.q HSB.out hSw) Try.underlying26 (by exact infoS) <;> rfl) pq hS ?_
  try simp only [Act.put,sA,sB,sC]
  refine wpAnyH_ready (rs:=[3]) (by kernel_rfl) (by simp) ?_;refine ar (by (try simp only [gA,gB,gC]);rfl) fun K hK=>?_;go_simp
  refine (HFW.out _).mono ?_;rintro e yR1x4 ⟨rfl,hq⟩;try (go_wp2_with fail)
  have hS2:=Q.trans hS hq;refine hK.out _ _ (by exact hS2) (fun hHeld=>?_);clear hK K hHeld hS hq;have hS:=hS2;clear hS2;try simp only [Act.put,sA,sB,sC]
  refine wpAnyH_ready (rs:=[4]) (by kernel_rfl) (by simp) ?_;refine ar (by (try simp only [gA,gB,gC]);rfl) fun K hK=>?_;go_simp
  have hq:=(Q.refl yR1x4).alloc (.cells #[.bool ogX,.slice p1X m1X r1X,.bool osX_,.slice p2X m2X r2X,.int .i64 ocX,.int .i64 oaX,.bool ogX,.slice p1X m1X r1X,.bool osX_,.slice p2X m2X r2X,.int .i64 ocX,.int .i64 ocX,.bool g,.slice a1 f1 c1,.bool s,.slice a2 f2 c2,.int .i64 c,.int .i64 a] 26);have HBA:=Hd (Bk.new yR1x4 26 [.bool ogX,.slice p1X m1X r1X,.bool osX_,.slice p2X m2X r2X,.int .i64 ocX,.int .i64 oaX,.bool ogX,.slice p1X m1X r1X,.bool osX_,.slice p2X m2X r2X,.int .i64 ocX,.int .i64 ocX,.bool g,.slice a1 f1 c1,.bool s,.slice a2 f2 c2,.int .i64 c,.int .i64 a]);have HW_bA:=Hd (Q.le hS);have hS2:=Q.trans hS hq;refine hK.out _ _ (by exact hS2) (fun hHeld=>?_);clear hK K hHeld hS hq;have hS:=hS2;clear hS2;generalize yR1x4.alloc (.cells #[.bool ogX,.slice p1X m1X r1X,.bool osX_,.slice p2X m2X r2X,.int .i64 ocX,.int .i64 oaX,.bool ogX,.slice p1X m1X r1X,.bool osX_,.slice p2X m2X r2X,.int .i64 ocX,.int .i64 ocX,.bool g,.slice a1 f1 c1,.bool s,.slice a2 f2 c2,.int .i64 c,.int .i64 a] 26) = yR1x5 at *;generalize yR1x4.heap.size = bA at *;try simp only [Act.put,sA,sB,sC]
  refine tk 5 (by simp only [gA,gB,gC];rfl) (by first | kernel_rfl | rfl) (fun uz _=>by go_simp;try with_reducible rfl) pq hS ?_;try simp only [Act.put,sA,sB,sC]
  refine wpAnyH_done (by kernel_rfl) ?_ _;go_wp2_with fail
  go_meet
  exact ⟨bA,rfl,HBA.out,hS⟩
 case rest =>
  obtain ⟨bA,rfl,hba,hq⟩:=hcut;have HBA:=Hd hba;obtain ⟨V,hV⟩:∃ x,x = wc:=⟨_,rfl⟩;subst hV;replace HQ:=Hd (Q.trans HQ.out hq);replace HSB:=Hd (Bk.q HSB.out hq);replace HO1X:=Hd (Own.q HO1X.out hq);replace HO2X:=Hd (Own.q HO2X.out hq);replace HXB:=Hd (Bk.q HXB.out hq);replace HBB:=Hd (Bk.q HBB.out hq);clear hq hba HFW;have HEL:=Hd (show EL bA V 8 from EL.of HBA.out ⟨HO1X.out.lst,HO2X.out.lst,HM1X.out,HM2X.out,by omega,by omega⟩ ⟨HO1X.out.lst,HO2X.out.lst,HM1X.out,HM2X.out,by omega,by omega⟩ ⟨(HRW.out _ HQ.out).1,(HRW.out _ HQ.out).2,HLL.out.1,HLL.out.2,hf18,hf28⟩);have HQV:=Hd HQ.out;clear HQ HSB HXB HBB HBA HO1X HO2X HRW HLL HM1X HM2X HND;go_wp2_with fail
  go_loopw [8] (fun t wr=>∃ i:Nat,t = .int .i64 i /\ i <= 3 /\ Q V wr) (fun t _=>3 - (intOf t).toNat)
  case atStart=>exact ⟨0,rfl,by omega,Q.refl _⟩
  case round =>
   obtain ⟨i,rfl,hi,hq⟩:=hrel;have HQ0:=Hd hq;clear hq;by_cases hi3:i < 3
   ·obtain ⟨zg,zs,z1,z2,zm,zn,z3,z4,zI,zF,zc,za,hc,h1,h2,k1,k2,hz1,hz2⟩:=HEL.out i hi3
    have HC:=Hd hc;have HP:=Hd (fun u (q:Q V u) n b=>Pe.mov_any zg zs z1 z2 zm zn z3 z4 zI zF zc za n b u (h1.q q) (h2.q q) k1 k2 (by omega) (by omega));have HR:=Hd (fun u (q:Q V u) n b=>Re.mov_any zg zs z1 z2 zm zn z3 z4 zI zF zc za n b u (h1.q q) (h2.q q) k1 k2 (by omega) (by omega));have HLN:=Hd (fun n b=>mov_len (s:=⟨⟨zg,zI,zs,zF⟩,zc,za⟩) (h:=n) (b:=b) (k:=100) (by dsimp only;omega) (by dsimp only;omega));have HZL:=Hd (fun u (q:Q V u)=>(⟨h1.q q,h2.q q⟩:_ /\ _));have hi3i:(i:Int) < 3:=by omega
    clear hc h1 h2 k1 k2;go_wp2_with fail
    go_loopw [9] (fun t wr=>∃ k:Int,t = .int .i64 k /\ -1 <= k /\ k <= 7 /\ Q V wr) (fun t _=>(7 - intOf t).toNat)
    case atStart=>exact ⟨-1,rfl,by omega,by omega,HQ0.out⟩
    case round =>
     obtain ⟨k,rfl,hk1,hk2,hq⟩:=hrel;have HQ1:=Hd hq;clear hq;by_cases hk7:k <= 6
     ·obtain ⟨NN,hNN⟩:∃ n,n = if k = 6 then wh else k:=⟨_,rfl⟩
      go_upto_if 40 with fail
      go_cut [10] (fun x wx=>x = .int .i64 NN /\ Q V wx)
      case first =>
       by_cases h7:k = 6
       ·have HN:=Hd (hNN.trans (if_pos h7))
        have hb:(k == 6) = true:=beq_iff_eq.2 h7;clear hNN;go_wp2_with fail
        go_meet
        exact ⟨by rw [HN.out] <;> rfl,HQ1.out⟩
       ·have HN:=Hd (hNN.trans (if_neg h7))
        have hb:(k == 6) = false:=beq_eq_false_iff_ne.2 h7;clear hNN;go_wp2_with fail
        go_meet
        exact ⟨by rw [HN.out] <;> rfl,HQ1.out⟩
      case rest =>
       obtain ⟨rfl,hq1⟩:=hcut;obtain ⟨V1,hV1⟩:∃ x,x = wc:=⟨_,rfl⟩;subst hV1;replace HQ1:=Hd hq1;clear hq1 hNN;have HPf:=Hd (fun u q=>HP.out u q NN false);have HRf:=Hd (fun u q=>HR.out u q NN false);have HLf:=HLN.out NN false;have HPt:=Hd (fun u q=>HP.out u q NN true);have HRt:=Hd (fun u q=>HR.out u q NN true);have HLt:=HLN.out NN true;generalize mov ⟨⟨zg,zI,zs,zF⟩,zc,za⟩ NN false = RF at *;generalize mov ⟨⟨zg,zI,zs,zF⟩,zc,za⟩ NN true = RT at *;obtain ⟨⟨⟨ogF,oIF,osF_,oFF⟩,ocF,oaF⟩,erF⟩:=RF;obtain ⟨⟨⟨ogT,oIT,osT_,oFT⟩,ocT,oaT⟩,erT⟩:=RT;dsimp only at HPf HRf HLf HPt HRt HLt;obtain ⟨m1F,hm1⟩:∃ m,m = oIF.length:=⟨_,rfl⟩;obtain ⟨m2F,hm2⟩:∃ m,m = oFF.length:=⟨_,rfl⟩;rw [<- hm1,<- hm2] at HLf;obtain ⟨m1T,hm3⟩:∃ m,m = oIT.length:=⟨_,rfl⟩;obtain ⟨m2T,hm4⟩:∃ m,m = oFT.length:=⟨_,rfl⟩;rw [<- hm3,<- hm4] at HLt;have HM1F:=Hd hm1.symm;have HM2F:=Hd hm2.symm;have HM1T:=Hd hm3.symm;have HM2T:=Hd hm4.symm;have HSMF:=Hd (fun u a1 a2 b1 b2 c1 c2 d1 d2 h1 h2 h3 h4=>same_self ogF osF_ a1 a2 b1 b2 m1F m2F c1 c2 d1 d2 oIF oFF ocF oaF u h1 h2 h3 h4 (by rw [HM1F.out];omega) (by rw [HM2F.out];omega));have HSMT:=Hd (fun u a1 a2 b1 b2 c1 c2 d1 d2 h1 h2 h3 h4=>same_self ogT osT_ a1 a2 b1 b2 m1T m2T c1 c2 d1 d2 oIT oFT ocT oaT u h1 h2 h3 h4 (by rw [HM1T.out];omega) (by rw [HM2T.out];omega));clear hm1 hm2 hm3 hm4 HLN HP HR;obtain ⟨d0,d1,d2,d3,d4,d5⟩:=HC.out _ HQ1.out;go_wp2_with fail
       clear d0 d1 d2 d3 d4 d5;refine (of_any _ _ _ _ _ _ _ _ _ _ _).mono ?_;rintro e u101 ⟨rfl,hq⟩;replace HQ1:=Hd (Q.trans HQ1.out hq);clear hq;go_wp2_with fail
       refine (HPf.out _ HQ1.out).mono ?_;rintro e u102 ⟨xx,rfl,hso,hq⟩;obtain ⟨p1x,r1x,p2x,r2x,rfl,ho1,ho2⟩:=hso;dsimp only at ho1 ho2 |-;rw [HM1F.out] at ho1 |-;rw [HM2F.out] at ho2 |-;have HIx:=Hd ho1.lst;have HFx:=Hd ho2.lst;clear ho1 ho2;replace HQ1:=Hd (Q.trans HQ1.out hq);clear hq;obtain ⟨u103,hwu103⟩:∃ z,z = u102.alloc (.cells #[.bool ogF,.slice p1x m1F r1x,.bool osF_,.slice p2x m2F r2x,.int .i64 ocF,.int .i64 oaF] 39):=⟨_,rfl⟩;have hq:Q u102 u103:=by rw [hwu103];exact (Q.refl _).alloc _
       have HPx:=Hd (show Bk u103 u102.heap.size 39 [.bool ogF,.slice p1x m1F r1x,.bool osF_,.slice p2x m2F r2x,.int .i64 ocF,.int .i64 oaF] by rw [hwu103];exact Bk.new _ _ _);obtain ⟨bPx,hbbPx⟩:∃ k,k = u102.heap.size:=⟨_,rfl⟩;rw [<- hbbPx] at HPx;replace HQ1:=Hd (Q.trans HQ1.out hq);replace HIx:=Hd (Lst.q HIx.out hq);replace HFx:=Hd (Lst.q HFx.out hq);clear hq;go_upto_region 15 with fail
       rw [<- hwu103,<- hbbPx];clear hwu103 hbbPx;obtain ⟨d0,d1,d2,d3,d4,d5⟩:=HC.out _ HQ1.out;go_wp2_with fail
       clear d0 d1 d2 d3 d4 d5;refine (HRf.out _ HQ1.out).mono ?_;rintro e u104 ⟨xx,rfl,hso,hq⟩;obtain ⟨p1y,r1y,p2y,r2y,rfl,hoo⟩:=hso;have hoq:=hoo _ (HZL.out _ (HQ1.out.trans hq)).1 (HZL.out _ (HQ1.out.trans hq)).2;obtain ⟨ho1,ho2⟩:=hoq;dsimp only at ho1 ho2 |-;rw [HM1F.out] at ho1 |-;rw [HM2F.out] at ho2 |-;have HIy:=Hd ho1;have HFy:=Hd ho2;clear ho1 ho2 hoo;replace HQ1:=Hd (Q.trans HQ1.out hq);replace HIx:=Hd (Lst.q HIx.out hq);replace HFx:=Hd (Lst.q HFx.out hq);replace HPx:=Hd (Bk.q HPx.out hq);clear hq;obtain ⟨u105,hwu105⟩:∃ z,z = u104.alloc (.cells #[.bool ogF,.slice p1y m1F r1y,.bool osF_,.slice p2y m2F r2y,.int .i64 ocF,.int .i64 oaF] 26):=⟨_,rfl⟩;have hq:Q u104 u105:=by rw [hwu105];exact (Q.refl _).alloc _
       have HPy:=Hd (show Bk u105 u104.heap.size 26 [.bool ogF,.slice p1y m1F r1y,.bool osF_,.slice p2y m2F r2y,.int .i64 ocF,.int .i64 oaF] by rw [hwu105];exact Bk.new _ _ _);obtain ⟨bPy,hbbPy⟩:∃ k,k = u104.heap.size:=⟨_,rfl⟩;rw [<- hbbPy] at HPy;replace HQ1:=Hd (Q.trans HQ1.out hq);replace HIx:=Hd (Lst.q HIx.out hq);replace HFx:=Hd (Lst.q HFx.out hq);replace HPx:=Hd (Bk.q HPx.out hq);replace HIy:=Hd (Lst.q HIy.out hq);replace HFy:=Hd (Lst.q HFy.out hq);clear hq;go_upto_region 16 with fail
       rw [<- hwu105,<- hbbPy];clear hwu105 hbbPy;obtain ⟨d0,d1,d2,d3,d4,d5⟩:=HC.out _ HQ1.out;go_wp2_with fail
       clear d0 d1 d2 d3 d4 d5;refine (of_any _ _ _ _ _ _ _ _ _ _ _).mono ?_;rintro e u106 ⟨rfl,hq⟩;replace HQ1:=Hd (Q.trans HQ1.out hq);replace HIx:=Hd (Lst.q HIx.out hq);replace HFx:=Hd (Lst.q HFx.out hq);replace HPx:=Hd (Bk.q HPx.out hq);replace HIy:=Hd (Lst.q HIy.out hq);replace HFy:=Hd (Lst.q HFy.out hq);replace HPy:=Hd (Bk.q HPy.out hq);clear hq;go_wp2_with fail
       refine (HPt.out _ HQ1.out).mono ?_;rintro e u107 ⟨xx,rfl,hso,hq⟩;obtain ⟨p1z,r1z,p2z,r2z,rfl,ho1,ho2⟩:=hso;dsimp only at ho1 ho2 |-;rw [HM1T.out] at ho1 |-;rw [HM2T.out] at ho2 |-;have HIz:=Hd ho1.lst;have HFz:=Hd ho2.lst;clear ho1 ho2;replace HQ1:=Hd (Q.trans HQ1.out hq);replace HIx:=Hd (Lst.q HIx.out hq);replace HFx:=Hd (Lst.q HFx.out hq);replace HPx:=Hd (Bk.q HPx.out hq);replace HIy:=Hd (Lst.q HIy.out hq);replace HFy:=Hd (Lst.q HFy.out hq);replace HPy:=Hd (Bk.q HPy.out hq);clear hq;obtain ⟨u108,hwu108⟩:∃ z,z = u107.alloc (.cells #[.bool ogT,.slice p1z m1T r1z,.bool osT_,.slice p2z m2T r2z,.int .i64 ocT,.int .i64 oaT] 39):=⟨_,rfl⟩;have hq:Q u107 u108:=by rw [hwu108];exact (Q.refl _).alloc _
       have HPz:=Hd (show Bk u108 u107.heap.size 39 [.bool ogT,.slice p1z m1T r1z,.bool osT_,.slice p2z m2T r2z,.int .i64 ocT,.int .i64 oaT] by rw [hwu108];exact Bk.new _ _ _);obtain ⟨bPz,hbbPz⟩:∃ k,k = u107.heap.size:=⟨_,rfl⟩;rw [<- hbbPz] at HPz;replace HQ1:=Hd (Q.trans HQ1.out hq);replace HIx:=Hd (Lst.q HIx.out hq);replace HFx:=Hd (Lst.q HFx.out hq);replace HPx:=Hd (Bk.q HPx.out hq);replace HIy:=Hd (Lst.q HIy.out hq);replace HFy:=Hd (Lst.q HFy.out hq);replace HPy:=Hd (Bk.q HPy.out hq);replace HIz:=Hd (Lst.q HIz.out hq);replace HFz:=Hd (Lst.q HFz.out hq);clear hq;go_upto_region 17 with fail
       rw [<- hwu108,<- hbbPz];clear hwu108 hbbPz;obtain ⟨d0,d1,d2,d3,d4,d5⟩:=HC.out _ HQ1.out;go_wp2_with fail
       clear d0 d1 d2 d3 d4 d5;refine (HRt.out _ HQ1.out).mono ?_;rintro e u109 ⟨xx,rfl,hso,hq⟩;obtain ⟨p1v,r1v,p2v,r2v,rfl,hoo⟩:=hso;have hoq:=hoo _ (HZL.out _ (HQ1.out.trans hq)).1 (HZL.out _ (HQ1.out.trans hq)).2;obtain ⟨ho1,ho2⟩:=hoq;dsimp only at ho1 ho2 |-;rw [HM1T.out] at ho1 |-;rw [HM2T.out] at ho2 |-;have HIv:=Hd ho1;have HFv:=Hd ho2;clear ho1 ho2 hoo;replace HQ1:=Hd (Q.trans HQ1.out hq);replace HIx:=Hd (Lst.q HIx.out hq);replace HFx:=Hd (Lst.q HFx.out hq);replace HPx:=Hd (Bk.q HPx.out hq);replace HIy:=Hd (Lst.q HIy.out hq);replace HFy:=Hd (Lst.q HFy.out hq);replace HPy:=Hd (Bk.q HPy.out hq);replace HIz:=Hd (Lst.q HIz.out hq);replace HFz:=Hd (Lst.q HFz.out hq);replace HPz:=Hd (Bk.q HPz.out hq);clear hq;obtain ⟨u110,hwu110⟩:∃ z,z = u109.alloc (.cells #[.bool ogT,.slice p1v m1T r1v,.bool osT_,.slice p2v m2T r2v,.int .i64 ocT,.int .i64 oaT] 26):=⟨_,rfl⟩;have hq:Q u109 u110:=by rw [hwu110];exact (Q.refl _).alloc _
       have HPv:=Hd (show Bk u110 u109.heap.size 26 [.bool ogT,.slice p1v m1T r1v,.bool osT_,.slice p2v m2T r2v,.int .i64 ocT,.int .i64 oaT] by rw [hwu110];exact Bk.new _ _ _);obtain ⟨bPv,hbbPv⟩:∃ k,k = u109.heap.size:=⟨_,rfl⟩;rw [<- hbbPv] at HPv;replace HQ1:=Hd (Q.trans HQ1.out hq);replace HIx:=Hd (Lst.q HIx.out hq);replace HFx:=Hd (Lst.q HFx.out hq);replace HPx:=Hd (Bk.q HPx.out hq);replace HIy:=Hd (Lst.q HIy.out hq);replace HFy:=Hd (Lst.q HFy.out hq);replace HPy:=Hd (Bk.q HPy.out hq);replace HIz:=Hd (Lst.q HIz.out hq);replace HFz:=Hd (Lst.q HFz.out hq);replace HPz:=Hd (Bk.q HPz.out hq);replace HIv:=Hd (Lst.q HIv.out hq);replace HFv:=Hd (Lst.q HFv.out hq);clear hq;go_upto_region 18 with fail
       rw [<- hwu110,<- hbbPv];clear hwu110 hbbPv;clear HPf HRf HPt HRt HC HZL;refine wp_region_held_drew (S:=fun u=>Q u110 u) (by kernel_rfl) (by exact (Q.refl u110).drew) (fun hHeld=>?_);have hS:Q u110 u110.drew:=hHeld;clear hHeld;have hq:Q u110 u110.drew:=(Q.refl _).drew;clear hq;generalize u110.drew = yR2x0 at *;change wpAnyH _ _ _ _ _ _ #[ff,ff,ff,ff,ff,ff,ff,ff,ff,ff,ff,ff,ff,ff,ff,ff,ff,ff,ff,ff,ff,ff] _ _;refine tk 0 (by simp only [gA,gB,gC];rfl) (by first | kernel_rfl | rfl) (fun uz _=>by go_simp;try with_reducible rfl) pq hS ?_;try simp only [Act.put,sA,sB,sC]
       refine tk 1 (by simp only [gA,gB,gC];rfl) (by first | kernel_rfl | rfl) (fun uz _=>by go_simp;try with_reducible rfl) pq hS ?_;try simp only [Act.put,sA,sB,sC]
       refine tk 2 (by simp only [gA,gB,gC];rfl) (by first | kernel_rfl | rfl) (fun uz _=>by go_simp;try with_reducible rfl) pq hS ?_;try simp only [Act.put,sA,sB,sC]
       refine tk 3 (by simp only [gA,gB,gC];rfl) (by first | kernel_rfl | rfl) (fun uz _=>by go_simp;try with_reducible rfl) pq hS ?_;try simp only [Act.put,sA,sB,sC]
       refine tk 4 (by simp only [gA,gB,gC];rfl) (by first | kernel_rfl | rfl) (fun uz _=>by go_simp;try with_reducible rfl) pq hS ?_;try simp only [Act.put,sA,sB,sC]
       refine tk 5 (by simp only [gA,gB,gC];rfl) (by first | kernel_rfl | rfl) (fun uz _=>by go_simp;try with_reducible rfl) pq hS ?_;try simp only [Act.put,sA,sB,sC]
       refine tk 6 (by simp only [gA,gB,gC];rfl) (by first | kernel_rfl | rfl) (fun uz _=>by go_simp;try with_reducible rfl) pq hS ?_;try simp only [Act.put,sA,sB,sC]
       refine tk 7 (by simp only [gA,gB,gC];rfl) (by first | kernel_rfl | rfl) (fun uz _=>by go_simp;try with_reducible rfl) pq hS ?_;try simp only [Act.put,sA,sB,sC]
       refine tk 8 (by simp only [gA,gB,gC];rfl) (by first | kernel_rfl | rfl) (fun uz _=>by go_simp;try with_reducible rfl) pq hS ?_;try simp only [Act.put,sA,sB,sC]
       refine tk 9 (by simp only [gA,gB,gC];rfl) (by first | kernel_rfl | rfl) (fun uz hSw=>by (try dsimp only at hSw);refine ld_row (x:=.tmp 11) ?_ ?_ (HPx.out.q hSw) Try.underlying39 (by exact Pe.infoS) <;> rfl) pq hS ?_
       try simp only [Act.put,sA,sB,sC]
       refine tk 11 (by simp only [gA,gB,gC];rfl) (by first | kernel_rfl | rfl) (fun uz hSw=>by (try dsimp only at hSw);refine ld_row (x:=.tmp 13) ?_ ?_ (HPy.out.q hSw) Try.underlying26 (by exact infoS) <;> rfl) pq hS ?_
       try simp only [Act.put,sA,sB,sC]
       refine wpAnyH_ready (rs:=[10]) (by kernel_rfl) (by simp) ?_;refine ar (by (try simp only [gA,gB,gC]);rfl) fun K hK=>?_;go_simp
       refine (as_any _ _ _ _ _ _ _ _ _ _ _).mono ?_;rintro e yR2x12 ⟨rfl,hq⟩;try (go_wp2_with fail)
       have hS2:=Q.trans hS hq;refine hK.out _ _ (by exact hS2) (fun hHeld=>?_);clear hK K hHeld hS hq;have hS:=hS2;clear hS2;try simp only [Act.put,sA,sB,sC]
       refine wpAnyH_ready (rs:=[12]) (by kernel_rfl) (by simp) ?_;refine ar (by (try simp only [gA,gB,gC]);rfl) fun K hK=>?_;go_simp
       refine (HSMF.out _ _ _ _ _ _ _ _ _ (HIx.out.q hS) (HFx.out.q hS) (HIy.out.q hS) (HFy.out.q hS)).mono ?_;rintro e yR2x13 ⟨rfl,hq⟩;try (go_wp2_with fail)
       have hS2:=Q.trans hS hq;refine hK.out _ _ (by exact hS2) (fun hHeld=>?_);clear hK K hHeld hS hq;have hS:=hS2;clear hS2;try simp only [Act.put,sA,sB,sC]
       refine tk 13 (by simp only [gA,gB,gC];rfl) (by first | kernel_rfl | rfl) (fun uz _=>by go_simp;try with_reducible rfl) pq hS ?_;try simp only [Act.put,sA,sB,sC]
       refine tk 14 (by simp only [gA,gB,gC];rfl) (by first | kernel_rfl | rfl) (fun uz _=>by go_simp;try with_reducible rfl) pq hS ?_;try simp only [Act.put,sA,sB,sC]
       refine tk 15 (by simp only [gA,gB,gC];rfl) (by first | kernel_rfl | rfl) (fun uz _=>by go_simp;try with_reducible rfl) pq hS ?_;try simp only [Act.put,sA,sB,sC]
       refine tk 16 (by simp only [gA,gB,gC];rfl) (by first | kernel_rfl | rfl) (fun uz hSw=>by (try dsimp only at hSw);refine ld_row (x:=.tmp 15) ?_ ?_ (HPz.out.q hSw) Try.underlying39 (by exact Pe.infoS) <;> rfl) pq hS ?_
       try simp only [Act.put,sA,sB,sC]
       refine tk 18 (by simp only [gA,gB,gC];rfl) (by first | kernel_rfl | rfl) (fun uz hSw=>by (try dsimp only at hSw);refine ld_row (x:=.tmp 17) ?_ ?_ (HPv.out.q hSw) Try.underlying26 (by exact infoS) <;> rfl) pq hS ?_
       try simp only [Act.put,sA,sB,sC]
       refine wpAnyH_ready (rs:=[17]) (by kernel_rfl) (by simp) ?_;refine ar (by (try simp only [gA,gB,gC]);rfl) fun K hK=>?_;go_simp
       refine (as_any _ _ _ _ _ _ _ _ _ _ _).mono ?_;rintro e yR2x19 ⟨rfl,hq⟩;try (go_wp2_with fail)
       have hS2:=Q.trans hS hq;refine hK.out _ _ (by exact hS2) (fun hHeld=>?_);clear hK K hHeld hS hq;have hS:=hS2;clear hS2;try simp only [Act.put,sA,sB,sC]
       refine wpAnyH_ready (rs:=[19]) (by kernel_rfl) (by simp) ?_;refine ar (by (try simp only [gA,gB,gC]);rfl) fun K hK=>?_;go_simp
       refine (HSMT.out _ _ _ _ _ _ _ _ _ (HIz.out.q hS) (HFz.out.q hS) (HIv.out.q hS) (HFv.out.q hS)).mono ?_;rintro e yR2x20 ⟨rfl,hq⟩;try (go_wp2_with fail)
       have hS2:=Q.trans hS hq;refine hK.out _ _ (by exact hS2) (fun hHeld=>?_);clear hK K hHeld hS hq;have hS:=hS2;clear hS2;try simp only [Act.put,sA,sB,sC]
       refine tk 20 (by simp only [gA,gB,gC];rfl) (by first | kernel_rfl | rfl) (fun uz _=>by go_simp;try with_reducible rfl) pq hS ?_;try simp only [Act.put,sA,sB,sC]
       refine tk 21 (by simp only [gA,gB,gC];rfl) (by first | kernel_rfl | rfl) (fun uz _=>by go_simp;try with_reducible rfl) pq hS ?_;try simp only [Act.put,sA,sB,sC]
       refine wpAnyH_done (by kernel_rfl) ?_ _;go_wp2_with fail
       exact ⟨⟨k + 1,by first | rfl | go_num,by omega,by omega,HQ1.out.trans hS⟩,by simp [intOf];omega⟩
     ·have hk7i:¬ k <= 6:=hk7
      go_wp2_with fail
      exact ⟨⟨i + 1,by go_num,by omega,HQ1.out⟩,by simp [intOf];omega⟩
   ·have hi3i:¬ (i:Int) < 3:=by omega
    have HQE:=Hd (HQV.out.trans HQ0.out);go_wp2_with fail
    refine (lives_any _).mono ?_;rintro e wz ⟨rfl,hqz⟩;have HQZ:=Hd (HQE.out.trans hqz);clear hqz;go_wp2_with fail
    go_ret
    exact ⟨rfl,HQZ.out⟩
end El
end
end Go.Proofs.Ytnehhbobhnmbcaa
