/- The law's own as, of; the document's Few, Limits, Good on states. (and more) -/
import Derived.Test.YtnehhbobhnmbcaaR35
set_option linter.all false
set_option maxRecDepth 100000
set_option maxHeartbeats 8000000
namespace Go.Proofs.Ytnehhbobhnmbcaa
section
open Go.RowKit
namespace El
open Ed Tm
open Re hiding ret_st may_any way_any sel_any tog_any mov_any ins_any word_right word_left
theorem good_any (g s:Bool) (a1 a2:Option Addr) (n1 n2 c1 c2:Nat) (I F:List Int) (c a:Int) (w:World) (hi:Lst w (.slice a1 n1 c1) I) (hf:Lst w (.slice a2 n2 c2) F) (k1:I.length = n1) (k2:F.length = n2) (l1:n1 <= 9223372036854775807) (l2:n2 <= 9223372036854775807) (bi:∀ n ∈ I,-9223372036854775808 <= n /\ n <= 9223372036854775807) (bf:∀ n ∈ F,-9223372036854775808 <= n /\ n <= 9223372036854775807) (hc:-9223372036854775808 <= c /\ c <= 9223372036854775807) (ha:-9223372036854775808 <= a /\ a <= 9223372036854775807) (p q:Nat) (hp:p <= 1000) (hq:q <= 1000) :
  Calls Try.prog 9 #[.agg #[.bool g,.slice a1 n1 c1,.bool s,.slice a2 n2 c2,.int .i64 c,.int .i64 a],.int .i64 p,.int .i64 q] w fun e w'=>∃ v,e = .returned v /\ SO w' w.heap.size v (gdS ⟨⟨g,I,s,F⟩,c,a⟩ p q) /\ Q w w':=by
 have HGD:=Hd (fun u (qq:Q w u)=>Tr.good_any g s a1 a2 n1 n2 c1 c2 I F u (hi.q qq) (hf.q qq) k1 k2 l1 l2 bi bf p q hp hq);have hgl:=Tm.gdT_len g s I F p q;have hgs:gdS ⟨⟨g,I,s,F⟩,c,a⟩ p q = ⟨gdT g s I F p q,Um.around c ((ats (gdT g s I F p q)).length + 1),Um.around a ((ats (gdT g s I F p q)).length + 1)⟩:=by unfold gdS;dsimp only
 have hat:=ats_len (gdT g s I F p q);generalize gdS ⟨⟨g,I,s,F⟩,c,a⟩ p q = SS at *;generalize gdT g s I F p q = D0 at *;obtain ⟨dg,dI,ds,dF⟩:=D0;dsimp only at hgl hat;obtain ⟨m1,hm1⟩:∃ m,m = dI.length:=⟨_,rfl⟩;obtain ⟨m2,hm2⟩:∃ m,m = dF.length:=⟨_,rfl⟩;rw [<- hm1,<- hm2] at hgl hat;rw [hat] at hgs;have hsl:=sep_len ds;have HAT:=Hd (fun u b1 d1 b2 d2 (h1:Lst u (.slice b1 m1 d1) dI) (h2:Lst u (.slice b2 m2 d2) dF)=>Tr.atoms_any dg ds b1 b2 m1 m2 d1 d2 dI dF u h1 h2 hm1.symm hm2.symm (by omega) (by omega));have HM1:=Hd hm1.symm;have HM2:=Hd hm2.symm;have hnb:m1 + (sep ds).length + m2 <= 2001:=by omega
 generalize m1 + (sep ds).length + m2 = N at *;have HA1:=Hd (fun u=>(by
  refine (Ur.around_any c (N + 1) u hc.1 hc.2 (by omega) (by omega)).mono ?_;rintro e w' ⟨rfl,rfl⟩;exact ⟨rfl,Q.refl _⟩:Calls Try.prog 24 #[.int .i64 c,.int .i64 ((N:Int) + 1)] u fun e w'=>e = .returned (.int .i64 (Um.around c (N + 1))) /\ Q u w'))
 have HA2:=Hd (fun u=>(by
  refine (Ur.around_any a (N + 1) u ha.1 ha.2 (by omega) (by omega)).mono ?_;rintro e w' ⟨rfl,rfl⟩;exact ⟨rfl,Q.refl _⟩:Calls Try.prog 24 #[.int .i64 a,.int .i64 ((N:Int) + 1)] u fun e w'=>e = .returned (.int .i64 (Um.around a (N + 1))) /\ Q u w'))
 generalize Um.around c ((N:Int) + 1) = C1 at *;generalize Um.around a ((N:Int) + 1) = A1 at *;have HGS:=Hd hgs;have hwN:IntKind.i64.wrap ((N:Int) + 1) = (N:Int) + 1:=by rw [IntKind.wrap_i64];omega
 clear hi hf k1 k2 l1 l2 bi bf hc ha hp hq hgl hat hm1 hm2 hsl hgs;obtain ⟨y0,hy0⟩:∃ z,z = w.alloc (.cells #[.bool g,.slice a1 n1 c1,.bool s,.slice a2 n2 c2,.int .i64 c,.int .i64 a] 26):=⟨_,rfl⟩;have hq0:Q w y0:=by rw [hy0];exact (Q.refl _).alloc _
 have hs0:y0.heap.size = w.heap.size + 1:=by rw [hy0];simp
 have hc0:Bk y0 w.heap.size 26 [.bool g,.slice a1 n1 c1,.bool s,.slice a2 n2 c2,.int .i64 c,.int .i64 a]:=by rw [hy0];exact Bk.new _ _ _
 obtain ⟨y1,hy1⟩:∃ z,z = y0.alloc (.cells #[.bool false,.slice none 0 0,.bool false,.slice none 0 0,.int .i64 0,.int .i64 0] 26):=⟨_,rfl⟩;have hq1:Q y0 y1:=by rw [hy1];exact (Q.refl _).alloc _
 have hs1:y1.heap.size = w.heap.size + 2:=by rw [hy1];simp;omega
 have hc1:Bk y1 y0.heap.size 26 [.bool false,.slice none 0 0,.bool false,.slice none 0 0,.int .i64 0,.int .i64 0]:=by rw [hy1];exact Bk.new _ _ _
 rw [hs0] at hc1;have HQ:=Hd (hq0.trans hq1);have HSB:=Hd (hc0.q hq1);have HRB:=Hd hc1;have hz2:y1 = (w.alloc (.cells #[.bool g,.slice a1 n1 c1,.bool s,.slice a2 n2 c2,.int .i64 c,.int .i64 a] 26)).alloc (.cells #[.bool false,.slice none 0 0,.bool false,.slice none 0 0,.int .i64 0,.int .i64 0] 26):=by rw [hy1,hy0]
 obtain ⟨bS,hbbS⟩:∃ k,k = w.heap.size:=⟨_,rfl⟩;have HWbS:=Hd (show w.heap.size <= bS by omega);obtain ⟨bR,hbbR⟩:∃ k,k = w.heap.size + 1:=⟨_,rfl⟩;have HWbR:=Hd (show w.heap.size <= bR by omega);clear hq0 hs0 hc0 hy0 hq1 hs1 hc1 hy1;go_enter Try.func9,Try.ntmps9
 go_upto_region 1 with fail
 rw [<- hz2,<- hbbR,<- hbbS];rw [<- hbbS] at HSB;rw [<- hbbR] at HRB;have HNE:=Hd (show bS ≠ bR by omega);clear hz2 hbbS hbbR;have xHSB0:=HSB.out.cell 0 rfl;have xHSB1:=HSB.out.cell 1 rfl;have xHSB2:=HSB.out.cell 2 rfl;have xHSB3:=HSB.out.cell 3 rfl;go_wp2_with fail
 clear xHSB0 xHSB1 xHSB2 xHSB3;have HBW:=Hd (show bR < y1.heap.size + 2 by have:=HRB.out.lt;omega);have HBM:=Hd (show w.heap.size <= y1.heap.size + 2 by have:=HQ.out.le;omega);refine (HGD.out _ HQ.out).mono ?_;rintro e u1 ⟨x,rfl,hld,hq⟩;obtain ⟨p1,r1,p2,r2,rfl,ho1,ho2⟩:=hld;dsimp only at ho1 ho2 |-;rw [HM1.out] at ho1 |-;rw [HM2.out] at ho2 |-;have HO1L:=Hd ho1;have HO2L:=Hd ho2;clear ho1 ho2;replace HQ:=Hd (Q.trans HQ.out hq);replace HSB:=Hd (Bk.q HSB.out hq);replace HRB:=Hd (Bk.q HRB.out hq);clear hq;have HRP:=HRB;obtain ⟨u2,hwu2⟩:∃ z,z = u1.alloc (.cells #[.bool dg,.slice p1 m1 r1,.bool ds,.slice p2 m2 r2] 24):=⟨_,rfl⟩;have hq:Q u1 u2:=by rw [hwu2];exact (Q.refl _).alloc _
 have HDB:=Hd (show Bk u2 u1.heap.size 24 [.bool dg,.slice p1 m1 r1,.bool ds,.slice p2 m2 r2] by rw [hwu2];exact Bk.new _ _ _);obtain ⟨bD,hbbD⟩:∃ k,k = u1.heap.size:=⟨_,rfl⟩;rw [<- hbbD] at HDB;replace HQ:=Hd (Q.trans HQ.out hq);replace HSB:=Hd (Bk.q HSB.out hq);replace HRB:=Hd (Bk.q HRB.out hq);replace HO1L:=Hd (Own.q HO1L.out hq);replace HO2L:=Hd (Own.q HO2L.out hq);clear hq;go_upto_region 2 with fail
 have HND:=Hd (show bD ≠ bR by rw [hbbD];have h1:=HRP.out.lt;omega);rw [<- hwu2,<- hbbD];clear hwu2 hbbD;clear HRP;go_wp2_with (refine wpList_load_row (by rfl) 24 _ (by rfl) bD (by rfl) 24 #[.bool dg,.slice p1 m1 r1,.bool ds,.slice p2 m2 r2] (0,0) _ HDB.out Try.underlying24 rfl (by exact infoD) ?_)
 refine (HAT.out _ _ _ _ _ HO1L.out.lst HO2L.out.lst).mono ?_;rintro e u3 ⟨av,ac,rfl,_,hq⟩;replace HQ:=Hd (Q.trans HQ.out hq);replace HSB:=Hd (Bk.q HSB.out hq);replace HRB:=Hd (Bk.q HRB.out hq);replace HO1L:=Hd (Own.q HO1L.out hq);replace HO2L:=Hd (Own.q HO2L.out hq);replace HDB:=Hd (Bk.q HDB.out hq);clear hq;go_upto_region 3 with fail
 refine wp_region_held_drew (S:=fun u=>El.SY w u3 bR u) (by kernel_rfl) (by exact El.SY.of _ (HQ.out)) (fun hHeld=>?_);have hS:El.SY w u3 bR u3.drew:=hHeld;clear hHeld;have hq:Q u3 u3.drew:=(Q.refl _).drew;have HRB:=Hd (Bk.q HRB.out hq);have HO1L:=Hd (Own.q HO1L.out hq);have HO2L:=Hd (Own.q HO2L.out hq);clear hq;generalize u3.drew = yR2x0 at *;change wpAnyH _ _ _ _ _ _ #[ff,ff,ff,ff,ff,ff,ff,ff,ff,ff,ff,ff,ff] _ _;refine tk 0 (by simp only [gA,gB,gC];rfl) (by first | kernel_rfl | rfl) (fun uz hSw=>by (try dsimp only at hSw);refine ld_row (x:=.tmp 7) ?_ ?_ (hSw.bk HDB.out HND.out) Try.underlying24 (by exact infoD) <;> rfl) pq hS ?_
 try simp only [Act.put,sA,sB,sC]
 refine tk 1 (by simp only [gA,gB,gC];rfl) (by first | kernel_rfl | rfl) (fun uz _=>by go_simp;try with_reducible rfl) pq hS ?_;try simp only [Act.put,sA,sB,sC]
 refine tk 2 (by simp only [gA,gB,gC];rfl) (by first | kernel_rfl | rfl) (fun uz hSw=>by (try dsimp only at hSw);have x4:=(hSw.bk HSB.out HNE.out).cell 4 rfl;go_simp;try with_reducible rfl) pq hS ?_;try simp only [Act.put,sA,sB,sC]
 refine tk 3 (by simp only [gA,gB,gC];rfl) (by first | kernel_rfl | rfl) (fun uz _=>by go_simp;try with_reducible rfl) pq hS ?_;try simp only [Act.put,sA,sB,sC]
 refine tk 4 (by simp only [gA,gB,gC];rfl) (by first | kernel_rfl | rfl) (fun uz _=>by go_simp;try with_reducible rfl) pq hS ?_;try simp only [Act.put,sA,sB,sC]
 refine tk 6 (by simp only [gA,gB,gC];rfl) (by first | kernel_rfl | rfl) (fun uz _=>by go_simp;try with_reducible rfl) pq hS ?_;try simp only [Act.put,sA,sB,sC]
 refine tk 7 (by simp only [gA,gB,gC];rfl) (by first | kernel_rfl | rfl) (fun uz hSw=>by (try dsimp only at hSw);have x5:=(hSw.bk HSB.out HNE.out).cell 5 rfl;go_simp;try with_reducible rfl) pq hS ?_;try simp only [Act.put,sA,sB,sC]
 refine tk 8 (by simp only [gA,gB,gC];rfl) (by first | kernel_rfl | rfl) (fun uz _=>by go_simp;try with_reducible rfl) pq hS ?_;try simp only [Act.put,sA,sB,sC]
 refine tk 9 (by simp only [gA,gB,gC];rfl) (by first | kernel_rfl | rfl) (fun uz _=>by go_simp;try with_reducible rfl) pq hS ?_;try simp only [Act.put,sA,sB,sC]
 refine wpAnyH_ready (rs:=[5]) (by kernel_rfl) (by simp) ?_;refine ar (by (try simp only [gA,gB,gC]);rfl) fun K hK=>?_;go_simp
 refine (HA1.out _).mono ?_;rintro e yR2x10 ⟨rfl,hq⟩;try (go_wp2_with fail)
 have HRB:=Hd (Bk.q HRB.out hq);have HO1L:=Hd (Own.q HO1L.out hq);have HO2L:=Hd (Own.q HO2L.out hq);have hS2:=El.SY.q hS hq;refine hK.out _ _ (by exact hS2) (fun hHeld=>?_);clear hK K hHeld hS hq;have hS:=hS2;clear hS2;try simp only [Act.put,sA,sB,sC]
 refine wpAnyH_ready (rs:=[10]) (by kernel_rfl) (by simp) ?_;refine ar (by (try simp only [gA,gB,gC]);rfl) fun K hK=>?_;go_simp
 refine (HA2.out _).mono ?_;rintro e yR2x11 ⟨rfl,hq⟩;try (go_wp2_with fail)
 have HRB:=Hd (Bk.q HRB.out hq);have HO1L:=Hd (Own.q HO1L.out hq);have HO2L:=Hd (Own.q HO2L.out hq);have hS2:=El.SY.q hS hq;refine hK.out _ _ (by exact hS2) (fun hHeld=>?_);clear hK K hHeld hS hq;have hS:=hS2;clear hS2;try simp only [Act.put,sA,sB,sC]
 refine tk 11 (by simp only [gA,gB,gC];rfl) (by first | kernel_rfl | rfl) (fun uz _=>by go_simp;try with_reducible rfl) pq hS ?_;try simp only [Act.put,sA,sB,sC]
 refine wpAnyH_ready (rs:=[12]) (by kernel_rfl) (by simp) ?_;refine ar (by (try simp only [gA,gB,gC]);rfl) fun K hK=>?_;rw [if_pos (by rfl)];refine wp_store_row 26 _ _ rfl (bR) #[.bool dg,.slice p1 m1 r1,.bool ds,.slice p2 m2 r2,.int .i64 C1,.int .i64 A1] (by rfl) (by rfl) 26 _ HRB.out (by exact infoS) rfl (Rw.all1 (by rfl)) ?_;have hS2:=El.SY.row hS HWbR.out #[.bool dg,.slice p1 m1 r1,.bool ds,.slice p2 m2 r2,.int .i64 C1,.int .i64 A1];replace HO1L:=Hd (own_rowE HO1L.out HBW.out #[.bool dg,.slice p1 m1 r1,.bool ds,.slice p2 m2 r2,.int .i64 C1,.int .i64 A1]);replace HO2L:=Hd (own_rowE HO2L.out HBW.out #[.bool dg,.slice p1 m1 r1,.bool ds,.slice p2 m2 r2,.int .i64 C1,.int .i64 A1]);replace HRB:=Hd (Rw.Bk_row HRB.out [.bool dg,.slice p1 m1 r1,.bool ds,.slice p2 m2 r2,.int .i64 C1,.int .i64 A1]);refine hK.out _ _ (by exact hS2) (fun hHeld=>?_);clear hK K hHeld hS;have hS:=hS2;clear hS2;generalize yR2x11.setRow (bR) #[.bool dg,.slice p1 m1 r1,.bool ds,.slice p2 m2 r2,.int .i64 C1,.int .i64 A1] = yR2x13 at *;try simp only [Act.put,sA,sB,sC]
 refine wpAnyH_done (by kernel_rfl) ?_ _;go_wp2_with fail
 exact ret_s rfl rfl rfl HRB.out rfl ⟨_,rfl,by rw [HGS.out];exact SO.of (HO1L.out.mono HBM.out) (HO2L.out.mono HBM.out) HM1.out HM2.out,hS.1⟩
end El
end
end Go.Proofs.Ytnehhbobhnmbcaa
