/- The program's edit: Move, Select, Toggle. (and more) -/
import Derived.Test.YtnehhbobhnmbcaaR32
set_option linter.all false
set_option maxRecDepth 100000
set_option maxHeartbeats 8000000
namespace Go.Proofs.Ytnehhbobhnmbcaa
section
open Go.RowKit
namespace Pe
open Ed Tm
open Re hiding ret_st infoS infoD may_any way_any sel_any tog_any mov_any ins_any word_right word_left
theorem sel_any (g s:Bool) (a1 a2:Option Addr) (n1 n2 c1 c2:Nat) (I F:List Int) (c a:Int) (an ca:Int) (w:World) (hi:Lst w (.slice a1 n1 c1) I) (hf:Lst w (.slice a2 n2 c2) F) (k1:I.length = n1) (k2:F.length = n2) (l1:n1 <= 100000) (l2:n2 <= 100000) :
  Calls Try.prog 25 #[.agg #[.bool g,.slice a1 n1 c1,.bool s,.slice a2 n2 c2,.int .i64 c,.int .i64 a],.int .i64 an,.int .i64 ca] w fun e w'=>∃ v,e = .returned (.tuple #[v,.int .i64 (sel ⟨⟨g,I,s,F⟩,c,a⟩ an ca).2]) /\ SO w' w.heap.size v (sel ⟨⟨g,I,s,F⟩,c,a⟩ an ca).1 /\ Q w w':=by
 have HMY:=Hd (fun u (q:Q w u)=>may_any g s a1 a2 n1 n2 c1 c2 I F c a u (hi.q q) (hf.q q) k1 k2 l1 l2);have HSTD:=Hd (fun u (q:Q w u) x y=>standing_any g s a1 a2 n1 n2 c1 c2 I F x y u (hi.q q) (hf.q q) k1 k2 l1 l2);have HK1:=Hd k1;have HK2:=Hd k2;have HP:=Hd (fun u x=>isPlace_any g s a1 a2 n1 n2 c1 c2 x u l1 l2);have hn:(ats ⟨g,I,s,F⟩).length = n1 + (sep s).length + n2:=by rw [ats_len,k1,k2]
 have HR:=Hd (show sel ⟨⟨g,I,s,F⟩,c,a⟩ an ca = if mayS ⟨⟨g,I,s,F⟩,c,a⟩ = true then (if mayS ⟨⟨g,I,s,F⟩,ca,an⟩ = true then (⟨⟨g,I,s,F⟩,ca,an⟩,0) else (S0,3)) else (S0,1) from rfl)
 have HM2:=Hd (show mayS ⟨⟨g,I,s,F⟩,c,a⟩ = true -> mayS ⟨⟨g,I,s,F⟩,ca,an⟩ = (decide (0 <= ca /\ ca <= ((n1 + (sep s).length + n2:Nat):Int)) && decide (0 <= an /\ an <= ((n1 + (sep s).length + n2:Nat):Int))) from fun h=>by
  have hm:=((mayS_iff _).1 h).1;dsimp only at hm;unfold mayS len;dsimp only;rw [hn,hm,Bool.true_and])
 generalize sel ⟨⟨g,I,s,F⟩,c,a⟩ an ca = RR at *;generalize mayS ⟨⟨g,I,s,F⟩,c,a⟩ = M1 at *;generalize mayS ⟨⟨g,I,s,F⟩,ca,an⟩ = M2 at *;generalize n1 + (sep s).length + n2 = N at *;have HP1:=Hd (fun u=>HP.out u an);have HP2:=Hd (fun u=>HP.out u ca);generalize decide (0 <= an /\ an <= (N:Int)) = P1 at *;generalize decide (0 <= ca /\ ca <= (N:Int)) = P2 at *;clear hi hf k1 k2 hn HP;obtain ⟨y0,hy0⟩:∃ z,z = w.alloc (.cells #[.bool g,.slice a1 n1 c1,.bool s,.slice a2 n2 c2,.int .i64 c,.int .i64 a] 39):=⟨_,rfl⟩;have hq0:Q w y0:=by rw [hy0];exact (Q.refl _).alloc _
 have hs0:y0.heap.size = w.heap.size + 1:=by rw [hy0];simp
 have hc0:Bk y0 w.heap.size 39 [.bool g,.slice a1 n1 c1,.bool s,.slice a2 n2 c2,.int .i64 c,.int .i64 a]:=by rw [hy0];exact Bk.new _ _ _
 obtain ⟨y1,hy1⟩:∃ z,z = y0.alloc (.cells #[.bool false,.slice none 0 0,.bool false,.slice none 0 0,.int .i64 0,.int .i64 0] 39):=⟨_,rfl⟩;have hq1:Q y0 y1:=by rw [hy1];exact (Q.refl _).alloc _
 have hs1:y1.heap.size = w.heap.size + 2:=by rw [hy1];simp;omega
 have hc1:Bk y1 y0.heap.size 39 [.bool false,.slice none 0 0,.bool false,.slice none 0 0,.int .i64 0,.int .i64 0]:=by rw [hy1];exact Bk.new _ _ _
 rw [hs0] at hc1;have HQ:=Hd (hq0.trans hq1);have HSB:=Hd (hc0.q hq1);have HRB:=Hd hc1;have hz2:y1 = (w.alloc (.cells #[.bool g,.slice a1 n1 c1,.bool s,.slice a2 n2 c2,.int .i64 c,.int .i64 a] 39)).alloc (.cells #[.bool false,.slice none 0 0,.bool false,.slice none 0 0,.int .i64 0,.int .i64 0] 39):=by rw [hy1,hy0]
 obtain ⟨bS,hbbS⟩:∃ k,k = w.heap.size:=⟨_,rfl⟩;have HWbS:=Hd (show w.heap.size <= bS by omega);obtain ⟨bR,hbbR⟩:∃ k,k = w.heap.size + 1:=⟨_,rfl⟩;have HWbR:=Hd (show w.heap.size <= bR by omega);clear hq0 hs0 hc0 hy0 hq1 hs1 hc1 hy1;go_enter Try.func25,Try.ntmps25
 go_upto_region 1 with fail
 rw [<- hz2,<- hbbR,<- hbbS];rw [<- hbbS] at HSB;rw [<- hbbR] at HRB;clear hz2 hbbS hbbR;go_wp2_with (refine wpList_load_row (by rfl) 39 _ (by rfl) bS (by rfl) 39 #[.bool g,.slice a1 n1 c1,.bool s,.slice a2 n2 c2,.int .i64 c,.int .i64 a] (0,0) _ HSB.out Try.underlying39 rfl (by exact infoS) ?_)
 refine (HMY.out _ HQ.out).mono ?_;rintro e u1 ⟨rfl,hq⟩;replace HQ:=Hd (Q.trans HQ.out hq);replace HSB:=Hd (Bk.q HSB.out hq);replace HRB:=Hd (Bk.q HRB.out hq);clear hq;cases M1 with
 | false =>
  replace HR:=Hd (HR.out.trans (if_neg (by decide)));go_wp2_with (refine wpList_store_row (by rfl) 39 _ _ (by rfl) bR #[.bool false,.slice none 0 0,.bool false,.slice none 0 0,.int .i64 0,.int .i64 0] (by rfl) (by rfl) 39 _ HRB.out (by exact infoS) rfl (Rw.all1 (by rfl)) ?_)
  exact ret_st rfl rfl rfl rfl (Rw.Bk_row HRB.out [.bool false,.slice none 0 0,.bool false,.slice none 0 0,.int .i64 0,.int .i64 0]) rfl ⟨_,by rw [HR.out] <;> rfl,by rw [HR.out];exact SO.zero _ _,Rw.Q_row HQ.out HWbR.out _⟩
 | true =>
  replace HR:=Hd (HR.out.trans (if_pos rfl));have hm2:=HM2.out rfl;have xHSB0:=HSB.out.cell 0 rfl;have xHSB1:=HSB.out.cell 1 rfl;have xHSB2:=HSB.out.cell 2 rfl;have xHSB3:=HSB.out.cell 3 rfl;go_wp2_with fail
  refine (HP1.out _).mono ?_;rintro e u2 ⟨rfl,hq⟩;replace HQ:=Hd (Q.trans HQ.out hq);replace HSB:=Hd (Bk.q HSB.out hq);replace HRB:=Hd (Bk.q HRB.out hq);clear hq;clear xHSB0 xHSB1 xHSB2 xHSB3;cases P1 with
  | false =>
   rw [Bool.and_false] at hm2;replace HR:=Hd (HR.out.trans (if_neg (by rw [hm2];decide)));clear hm2;go_wp2_with (refine wpList_store_row (by rfl) 39 _ _ (by rfl) bR #[.bool false,.slice none 0 0,.bool false,.slice none 0 0,.int .i64 0,.int .i64 0] (by rfl) (by rfl) 39 _ HRB.out (by exact infoS) rfl (Rw.all1 (by rfl)) ?_)
   exact ret_st rfl rfl rfl rfl (Rw.Bk_row HRB.out [.bool false,.slice none 0 0,.bool false,.slice none 0 0,.int .i64 0,.int .i64 0]) rfl ⟨_,by rw [HR.out] <;> rfl,by rw [HR.out];exact SO.zero _ _,Rw.Q_row HQ.out HWbR.out _⟩
  | true =>
   rw [Bool.and_true] at hm2;have xHSB0:=HSB.out.cell 0 rfl;have xHSB1:=HSB.out.cell 1 rfl;have xHSB2:=HSB.out.cell 2 rfl;have xHSB3:=HSB.out.cell 3 rfl;go_wp2_with fail
   refine (HP2.out _).mono ?_;rintro e u41 ⟨rfl,hq⟩;replace HQ:=Hd (Q.trans HQ.out hq);replace HSB:=Hd (Bk.q HSB.out hq);replace HRB:=Hd (Bk.q HRB.out hq);clear hq;clear xHSB0 xHSB1 xHSB2 xHSB3;cases P2 with
   | false =>
    replace HR:=Hd (HR.out.trans (if_neg (by rw [hm2];decide)));clear hm2;go_wp2_with (refine wpList_store_row (by rfl) 39 _ _ (by rfl) bR #[.bool false,.slice none 0 0,.bool false,.slice none 0 0,.int .i64 0,.int .i64 0] (by rfl) (by rfl) 39 _ HRB.out (by exact infoS) rfl (Rw.all1 (by rfl)) ?_)
    exact ret_st rfl rfl rfl rfl (Rw.Bk_row HRB.out [.bool false,.slice none 0 0,.bool false,.slice none 0 0,.int .i64 0,.int .i64 0]) rfl ⟨_,by rw [HR.out] <;> rfl,by rw [HR.out];exact SO.zero _ _,Rw.Q_row HQ.out HWbR.out _⟩
   | true =>
    replace HR:=Hd (HR.out.trans (if_pos hm2));clear hm2;have xHSB0:=HSB.out.cell 0 rfl;have xHSB1:=HSB.out.cell 1 rfl;have xHSB2:=HSB.out.cell 2 rfl;have xHSB3:=HSB.out.cell 3 rfl;go_wp2_with fail
    have HBW:=Hd (show bR < u41.heap.size from HRB.out.lt);have HBM:=Hd (show w.heap.size <= u41.heap.size from HQ.out.le);refine (HSTD.out _ HQ.out _ _).mono ?_;rintro e u61 ⟨x,rfl,hso,hq⟩;obtain ⟨p1,r1,p2,r2,rfl,ho1,ho2⟩:=hso;dsimp only at ho1 ho2 |-;rw [HK1.out] at ho1 |-;rw [HK2.out] at ho2 |-;have HO1L:=Hd ho1;have HO2L:=Hd ho2;clear ho1 ho2;replace HQ:=Hd (Q.trans HQ.out hq);replace HSB:=Hd (Bk.q HSB.out hq);replace HRB:=Hd (Bk.q HRB.out hq);clear hq;go_wp2_with (refine wpList_store_row (by rfl) 39 _ _ (by rfl) bR #[.bool g,.slice p1 n1 r1,.bool s,.slice p2 n2 r2,.int .i64 ca,.int .i64 an] (by rfl) (by rfl) 39 _ HRB.out (by exact infoS) rfl (Rw.all1 (by rfl)) ?_)
    exact ret_st rfl rfl rfl rfl (Rw.Bk_row HRB.out [.bool g,.slice p1 n1 r1,.bool s,.slice p2 n2 r2,.int .i64 ca,.int .i64 an]) rfl ⟨_,by rw [HR.out] <;> rfl,by rw [HR.out];exact SO.of ((own_rowE HO1L.out HBW.out _).mono HBM.out) ((own_rowE HO2L.out HBW.out _).mono HBM.out) HK1.out HK2.out,Rw.Q_row HQ.out HWbR.out _⟩
theorem tog_any (g s:Bool) (a1 a2:Option Addr) (n1 n2 c1 c2:Nat) (I F:List Int) (c a:Int) (li lf:Int) (lg:Bool) (w:World) (hi:Lst w (.slice a1 n1 c1) I) (hf:Lst w (.slice a2 n2 c2) F) (k1:I.length = n1) (k2:F.length = n2) (l1:n1 <= 100000) (l2:n2 <= 100000) :
  Calls Try.prog 27 #[.agg #[.bool g,.slice a1 n1 c1,.bool s,.slice a2 n2 c2,.int .i64 c,.int .i64 a],.agg #[.int .i64 li,.int .i64 lf,.bool lg]] w fun e w'=>∃ v,e = .returned (.tuple #[v,.int .i64 (tog ⟨⟨g,I,s,F⟩,c,a⟩ ⟨li,lf,lg⟩).2]) /\ SO w' w.heap.size v (tog ⟨⟨g,I,s,F⟩,c,a⟩ ⟨li,lf,lg⟩).1 /\ Q w w':=by
 have HMY:=Hd (fun u (q:Q w u)=>may_any g s a1 a2 n1 n2 c1 c2 I F c a u (hi.q q) (hf.q q) k1 k2 l1 l2);have HSTD:=Hd (fun u (q:Q w u) x y=>standing_any g s a1 a2 n1 n2 c1 c2 I F x y u (hi.q q) (hf.q q) k1 k2 l1 l2);have HK1:=Hd k1;have HK2:=Hd k2;have HR:=Hd (show tog ⟨⟨g,I,s,F⟩,c,a⟩ ⟨li,lf,lg⟩ = if mayS ⟨⟨g,I,s,F⟩,c,a⟩ = true then (if lg = true then (⟨⟨!g,I,s,F⟩,c,a⟩,0) else (S0,5)) else (S0,1) from rfl)
 generalize tog ⟨⟨g,I,s,F⟩,c,a⟩ ⟨li,lf,lg⟩ = RR at *;generalize mayS ⟨⟨g,I,s,F⟩,c,a⟩ = M1 at *;clear hi hf k1 k2;obtain ⟨y0,hy0⟩:∃ z,z = w.alloc (.cells #[.bool g,.slice a1 n1 c1,.bool s,.slice a2 n2 c2,.int .i64 c,.int .i64 a] 39):=⟨_,rfl⟩;have hq0:Q w y0:=by rw [hy0];exact (Q.refl _).alloc _
 have hs0:y0.heap.size = w.heap.size + 1:=by rw [hy0];simp
 have hc0:Bk y0 w.heap.size 39 [.bool g,.slice a1 n1 c1,.bool s,.slice a2 n2 c2,.int .i64 c,.int .i64 a]:=by rw [hy0];exact Bk.new _ _ _
 obtain ⟨y1,hy1⟩:∃ z,z = y0.alloc (.cells #[.int .i64 li,.int .i64 lf,.bool lg] 44):=⟨_,rfl⟩;have hq1:Q y0 y1:=by rw [hy1];exact (Q.refl _).alloc _
 have hs1:y1.heap.size = w.heap.size + 2:=by rw [hy1];simp;omega
 have hc1:Bk y1 y0.heap.size 44 [.int .i64 li,.int .i64 lf,.bool lg]:=by rw [hy1];exact Bk.new _ _ _
 rw [hs0] at hc1;obtain ⟨y2,hy2⟩:∃ z,z = y1.alloc (.cells #[.bool false,.slice none 0 0,.bool false,.slice none 0 0,.int .i64 0,.int .i64 0] 39):=⟨_,rfl⟩;have hq2:Q y1 y2:=by rw [hy2];exact (Q.refl _).alloc _
 have hs2:y2.heap.size = w.heap.size + 3:=by rw [hy2];simp;omega
 have hc2:Bk y2 y1.heap.size 39 [.bool false,.slice none 0 0,.bool false,.slice none 0 0,.int .i64 0,.int .i64 0]:=by rw [hy2];exact Bk.new _ _ _
 rw [hs1] at hc2;have HQ:=Hd (hq0.trans (hq1.trans hq2));have HSB:=Hd (hc0.q (hq1.trans hq2));have HLB:=Hd (hc1.q hq2);have HRB:=Hd hc2;have hz2:y2 = ((w.alloc (.cells #[.bool g,.slice a1 n1 c1,.bool s,.slice a2 n2 c2,.int .i64 c,.int .i64 a] 39)).alloc (.cells #[.int .i64 li,.int .i64 lf,.bool lg] 44)).alloc (.cells #[.bool false,.slice none 0 0,.bool false,.slice none 0 0,.int .i64 0,.int .i64 0] 39):=by rw [hy2,hy1,hy0]
 obtain ⟨bS,hbbS⟩:∃ k,k = w.heap.size:=⟨_,rfl⟩;have HWbS:=Hd (show w.heap.size <= bS by omega);obtain ⟨bL,hbbL⟩:∃ k,k = w.heap.size + 1:=⟨_,rfl⟩;have HWbL:=Hd (show w.heap.size <= bL by omega);obtain ⟨bR,hbbR⟩:∃ k,k = w.heap.size + 2:=⟨_,rfl⟩;have HWbR:=Hd (show w.heap.size <= bR by omega);clear hq0 hs0 hc0 hy0 hq1 hs1 hc1 hy1 hq2 hs2 hc2 hy2;go_enter Try.func27,Try.ntmps27
 go_upto_region 1 with fail
 try rw [show w.heap.size + 1 + 1 = w.heap.size + 2 from rfl]
 rw [<- hz2,<- hbbR,<- hbbL,<- hbbS];rw [<- hbbS] at HSB;rw [<- hbbL] at HLB;rw [<- hbbR] at HRB;clear hz2 hbbS hbbL hbbR;go_wp2_with (refine wpList_load_row (by rfl) 39 _ (by rfl) bS (by rfl) 39 #[.bool g,.slice a1 n1 c1,.bool s,.slice a2 n2 c2,.int .i64 c,.int .i64 a] (0,0) _ HSB.out Try.underlying39 rfl (by exact infoS) ?_)
 refine (HMY.out _ HQ.out).mono ?_;rintro e u1 ⟨rfl,hq⟩;replace HQ:=Hd (Q.trans HQ.out hq);replace HSB:=Hd (Bk.q HSB.out hq);replace HLB:=Hd (Bk.q HLB.out hq);replace HRB:=Hd (Bk.q HRB.out hq);clear hq;cases M1 with
 | false =>
  replace HR:=Hd (HR.out.trans (if_neg (by decide)));go_wp2_with (refine wpList_store_row (by rfl) 39 _ _ (by rfl) bR #[.bool false,.slice none 0 0,.bool false,.slice none 0 0,.int .i64 0,.int .i64 0] (by rfl) (by rfl) 39 _ HRB.out (by exact infoS) rfl (Rw.all1 (by rfl)) ?_)
  exact ret_st rfl rfl rfl rfl (Rw.Bk_row HRB.out [.bool false,.slice none 0 0,.bool false,.slice none 0 0,.int .i64 0,.int .i64 0]) rfl ⟨_,by rw [HR.out] <;> rfl,by rw [HR.out];exact SO.zero _ _,Rw.Q_row HQ.out HWbR.out _⟩
 | true =>
  replace HR:=Hd (HR.out.trans (if_pos rfl));have xHLB2:=HLB.out.cell 2 rfl;cases lg with
  | false =>
   replace HR:=Hd (HR.out.trans (if_neg (by decide)));go_wp2_with (refine wpList_store_row (by rfl) 39 _ _ (by rfl) bR #[.bool false,.slice none 0 0,.bool false,.slice none 0 0,.int .i64 0,.int .i64 0] (by rfl) (by rfl) 39 _ HRB.out (by exact infoS) rfl (Rw.all1 (by rfl)) ?_)
   exact ret_st rfl rfl rfl rfl (Rw.Bk_row HRB.out [.bool false,.slice none 0 0,.bool false,.slice none 0 0,.int .i64 0,.int .i64 0]) rfl ⟨_,by rw [HR.out] <;> rfl,by rw [HR.out];exact SO.zero _ _,Rw.Q_row HQ.out HWbR.out _⟩
  | true =>
   replace HR:=Hd (HR.out.trans (if_pos rfl));have xHSB0:=HSB.out.cell 0 rfl;have xHSB1:=HSB.out.cell 1 rfl;have xHSB2:=HSB.out.cell 2 rfl;have xHSB3:=HSB.out.cell 3 rfl;have xHSB4:=HSB.out.cell 4 rfl;have xHSB5:=HSB.out.cell 5 rfl;go_wp2_with fail
   have HBW:=Hd (show bR < u1.heap.size from HRB.out.lt);have HBM:=Hd (show w.heap.size <= u1.heap.size from HQ.out.le);refine (HSTD.out _ HQ.out _ _).mono ?_;rintro e u2 ⟨x,rfl,hso,hq⟩;obtain ⟨p1,r1,p2,r2,rfl,ho1,ho2⟩:=hso;dsimp only at ho1 ho2 |-;rw [HK1.out] at ho1 |-;rw [HK2.out] at ho2 |-;have HO1L:=Hd ho1;have HO2L:=Hd ho2;clear ho1 ho2;replace HQ:=Hd (Q.trans HQ.out hq);replace HSB:=Hd (Bk.q HSB.out hq);replace HLB:=Hd (Bk.q HLB.out hq);replace HRB:=Hd (Bk.q HRB.out hq);clear hq;clear xHSB0 xHSB1 xHSB2 xHSB3 xHSB4 xHSB5;clear xHLB2;have HRP:=HRB;have HQP:=HQ;have HSP:=HSB;obtain ⟨u3,hwu3⟩:∃ z,z = u2.alloc (.cells #[.bool g,.slice p1 n1 r1,.bool s,.slice p2 n2 r2,.int .i64 c,.int .i64 a] 39):=⟨_,rfl⟩;have hq:Q u2 u3:=by rw [hwu3];exact (Q.refl _).alloc _
   have HOB:=Hd (show Bk u3 u2.heap.size 39 [.bool g,.slice p1 n1 r1,.bool s,.slice p2 n2 r2,.int .i64 c,.int .i64 a] by rw [hwu3];exact Bk.new _ _ _);obtain ⟨bO,hbbO⟩:∃ k,k = u2.heap.size:=⟨_,rfl⟩;rw [<- hbbO] at HOB;replace HQ:=Hd (Q.trans HQ.out hq);replace HSB:=Hd (Bk.q HSB.out hq);replace HLB:=Hd (Bk.q HLB.out hq);replace HRB:=Hd (Bk.q HRB.out hq);replace HO1L:=Hd (Own.q HO1L.out hq);replace HO2L:=Hd (Own.q HO2L.out hq);clear hq;go_upto_region 6 with fail
   have HND:=Hd (show bO ≠ bR /\ w.heap.size <= bO /\ bO ≠ bS by rw [hbbO];have h1:=HRP.out.lt;have h2:=HSP.out.lt;have h3:=HQP.out.le;omega);rw [<- hwu3,<- hbbO];clear hwu3 hbbO;clear HRP HQP HSP;have xHSB0:=HSB.out.cell 0 rfl;have y0:=HOB.out.cell 0 rfl;have f0:=HOB.out.free 0;obtain ⟨q9,hvq9⟩:∃ z,z = u3.setCell ⟨bO,0,none⟩ (.bool (!g)):=⟨_,rfl⟩;have hd9:Bk q9 bO 39 [.bool (!g),.slice p1 n1 r1,.bool s,.slice p2 n2 r2,.int .i64 c,.int .i64 a]:=by rw [hvq9];exact HOB.out.set 0 _
   replace HRB:=Hd (show Bk q9 bR 39 [.bool false,.slice none 0 0,.bool false,.slice none 0 0,.int .i64 0,.int .i64 0] by rw [hvq9];exact HRB.out.past HND.out.1 _);replace HQ:=Hd (show Q w q9 by rw [hvq9];exact Q.setCell HQ.out (ad:=⟨bO,0,none⟩) HND.out.2.1 _);replace HO1L:=Hd (show Own q9 _ (.slice p1 n1 r1) I by rw [hvq9];exact Tm.Own_past HO1L.out HOB.out (by decide) 0 _);replace HO2L:=Hd (show Own q9 _ (.slice p2 n2 r2) F by rw [hvq9];exact Tm.Own_past HO2L.out HOB.out (by decide) 0 _);replace HOB:=Hd hd9;clear hd9;go_upto_region 7 with fail
   rw [<- hvq9];clear hvq9 y0 f0;clear xHSB0;go_wp2_with (first | (refine wpList_load_row (by rfl) 39 _ (by rfl) bO (by rfl) 39 #[.bool (!g),.slice p1 n1 r1,.bool s,.slice p2 n2 r2,.int .i64 c,.int .i64 a] (0,0) _ HOB.out Try.underlying39 rfl (by exact infoS) ?_) | (refine wpList_store_row (by rfl) 39 _ _ (by rfl) bR #[.bool (!g),.slice p1 n1 r1,.bool s,.slice p2 n2 r2,.int .i64 c,.int .i64 a] (by rfl) (by rfl) 39 _ HRB.out (by exact infoS) rfl (Rw.all1 (by rfl)) ?_))
   exact ret_st rfl rfl rfl rfl (Rw.Bk_row HRB.out [.bool (!g),.slice p1 n1 r1,.bool s,.slice p2 n2 r2,.int .i64 c,.int .i64 a]) rfl ⟨_,by rw [HR.out] <;> rfl,by rw [HR.out];exact SO.of ((own_rowE HO1L.out HBW.out _).mono HBM.out) ((own_rowE HO2L.out HBW.out _).mono HBM.out) HK1.out HK2.out,Rw.Q_row HQ.out HWbR.out _⟩
theorem mov_any (g s:Bool) (a1 a2:Option Addr) (n1 n2 c1 c2:Nat) (I F:List Int) (c a:Int) (h:Int) (kp:Bool) (w:World) (hi:Lst w (.slice a1 n1 c1) I) (hf:Lst w (.slice a2 n2 c2) F) (k1:I.length = n1) (k2:F.length = n2) (l1:n1 <= 100000) (l2:n2 <= 100000) :
  Calls Try.prog 22 #[.agg #[.bool g,.slice a1 n1 c1,.bool s,.slice a2 n2 c2,.int .i64 c,.int .i64 a],.int .i64 h,.bool kp] w fun e w'=>∃ v,e = .returned (.tuple #[v,.int .i64 (mov ⟨⟨g,I,s,F⟩,c,a⟩ h kp).2]) /\ SO w' w.heap.size v (mov ⟨⟨g,I,s,F⟩,c,a⟩ h kp).1 /\ Q w w':=by
 have HMY:=Hd (fun u (q:Q w u)=>may_any g s a1 a2 n1 n2 c1 c2 I F c a u (hi.q q) (hf.q q) k1 k2 l1 l2);have HSTD:=Hd (fun u (q:Q w u) x y=>standing_any g s a1 a2 n1 n2 c1 c2 I F x y u (hi.q q) (hf.q q) k1 k2 l1 l2);have HK1:=Hd k1;have HK2:=Hd k2;have HR:=Hd (show mov ⟨⟨g,I,s,F⟩,c,a⟩ h kp = if mayS ⟨⟨g,I,s,F⟩,c,a⟩ = true /\ 0 <= h /\ h <= 5 then (⟨⟨g,I,s,F⟩,movT ⟨⟨g,I,s,F⟩,c,a⟩ h kp,if kp = true then a else movT ⟨⟨g,I,s,F⟩,c,a⟩ h kp⟩,0) else (S0,1) from rfl)
 have HMT:=Hd (show movT ⟨⟨g,I,s,F⟩,c,a⟩ h true = way ⟨⟨g,I,s,F⟩,c,a⟩ h from by unfold movT;simp);have HMV:=Hd (fun u (q:Q w u) (hm:mayS ⟨⟨g,I,s,F⟩,c,a⟩ = true)=>show Calls Try.prog 48 #[.agg #[.bool g,.slice a1 n1 c1,.bool s,.slice a2 n2 c2,.int .i64 c,.int .i64 a],.int .i64 h] u fun e w'=>e = .returned (.int .i64 (way ⟨⟨g,I,s,F⟩,c,a⟩ h)) /\ Q u w' from by
  have hc:=((mayS_iff _).1 hm).2.1;unfold len at hc;dsimp only at hc;obtain ⟨k,rfl⟩:∃ k:Nat,c = k:=⟨c.toNat,by omega⟩;exact moved_any g s a1 a2 n1 n2 c1 c2 I F k a h u (hi.q q) (hf.q q) k1 k2 l1 l2 (by omega))
 have HLT:=Hd (fun u (q:Q w u) (hm:mayS ⟨⟨g,I,s,F⟩,c,a⟩ = true)=>show Calls Try.prog 49 #[.agg #[.bool g,.slice a1 n1 c1,.bool s,.slice a2 n2 c2,.int .i64 c,.int .i64 a],.int .i64 h] u fun e w'=>e = .returned (.int .i64 (movT ⟨⟨g,I,s,F⟩,c,a⟩ h false)) /\ Q u w' from by
  have hc:=((mayS_iff _).1 hm).2.1;unfold len at hc;dsimp only at hc;obtain ⟨k,rfl⟩:∃ k:Nat,c = k:=⟨c.toNat,by omega⟩;exact let_any g s a1 a2 n1 n2 c1 c2 I F k a h u (hi.q q) (hf.q q) k1 k2 l1 l2 hm)
 generalize mov ⟨⟨g,I,s,F⟩,c,a⟩ h kp = RR at *;generalize way ⟨⟨g,I,s,F⟩,c,a⟩ h = WY at *;generalize mayS ⟨⟨g,I,s,F⟩,c,a⟩ = M1 at *;clear hi hf k1 k2;obtain ⟨y0,hy0⟩:∃ z,z = w.alloc (.cells #[.bool g,.slice a1 n1 c1,.bool s,.slice a2 n2 c2,.int .i64 c,.int .i64 a] 39):=⟨_,rfl⟩;have hq0:Q w y0:=by rw [hy0];exact (Q.refl _).alloc _
 have hs0:y0.heap.size = w.heap.size + 1:=by rw [hy0];simp
 have hc0:Bk y0 w.heap.size 39 [.bool g,.slice a1 n1 c1,.bool s,.slice a2 n2 c2,.int .i64 c,.int .i64 a]:=by rw [hy0];exact Bk.new _ _ _
 obtain ⟨y1,hy1⟩:∃ z,z = y0.alloc (.cells #[.bool false,.slice none 0 0,.bool false,.slice none 0 0,.int .i64 0,.int .i64 0] 39):=⟨_,rfl⟩;have hq1:Q y0 y1:=by rw [hy1];exact (Q.refl _).alloc _
 have hs1:y1.heap.size = w.heap.size + 2:=by rw [hy1];simp;omega
 have hc1:Bk y1 y0.heap.size 39 [.bool false,.slice none 0 0,.bool false,.slice none 0 0,.int .i64 0,.int .i64 0]:=by rw [hy1];exact Bk.new _ _ _
 rw [hs0] at hc1;have HQ:=Hd (hq0.trans hq1);have HSB:=Hd (hc0.q hq1);have HRB:=Hd hc1;have hz2:y1 = (w.alloc (.cells #[.bool g,.slice a1 n1 c1,.bool s,.slice a2 n2 c2,.int .i64 c,.int .i64 a] 39)).alloc (.cells #[.bool false,.slice none 0 0,.bool false,.slice none 0 0,.int .i64 0,.int .i64 0] 39):=by rw [hy1,hy0]
 obtain ⟨bS,hbbS⟩:∃ k,k = w.heap.size:=⟨_,rfl⟩;have HWbS:=Hd (show w.heap.size <= bS by omega);obtain ⟨bR,hbbR⟩:∃ k,k = w.heap.size + 1:=⟨_,rfl⟩;have HWbR:=Hd (show w.heap.size <= bR by omega);clear hq0 hs0 hc0 hy0 hq1 hs1 hc1 hy1;go_enter Try.func22,Try.ntmps22
 go_upto_region 1 with fail
 rw [<- hz2,<- hbbR,<- hbbS];rw [<- hbbS] at HSB;rw [<- hbbR] at HRB;have HNE:=Hd (show bS ≠ bR by omega);clear hz2 hbbS hbbR;go_wp2_with (refine wpList_load_row (by rfl) 39 _ (by rfl) bS (by rfl) 39 #[.bool g,.slice a1 n1 c1,.bool s,.slice a2 n2 c2,.int .i64 c,.int .i64 a] (0,0) _ HSB.out Try.underlying39 rfl (by exact infoS) ?_)
 refine (HMY.out _ HQ.out).mono ?_;rintro e u1 ⟨rfl,hq⟩;replace HQ:=Hd (Q.trans HQ.out hq);replace HSB:=Hd (Bk.q HSB.out hq);replace HRB:=Hd (Bk.q HRB.out hq);clear hq;cases M1 with
 | false =>
  replace HR:=Hd (HR.out.trans (if_neg (fun h=>by cases h.1)));go_wp2_with (refine wpList_store_row (by rfl) 39 _ _ (by rfl) bR #[.bool false,.slice none 0 0,.bool false,.slice none 0 0,.int .i64 0,.int .i64 0] (by rfl) (by rfl) 39 _ HRB.out (by exact infoS) rfl (Rw.all1 (by rfl)) ?_)
  exact ret_st rfl rfl rfl rfl (Rw.Bk_row HRB.out [.bool false,.slice none 0 0,.bool false,.slice none 0 0,.int .i64 0,.int .i64 0]) rfl ⟨_,by rw [HR.out] <;> rfl,by rw [HR.out];exact SO.zero _ _,Rw.Q_row HQ.out HWbR.out _⟩
 | true =>
  by_cases hh1:¬ 0 <= h
  ·replace HR:=Hd (HR.out.trans (if_neg (fun e=>by omega)))
   go_wp2_with (refine wpList_store_row (by rfl) 39 _ _ (by rfl) bR #[.bool false,.slice none 0 0,.bool false,.slice none 0 0,.int .i64 0,.int .i64 0] (by rfl) (by rfl) 39 _ HRB.out (by exact infoS) rfl (Rw.all1 (by rfl)) ?_)
   exact ret_st rfl rfl rfl rfl (Rw.Bk_row HRB.out [.bool false,.slice none 0 0,.bool false,.slice none 0 0,.int .i64 0,.int .i64 0]) rfl ⟨_,by rw [HR.out] <;> rfl,by rw [HR.out];exact SO.zero _ _,Rw.Q_row HQ.out HWbR.out _⟩
  by_cases hh2:¬ h <= 5
  ·replace HR:=Hd (HR.out.trans (if_neg (fun e=>by omega)))
   go_wp2_with (refine wpList_store_row (by rfl) 39 _ _ (by rfl) bR #[.bool false,.slice none 0 0,.bool false,.slice none 0 0,.int .i64 0,.int .i64 0] (by rfl) (by rfl) 39 _ HRB.out (by exact infoS) rfl (Rw.all1 (by rfl)) ?_)
   exact ret_st rfl rfl rfl rfl (Rw.Bk_row HRB.out [.bool false,.slice none 0 0,.bool false,.slice none 0 0,.int .i64 0,.int .i64 0]) rfl ⟨_,by rw [HR.out] <;> rfl,by rw [HR.out];exact SO.zero _ _,Rw.Q_row HQ.out HWbR.out _⟩
  have hh3:0 <= h:=by omega
  have hh4:h <= 5:=by omega
  clear hh1 hh2;replace HR:=Hd (HR.out.trans (if_pos ⟨rfl,hh3,hh4⟩));cases kp with
  | true =>
   rw [HMT.out] at HR;replace HR:=Hd (HR.out.trans (by rw [if_pos rfl]));clear HMT;go_upto_region 4 with fail
   refine wp_region_held_drew (S:=fun u=>Tm.SX w bS 39 [.bool g,.slice a1 n1 c1,.bool s,.slice a2 n2 c2,.int .i64 c,.int .i64 a] u) (by kernel_rfl) (by exact ⟨HQ.out.drew,HSB.out.q (Q.refl _).drew⟩) (fun hHeld=>?_);have hS:Tm.SX w bS 39 [.bool g,.slice a1 n1 c1,.bool s,.slice a2 n2 c2,.int .i64 c,.int .i64 a] u1.drew:=hHeld;clear hHeld;have hq:Q u1 u1.drew:=(Q.refl _).drew;have HRB:=Hd (Bk.q HRB.out hq);clear hq;generalize u1.drew = yR1x0 at *;change wpAnyH _ _ _ _ _ _ #[ff,ff,ff,ff,ff,ff,ff,ff,ff,ff] _ _;refine tk 0 (by simp only [gA,gB,gC];rfl) (by first | kernel_rfl | rfl) (fun uz _=>by go_simp;try with_reducible rfl) pq hS ?_;try simp only [Act.put,sA,sB,sC]
   refine tk 1 (by simp only [gA,gB,gC];rfl) (by first | kernel_rfl | rfl) (fun uz hSw=>by (try dsimp only at hSw);have x0:=hSw.2.cell 0 rfl;have x1:=hSw.2.cell 1 rfl;have x2:=hSw.2.cell 2 rfl;have x3:=hSw.2.cell 3 rfl;go_simp;try with_reducible rfl) pq hS ?_;try simp only [Act.put,sA,sB,sC]
   refine tk 2 (by simp only [gA,gB,gC];rfl) (by first | kernel_rfl | rfl) (fun uz _=>by go_simp;try with_reducible rfl) pq hS ?_;try simp only [Act.put,sA,sB,sC]
   refine tk 3 (by simp only [gA,gB,gC];rfl) (by first | kernel_rfl | rfl) (fun uz hSw=>by (try dsimp only at hSw);have x5:=hSw.2.cell 5 rfl;go_simp;try with_reducible rfl) pq hS ?_;try simp only [Act.put,sA,sB,sC]
   refine tk 4 (by simp only [gA,gB,gC];rfl) (by first | kernel_rfl | rfl) (fun uz hSw=>by (try dsimp only at hSw);refine ld_row (x:=.tmp 3) ?_ ?_ hSw.2 Try.underlying39 (by exact infoS) <;> rfl) pq hS ?_
   try simp only [Act.put,sA,sB,sC]
   refine tk 5 (by simp only [gA,gB,gC];rfl) (by first | kernel_rfl | rfl) (fun uz _=>by go_simp;try with_reducible rfl) pq hS ?_;try simp only [Act.put,sA,sB,sC]
   refine wpAnyH_ready (rs:=[6]) (by kernel_rfl) (by simp) ?_;refine ar (by (try simp only [gA,gB,gC]);rfl) fun K hK=>?_;go_simp
   refine (HMV.out _ hS.1 (by first | rfl | trivial)).mono ?_;rintro e yR1x7 ⟨rfl,hq⟩;try (go_wp2_with fail)
   have HRB:=Hd (Bk.q HRB.out hq);have hS2:=Tm.SX.q hS hq;refine hK.out _ _ (by exact hS2) (fun hHeld=>?_);clear hK K hHeld hS hq;have hS:=hS2;clear hS2;try simp only [Act.put,sA,sB,sC]
   refine wpAnyH_ready (rs:=[7]) (by kernel_rfl) (by simp) ?_;refine ar (by (try simp only [gA,gB,gC]);rfl) fun K hK=>?_;go_simp
   refine (HSTD.out _ hS.1 _ _).mono ?_;rintro e yR1x8 ⟨x,rfl,hso,hq⟩;have HBW:=Hd (show bR < yR1x7.heap.size from HRB.out.lt);have HBM:=Hd (show w.heap.size <= yR1x7.heap.size from hS.1.le);obtain ⟨p1,r1,p2,r2,rfl,ho1,ho2⟩:=hso;dsimp only at ho1 ho2 |-;rw [HK1.out] at ho1 |-;rw [HK2.out] at ho2 |-;have HO1L:=Hd ho1;have HO2L:=Hd ho2;clear ho1 ho2;try (go_wp2_with fail)
   have HRB:=Hd (Bk.q HRB.out hq);have hS2:=Tm.SX.q hS hq;refine hK.out _ _ (by exact hS2) (fun hHeld=>?_);clear hK K hHeld hS hq;have hS:=hS2;clear hS2;try simp only [Act.put,sA,sB,sC]
   refine wpAnyH_ready (rs:=[8]) (by kernel_rfl) (by simp) ?_;refine ar (by (try simp only [gA,gB,gC]);rfl) fun K hK=>?_;rw [if_pos (by rfl)];refine wp_store_row 39 _ _ rfl (bR) #[.bool g,.slice p1 n1 r1,.bool s,.slice p2 n2 r2,.int .i64 WY,.int .i64 a] (by rfl) (by rfl) 39 _ HRB.out (by exact infoS) rfl (Rw.all1 (by rfl)) ?_;have hS2:=(⟨Rw.Q_row hS.1 HWbR.out #[.bool g,.slice p1 n1 r1,.bool s,.slice p2 n2 r2,.int .i64 WY,.int .i64 a],Rw.Bk_other hS.2 HNE.out #[.bool g,.slice p1 n1 r1,.bool s,.slice p2 n2 r2,.int .i64 WY,.int .i64 a]⟩:_ /\ _);replace HO1L:=Hd (own_rowE HO1L.out HBW.out #[.bool g,.slice p1 n1 r1,.bool s,.slice p2 n2 r2,.int .i64 WY,.int .i64 a]);replace HO2L:=Hd (own_rowE HO2L.out HBW.out #[.bool g,.slice p1 n1 r1,.bool s,.slice p2 n2 r2,.int .i64 WY,.int .i64 a]);replace HRB:=Hd (Rw.Bk_row HRB.out [.bool g,.slice p1 n1 r1,.bool s,.slice p2 n2 r2,.int .i64 WY,.int .i64 a]);refine hK.out _ _ (by exact hS2) (fun hHeld=>?_);clear hK K hHeld hS;have hS:=hS2;clear hS2;generalize yR1x8.setRow (bR) #[.bool g,.slice p1 n1 r1,.bool s,.slice p2 n2 r2,.int .i64 WY,.int .i64 a] = yR1x9 at *;try simp only [Act.put,sA,sB,sC]
   refine tk 9 (by simp only [gA,gB,gC];rfl) (by first | kernel_rfl | rfl) (fun uz _=>by go_simp;try with_reducible rfl) pq hS ?_;try simp only [Act.put,sA,sB,sC]
   refine wpAnyH_done (by kernel_rfl) ?_ _;clear HSTD HMV HLT;go_wp2_with fail
   exact ret_st rfl rfl rfl rfl HRB.out rfl ⟨_,by rw [HR.out] <;> rfl,by rw [HR.out];exact SO.of (HO1L.out.mono HBM.out) (HO2L.out.mono HBM.out) HK1.out HK2.out,hS.1⟩
  | false =>
   replace HR:=Hd (HR.out.trans (by rw [if_neg (by decide)]));generalize movT ⟨⟨g,I,s,F⟩,c,a⟩ h false = MT at *;clear HMT;go_wp2_with (refine wpList_load_row (by rfl) 39 _ (by rfl) bS (by rfl) 39 #[.bool g,.slice a1 n1 c1,.bool s,.slice a2 n2 c2,.int .i64 c,.int .i64 a] (0,0) _ HSB.out Try.underlying39 rfl (by exact infoS) ?_)
   refine (HLT.out _ HQ.out (by first | rfl | trivial)).mono ?_;rintro e u51 ⟨rfl,hq⟩;replace HQ:=Hd (Q.trans HQ.out hq);replace HSB:=Hd (Bk.q HSB.out hq);replace HRB:=Hd (Bk.q HRB.out hq);clear hq;have xHSB0:=HSB.out.cell 0 rfl;have xHSB1:=HSB.out.cell 1 rfl;have xHSB2:=HSB.out.cell 2 rfl;have xHSB3:=HSB.out.cell 3 rfl;go_wp2_with fail
   have HBW:=Hd (show bR < u51.heap.size from HRB.out.lt);have HBM:=Hd (show w.heap.size <= u51.heap.size from HQ.out.le);refine (HSTD.out _ HQ.out _ _).mono ?_;rintro e u52 ⟨x,rfl,hso,hq⟩;obtain ⟨p1,r1,p2,r2,rfl,ho1,ho2⟩:=hso;dsimp only at ho1 ho2 |-;rw [HK1.out] at ho1 |-;rw [HK2.out] at ho2 |-;have HO1L:=Hd ho1;have HO2L:=Hd ho2;clear ho1 ho2;replace HQ:=Hd (Q.trans HQ.out hq);replace HSB:=Hd (Bk.q HSB.out hq);replace HRB:=Hd (Bk.q HRB.out hq);clear hq;go_wp2_with (refine wpList_store_row (by rfl) 39 _ _ (by rfl) bR #[.bool g,.slice p1 n1 r1,.bool s,.slice p2 n2 r2,.int .i64 MT,.int .i64 MT] (by rfl) (by rfl) 39 _ HRB.out (by exact infoS) rfl (Rw.all1 (by rfl)) ?_)
   exact ret_st rfl rfl rfl rfl (Rw.Bk_row HRB.out [.bool g,.slice p1 n1 r1,.bool s,.slice p2 n2 r2,.int .i64 MT,.int .i64 MT]) rfl ⟨_,by rw [HR.out] <;> rfl,by rw [HR.out];exact SO.of ((own_rowE HO1L.out HBW.out _).mono HBM.out) ((own_rowE HO2L.out HBW.out _).mono HBM.out) HK1.out HK2.out,Rw.Q_row HQ.out HWbR.out _⟩
end Pe
end
end Go.Proofs.Ytnehhbobhnmbcaa
