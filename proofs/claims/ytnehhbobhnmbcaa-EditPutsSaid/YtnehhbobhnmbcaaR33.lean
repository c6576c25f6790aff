/- The program's edit: whether all atoms are selected; Put. (and more) -/
import Derived.Test.YtnehhbobhnmbcaaR29
set_option linter.all false
set_option maxRecDepth 100000
set_option maxHeartbeats 8000000
namespace Go.Proofs.Ytnehhbobhnmbcaa
section
open Go.RowKit
namespace Pe
open Ed Tm
open Re hiding ret_st infoS infoD may_any way_any sel_any tog_any mov_any ins_any word_right word_left
theorem whole_any (g s:Bool) (a1 a2:Option Addr) (n1 n2 c1 c2:Nat) (I F:List Int) (c a:Int) (w:World) (hi:Lst w (.slice a1 n1 c1) I) (hf:Lst w (.slice a2 n2 c2) F) (k1:I.length = n1) (k2:F.length = n2) (l1:n1 <= 100000) (l2:n2 <= 100000) (hm:mayS ⟨⟨g,I,s,F⟩,c,a⟩ = true) :
  Calls Try.prog 37 #[.agg #[.bool g,.slice a1 n1 c1,.bool s,.slice a2 n2 c2,.int .i64 c,.int .i64 a]] w fun e w'=>e = .returned (.bool (allSel ⟨⟨g,I,s,F⟩,c,a⟩)) /\ Q w w':=by
 have HSN:=Hd (fun u (q:Q w u)=>span_any g s a1 a2 n1 n2 c1 c2 I F c a u (hi.q q) (hf.q q) k1 k2 l1 l2);rw [spF_ok hm,spB_ok hm] at HSN;have HLN:=Hd (fun u=>Tp.len_any g s a1 a2 n1 n2 c1 c2 u l1 l2);have hb:=span_bd hm;have hln:len ⟨⟨g,I,s,F⟩,c,a⟩ = ((n1 + (sep s).length + n2:Nat):Int):=by
  unfold len;dsimp only;rw [ats_len];dsimp only;rw [k1,k2]
 have HA:=Hd (allSel_eq hm);rw [hln] at HA hb;have hnb:n1 + (sep s).length + n2 <= 200001:=by have:=sep_len s;omega
 generalize allSel ⟨⟨g,I,s,F⟩,c,a⟩ = AS at *;generalize fr ⟨⟨g,I,s,F⟩,c,a⟩ = FR at *;generalize bk ⟨⟨g,I,s,F⟩,c,a⟩ = BK at *;generalize n1 + (sep s).length + n2 = N at *;obtain ⟨b1,b2,b3⟩:=hb;clear hi hf k1 k2 hm hln;obtain ⟨y,hy⟩:∃ z,z = w.alloc (.cells #[.bool g,.slice a1 n1 c1,.bool s,.slice a2 n2 c2,.int .i64 c,.int .i64 a] 39):=⟨_,rfl⟩;have HQY:=Hd (show Q w y by rw [hy];exact (Q.refl w).alloc _);obtain ⟨bS,hbS⟩:∃ b,b = w.heap.size:=⟨_,rfl⟩;have HBY:=Hd (show Bk y bS 39 [.bool g,.slice a1 n1 c1,.bool s,.slice a2 n2 c2,.int .i64 c,.int .i64 a] by rw [hy,hbS];exact Bk.new _ _ _);go_enter Try.func37,Try.ntmps37
 go_upto_region 1 with fail
 rw [<- hy,<- hbS];clear hy hbS;go_wp2_with (refine wpList_load_row (by rfl) 39 _ (by rfl) bS (by rfl) 39 #[.bool g,.slice a1 n1 c1,.bool s,.slice a2 n2 c2,.int .i64 c,.int .i64 a] (0,0) _ HBY.out Try.underlying39 rfl (by exact infoS) ?_)
 refine (HSN.out _ HQY.out).mono ?_;rintro e u1 ⟨rfl,hq⟩;replace HQY:=Hd (Q.trans HQY.out hq);replace HBY:=Hd (Bk.q HBY.out hq);clear hq;have xHBY0:=HBY.out.cell 0 rfl;have xHBY1:=HBY.out.cell 1 rfl;have xHBY2:=HBY.out.cell 2 rfl;have xHBY3:=HBY.out.cell 3 rfl;have xHBY4:=HBY.out.cell 4 rfl;have xHBY5:=HBY.out.cell 5 rfl;by_cases hlt:FR < BK
 ·go_wp2_with fail
  refine (HLN.out _).mono ?_;rintro e y9 ⟨rfl,hq⟩;replace HQY:=Hd (HQY.out.trans hq);clear hq xHBY0 xHBY1 xHBY2 xHBY3 xHBY4 xHBY5;by_cases he:BK - FR = (N:Int)
  ·have heb:(BK - FR == (N:Int)) = true:=beq_iff_eq.2 he
   have HX:=Hd (show AS = true from by rw [<- HA.out,decide_eq_true hlt,decide_eq_true he];rfl);go_wp2_with fail
   go_ret
   exact ⟨by rw [HX.out] <;> rfl,HQY.out⟩
  ·have heb:(BK - FR == (N:Int)) = false:=beq_eq_false_iff_ne.2 he
   have HX:=Hd (show AS = false from by rw [<- HA.out,decide_eq_true hlt,decide_eq_false he];rfl);go_wp2_with fail
   go_ret
   exact ⟨by rw [HX.out] <;> rfl,HQY.out⟩
 ·have HX:=Hd (show AS = false from by rw [<- HA.out,decide_eq_false hlt];rfl)
  go_wp2_with fail
  go_ret
  exact ⟨by rw [HX.out] <;> rfl,HQY.out⟩
theorem put_any (g s:Bool) (a1 a2:Option Addr) (n1 n2 c1 c2:Nat) (I F:List Int) (c a:Int) (li lf:Int) (lg cg:Bool) (v1:Option Addr) (nA v2:Nat) (A:List Int) (w:World) (hi:Lst w (.slice a1 n1 c1) I) (hf:Lst w (.slice a2 n2 c2) F) (k1:I.length = n1) (k2:F.length = n2) (l1:n1 <= 100000) (l2:n2 <= 100000) (ha:Lst w (.slice v1 nA v2) A) (kA:A.length = nA) (la:nA <= 100000) :
  Calls Try.prog 14 #[.agg #[.bool g,.slice a1 n1 c1,.bool s,.slice a2 n2 c2,.int .i64 c,.int .i64 a],.agg #[.int .i64 li,.int .i64 lf,.bool lg],.agg #[.bool cg,.slice v1 nA v2]] w fun e w'=>∃ v,e = .returned (.tuple #[v,.int .i64 (put ⟨⟨g,I,s,F⟩,c,a⟩ ⟨li,lf,lg⟩ cg A).2]) /\ SO w' w.heap.size v (put ⟨⟨g,I,s,F⟩,c,a⟩ ⟨li,lf,lg⟩ cg A).1 /\ Q w w':=by
 have HIN:=Hd (fun u (q:Q w u)=>ins_any g s a1 a2 n1 n2 c1 c2 I F c a li lf lg (.slice v1 nA v2) A u (hi.q q) (hf.q q) k1 k2 l1 l2 (ha.q q) (by omega));have HSN:=Hd (fun u (q:Q w u) (h:mayS ⟨⟨g,I,s,F⟩,c,a⟩ = true)=>by
  have h9:=span_any g s a1 a2 n1 n2 c1 c2 I F c a u (hi.q q) (hf.q q) k1 k2 l1 l2;rw [spF_ok h,spB_ok h] at h9;exact h9)
 have HWH:=Hd (fun u (q:Q w u) (h:mayS ⟨⟨g,I,s,F⟩,c,a⟩ = true)=>whole_any g s a1 a2 n1 n2 c1 c2 I F c a u (hi.q q) (hf.q q) k1 k2 l1 l2 h);have HR:=Hd (show (put ⟨⟨g,I,s,F⟩,c,a⟩ ⟨li,lf,lg⟩ cg A) = if (ins ⟨⟨g,I,s,F⟩,c,a⟩ ⟨li,lf,lg⟩ A).2 = 0 then (if cg = true /\ (lg = false \/ 0 < fr ⟨⟨g,I,s,F⟩,c,a⟩) then (S0,5) else (⟨⟨cg || (g && !allSel ⟨⟨g,I,s,F⟩,c,a⟩),(ins ⟨⟨g,I,s,F⟩,c,a⟩ ⟨li,lf,lg⟩ A).1.d.i,(ins ⟨⟨g,I,s,F⟩,c,a⟩ ⟨li,lf,lg⟩ A).1.d.s,(ins ⟨⟨g,I,s,F⟩,c,a⟩ ⟨li,lf,lg⟩ A).1.d.f⟩,(ins ⟨⟨g,I,s,F⟩,c,a⟩ ⟨li,lf,lg⟩ A).1.c,(ins ⟨⟨g,I,s,F⟩,c,a⟩ ⟨li,lf,lg⟩ A).1.a⟩,0)) else (S0,(ins ⟨⟨g,I,s,F⟩,c,a⟩ ⟨li,lf,lg⟩ A).2) from rfl)
 have HGG:=Hd (show (ins ⟨⟨g,I,s,F⟩,c,a⟩ ⟨li,lf,lg⟩ A).2 = 0 -> mayS ⟨⟨g,I,s,F⟩,c,a⟩ = true /\ 0 <= fr ⟨⟨g,I,s,F⟩,c,a⟩ from fun h=>by
  obtain ⟨h1,_⟩:=ins_may h;exact ⟨h1,(span_bd h1).1⟩)
 generalize (put ⟨⟨g,I,s,F⟩,c,a⟩ ⟨li,lf,lg⟩ cg A) = RR at *;generalize (ins ⟨⟨g,I,s,F⟩,c,a⟩ ⟨li,lf,lg⟩ A) = IR at *;generalize allSel ⟨⟨g,I,s,F⟩,c,a⟩ = AS at *;generalize fr ⟨⟨g,I,s,F⟩,c,a⟩ = FR at *;generalize bk ⟨⟨g,I,s,F⟩,c,a⟩ = BK at *;generalize mayS ⟨⟨g,I,s,F⟩,c,a⟩ = M at *;obtain ⟨⟨⟨og,oI,os_,oF⟩,oc,oa⟩,er⟩:=IR;dsimp only at HR HGG HIN;clear hi hf k1 k2 ha;obtain ⟨y0,hy0⟩:∃ z,z = w.alloc (.cells #[.bool g,.slice a1 n1 c1,.bool s,.slice a2 n2 c2,.int .i64 c,.int .i64 a] 39):=⟨_,rfl⟩;have hq0:Q w y0:=by rw [hy0];exact (Q.refl _).alloc _
 have hs0:y0.heap.size = w.heap.size + 1:=by rw [hy0];simp
 have hc0:Bk y0 w.heap.size 39 [.bool g,.slice a1 n1 c1,.bool s,.slice a2 n2 c2,.int .i64 c,.int .i64 a]:=by rw [hy0];exact Bk.new _ _ _
 obtain ⟨y1,hy1⟩:∃ z,z = y0.alloc (.cells #[.int .i64 li,.int .i64 lf,.bool lg] 44):=⟨_,rfl⟩;have hq1:Q y0 y1:=by rw [hy1];exact (Q.refl _).alloc _
 have hs1:y1.heap.size = w.heap.size + 2:=by rw [hy1];simp;omega
 have hc1:Bk y1 y0.heap.size 44 [.int .i64 li,.int .i64 lf,.bool lg]:=by rw [hy1];exact Bk.new _ _ _
 rw [hs0] at hc1;obtain ⟨y2,hy2⟩:∃ z,z = y1.alloc (.cells #[.bool cg,.slice v1 nA v2] 45):=⟨_,rfl⟩;have hq2:Q y1 y2:=by rw [hy2];exact (Q.refl _).alloc _
 have hs2:y2.heap.size = w.heap.size + 3:=by rw [hy2];simp;omega
 have hc2:Bk y2 y1.heap.size 45 [.bool cg,.slice v1 nA v2]:=by rw [hy2];exact Bk.new _ _ _
 rw [hs1] at hc2;obtain ⟨y3,hy3⟩:∃ z,z = y2.alloc (.cells #[.bool false,.slice none 0 0,.bool false,.slice none 0 0,.int .i64 0,.int .i64 0] 39):=⟨_,rfl⟩;have hq3:Q y2 y3:=by rw [hy3];exact (Q.refl _).alloc _
 have hs3:y3.heap.size = w.heap.size + 4:=by rw [hy3];simp;omega
 have hc3:Bk y3 y2.heap.size 39 [.bool false,.slice none 0 0,.bool false,.slice none 0 0,.int .i64 0,.int .i64 0]:=by rw [hy3];exact Bk.new _ _ _
 rw [hs2] at hc3;have HQ:=Hd (hq0.trans (hq1.trans (hq2.trans hq3)));have HSB:=Hd (hc0.q (hq1.trans (hq2.trans hq3)));have HLB:=Hd (hc1.q (hq2.trans hq3));have HCB:=Hd (hc2.q hq3);have HRB:=Hd hc3;have hz2:y3 = (((w.alloc (.cells #[.bool g,.slice a1 n1 c1,.bool s,.slice a2 n2 c2,.int .i64 c,.int .i64 a] 39)).alloc (.cells #[.int .i64 li,.int .i64 lf,.bool lg] 44)).alloc (.cells #[.bool cg,.slice v1 nA v2] 45)).alloc (.cells #[.bool false,.slice none 0 0,.bool false,.slice none 0 0,.int .i64 0,.int .i64 0] 39):=by rw [hy3,hy2,hy1,hy0]
 obtain ⟨bS,hbbS⟩:∃ k,k = w.heap.size:=⟨_,rfl⟩;have HWbS:=Hd (show w.heap.size <= bS by omega);obtain ⟨bL,hbbL⟩:∃ k,k = w.heap.size + 1:=⟨_,rfl⟩;have HWbL:=Hd (show w.heap.size <= bL by omega);obtain ⟨bC,hbbC⟩:∃ k,k = w.heap.size + 2:=⟨_,rfl⟩;have HWbC:=Hd (show w.heap.size <= bC by omega);obtain ⟨bR,hbbR⟩:∃ k,k = w.heap.size + 3:=⟨_,rfl⟩;have HWbR:=Hd (show w.heap.size <= bR by omega);clear hq0 hs0 hc0 hy0 hq1 hs1 hc1 hy1 hq2 hs2 hc2 hy2 hq3 hs3 hc3 hy3;go_enter Try.func14,Try.ntmps14
 go_upto_region 1 with fail
 try rw [show w.heap.size + 1 + 1 + 1 = w.heap.size + 3 from rfl]
 try rw [show w.heap.size + 1 + 1 = w.heap.size + 2 from rfl]
 rw [<- hz2,<- hbbR,<- hbbC,<- hbbL,<- hbbS];rw [<- hbbS] at HSB;rw [<- hbbL] at HLB;rw [<- hbbC] at HCB;rw [<- hbbR] at HRB;clear hz2 hbbS hbbL hbbC hbbR;have xHCB1:=HCB.out.cell 1 rfl;go_wp2_with (first | (refine wpList_load_row (by rfl) 39 _ (by rfl) bS (by rfl) 39 #[.bool g,.slice a1 n1 c1,.bool s,.slice a2 n2 c2,.int .i64 c,.int .i64 a] (0,0) _ HSB.out Try.underlying39 rfl (by exact infoS) ?_) | (refine wpList_load_row (by rfl) 44 _ (by rfl) bL (by rfl) 44 #[.int .i64 li,.int .i64 lf,.bool lg] (0,0) _ HLB.out Try.underlying44 rfl (by exact infoL) ?_))
 clear xHCB1;have HBW:=Hd (show bR < y3.heap.size from HRB.out.lt);have HBM:=Hd (show w.heap.size <= y3.heap.size from HQ.out.le);refine (HIN.out _ HQ.out).mono ?_;rintro e u1 ⟨x,rfl,hso,hq⟩;obtain ⟨p1,r1,p2,r2,rfl,ho1,ho2⟩:=hso;dsimp only at ho1 ho2 |-;obtain ⟨m1,hm1⟩:∃ m,m = oI.length:=⟨_,rfl⟩;obtain ⟨m2,hm2⟩:∃ m,m = oF.length:=⟨_,rfl⟩;rw [<- hm1] at ho1;rw [<- hm2] at ho2;rw [<- hm1,<- hm2];have HO1L:=Hd ho1;have HO2L:=Hd ho2;have HM1L:=Hd hm1.symm;have HM2L:=Hd hm2.symm;clear ho1 ho2 hm1 hm2;replace HQ:=Hd (Q.trans HQ.out hq);replace HSB:=Hd (Bk.q HSB.out hq);replace HLB:=Hd (Bk.q HLB.out hq);replace HCB:=Hd (Bk.q HCB.out hq);replace HRB:=Hd (Bk.q HRB.out hq);clear hq;have HCP:=HCB;have HRP:=HRB;have HQP:=HQ;have HSP:=HSB;obtain ⟨u2,hwu2⟩:∃ z,z = u1.alloc (.cells #[.bool og,.slice p1 m1 r1,.bool os_,.slice p2 m2 r2,.int .i64 oc,.int .i64 oa] 39):=⟨_,rfl⟩;have hq:Q u1 u2:=by rw [hwu2];exact (Q.refl _).alloc _
 have HOB:=Hd (show Bk u2 u1.heap.size 39 [.bool og,.slice p1 m1 r1,.bool os_,.slice p2 m2 r2,.int .i64 oc,.int .i64 oa] by rw [hwu2];exact Bk.new _ _ _);obtain ⟨bO,hbbO⟩:∃ k,k = u1.heap.size:=⟨_,rfl⟩;rw [<- hbbO] at HOB;replace HQ:=Hd (Q.trans HQ.out hq);replace HSB:=Hd (Bk.q HSB.out hq);replace HLB:=Hd (Bk.q HLB.out hq);replace HCB:=Hd (Bk.q HCB.out hq);replace HRB:=Hd (Bk.q HRB.out hq);replace HO1L:=Hd (Own.q HO1L.out hq);replace HO2L:=Hd (Own.q HO2L.out hq);clear hq;go_upto_region 2 with fail
 have HND:=Hd (show bO ≠ bR /\ bO ≠ bC /\ bO ≠ bS /\ w.heap.size <= bO by rw [hbbO];have h1:=HRP.out.lt;have h2:=HCP.out.lt;have h3:=HQP.out.le;have h4:=HSP.out.lt;omega);rw [<- hwu2,<- hbbO];clear hwu2 hbbO;clear HCP HRP HQP HSP HIN;by_cases he:er = 0
 ·replace HR:=Hd (HR.out.trans (if_pos he))
  obtain ⟨hm,hfr⟩:=HGG.out he;subst he;subst hm;go_wp2_with (refine wpList_load_row (by rfl) 39 _ (by rfl) bS (by rfl) 39 #[.bool g,.slice a1 n1 c1,.bool s,.slice a2 n2 c2,.int .i64 c,.int .i64 a] (0,0) _ HSB.out Try.underlying39 rfl (by exact infoS) ?_)
  refine (HSN.out _ HQ.out (by first | rfl | trivial)).mono ?_;rintro e u61 ⟨rfl,hq⟩;replace HQ:=Hd (Q.trans HQ.out hq);replace HSB:=Hd (Bk.q HSB.out hq);replace HLB:=Hd (Bk.q HLB.out hq);replace HCB:=Hd (Bk.q HCB.out hq);replace HRB:=Hd (Bk.q HRB.out hq);replace HO1L:=Hd (Own.q HO1L.out hq);replace HO2L:=Hd (Own.q HO2L.out hq);replace HOB:=Hd (Bk.q HOB.out hq);clear hq;have xHCB0:=HCB.out.cell 0 rfl;have xHLB2:=HLB.out.cell 2 rfl;cases cg with
  | true =>
   cases lg with
   | false =>
    replace HR:=Hd (HR.out.trans (if_pos ⟨rfl,.inl rfl⟩));go_wp2_with (refine wpList_store_row (by rfl) 39 _ _ (by rfl) bR #[.bool false,.slice none 0 0,.bool false,.slice none 0 0,.int .i64 0,.int .i64 0] (by rfl) (by rfl) 39 _ HRB.out (by exact infoS) rfl (Rw.all1 (by rfl)) ?_)
    exact ret_st rfl rfl rfl rfl (Rw.Bk_row HRB.out [.bool false,.slice none 0 0,.bool false,.slice none 0 0,.int .i64 0,.int .i64 0]) rfl ⟨_,by rw [HR.out] <;> rfl,by rw [HR.out];exact SO.zero _ _,Rw.Q_row HQ.out HWbR.out _⟩
   | true =>
    by_cases hf0:FR = 0
    ·replace HR:=Hd (HR.out.trans (if_neg (fun h=>h.2.elim (fun e=>by cases e) (fun e=>by omega))))
     rw [Bool.true_or] at HR;subst hf0;have y0:=HOB.out.cell 0 rfl;have f0:=HOB.out.free 0;obtain ⟨q1,hvq1⟩:∃ z,z = u61.setCell ⟨bO,0,none⟩ (.bool (true)):=⟨_,rfl⟩;have hd9:Bk q1 bO 39 [.bool (true),.slice p1 m1 r1,.bool os_,.slice p2 m2 r2,.int .i64 oc,.int .i64 oa]:=by rw [hvq1];exact HOB.out.set 0 _
     replace HRB:=Hd (show Bk q1 bR 39 [.bool false,.slice none 0 0,.bool false,.slice none 0 0,.int .i64 0,.int .i64 0] by rw [hvq1];exact HRB.out.past HND.out.1 _);replace HQ:=Hd (show Q w q1 by rw [hvq1];exact Q.setCell HQ.out (ad:=⟨bO,0,none⟩) HND.out.2.2.2 _);replace HO1L:=Hd (show Own q1 _ (.slice p1 m1 r1) oI by rw [hvq1];exact Tm.Own_past HO1L.out HOB.out (by decide) 0 _);replace HO2L:=Hd (show Own q1 _ (.slice p2 m2 r2) oF by rw [hvq1];exact Tm.Own_past HO2L.out HOB.out (by decide) 0 _);replace HOB:=Hd hd9;clear hd9;go_upto_region 8 with fail
     rw [<- hvq1];clear hvq1 y0 f0;clear xHCB0 xHLB2;go_wp2_with (first | (refine wpList_load_row (by rfl) 39 _ (by rfl) bO (by rfl) 39 #[.bool (true),.slice p1 m1 r1,.bool os_,.slice p2 m2 r2,.int .i64 oc,.int .i64 oa] (0,0) _ HOB.out Try.underlying39 rfl (by exact infoS) ?_) | (refine wpList_store_row (by rfl) 39 _ _ (by rfl) bR #[.bool (true),.slice p1 m1 r1,.bool os_,.slice p2 m2 r2,.int .i64 oc,.int .i64 oa] (by rfl) (by rfl) 39 _ HRB.out (by exact infoS) rfl (Rw.all1 (by rfl)) ?_))
     exact ret_st rfl rfl rfl rfl (Rw.Bk_row HRB.out [.bool (true),.slice p1 m1 r1,.bool os_,.slice p2 m2 r2,.int .i64 oc,.int .i64 oa]) rfl ⟨_,by rw [HR.out] <;> rfl,by rw [HR.out];exact SO.of ((own_rowE HO1L.out HBW.out _).mono HBM.out) ((own_rowE HO2L.out HBW.out _).mono HBM.out) HM1L.out HM2L.out,Rw.Q_row HQ.out HWbR.out _⟩
    ·have hfb:(FR == 0) = false:=beq_eq_false_iff_ne.2 hf0
     replace HR:=Hd (HR.out.trans (if_pos ⟨rfl,.inr (by omega)⟩));go_wp2_with (refine wpList_store_row (by rfl) 39 _ _ (by rfl) bR #[.bool false,.slice none 0 0,.bool false,.slice none 0 0,.int .i64 0,.int .i64 0] (by rfl) (by rfl) 39 _ HRB.out (by exact infoS) rfl (Rw.all1 (by rfl)) ?_)
     exact ret_st rfl rfl rfl rfl (Rw.Bk_row HRB.out [.bool false,.slice none 0 0,.bool false,.slice none 0 0,.int .i64 0,.int .i64 0]) rfl ⟨_,by rw [HR.out] <;> rfl,by rw [HR.out];exact SO.zero _ _,Rw.Q_row HQ.out HWbR.out _⟩
  | false =>
   replace HR:=Hd (HR.out.trans (if_neg (fun h=>by cases h.1)));rw [Bool.false_or] at HR;cases g with
   | false =>
    rw [Bool.false_and] at HR;have xHSB0:=HSB.out.cell 0 rfl;have y0:=HOB.out.cell 0 rfl;have f0:=HOB.out.free 0;obtain ⟨q1,hvq1⟩:∃ z,z = u61.setCell ⟨bO,0,none⟩ (.bool (false)):=⟨_,rfl⟩;have hd9:Bk q1 bO 39 [.bool (false),.slice p1 m1 r1,.bool os_,.slice p2 m2 r2,.int .i64 oc,.int .i64 oa]:=by rw [hvq1];exact HOB.out.set 0 _
    replace HRB:=Hd (show Bk q1 bR 39 [.bool false,.slice none 0 0,.bool false,.slice none 0 0,.int .i64 0,.int .i64 0] by rw [hvq1];exact HRB.out.past HND.out.1 _);replace HQ:=Hd (show Q w q1 by rw [hvq1];exact Q.setCell HQ.out (ad:=⟨bO,0,none⟩) HND.out.2.2.2 _);replace HO1L:=Hd (show Own q1 _ (.slice p1 m1 r1) oI by rw [hvq1];exact Tm.Own_past HO1L.out HOB.out (by decide) 0 _);replace HO2L:=Hd (show Own q1 _ (.slice p2 m2 r2) oF by rw [hvq1];exact Tm.Own_past HO2L.out HOB.out (by decide) 0 _);replace HOB:=Hd hd9;clear hd9;go_upto_region 8 with fail
    rw [<- hvq1];clear hvq1 y0 f0;clear xHCB0 xHLB2 xHSB0;go_wp2_with (first | (refine wpList_load_row (by rfl) 39 _ (by rfl) bO (by rfl) 39 #[.bool (false),.slice p1 m1 r1,.bool os_,.slice p2 m2 r2,.int .i64 oc,.int .i64 oa] (0,0) _ HOB.out Try.underlying39 rfl (by exact infoS) ?_) | (refine wpList_store_row (by rfl) 39 _ _ (by rfl) bR #[.bool (false),.slice p1 m1 r1,.bool os_,.slice p2 m2 r2,.int .i64 oc,.int .i64 oa] (by rfl) (by rfl) 39 _ HRB.out (by exact infoS) rfl (Rw.all1 (by rfl)) ?_))
    exact ret_st rfl rfl rfl rfl (Rw.Bk_row HRB.out [.bool (false),.slice p1 m1 r1,.bool os_,.slice p2 m2 r2,.int .i64 oc,.int .i64 oa]) rfl ⟨_,by rw [HR.out] <;> rfl,by rw [HR.out];exact SO.of ((own_rowE HO1L.out HBW.out _).mono HBM.out) ((own_rowE HO2L.out HBW.out _).mono HBM.out) HM1L.out HM2L.out,Rw.Q_row HQ.out HWbR.out _⟩
   | true =>
    rw [Bool.true_and] at HR;have xHSB0:=HSB.out.cell 0 rfl;have xHSB1:=HSB.out.cell 1 rfl;have xHSB2:=HSB.out.cell 2 rfl;have xHSB3:=HSB.out.cell 3 rfl;have xHSB4:=HSB.out.cell 4 rfl;have xHSB5:=HSB.out.cell 5 rfl;go_wp2_with fail
    refine (HWH.out _ HQ.out (by first | rfl | trivial)).mono ?_;rintro e u81 ⟨rfl,hq⟩;replace HQ:=Hd (Q.trans HQ.out hq);replace HSB:=Hd (Bk.q HSB.out hq);replace HLB:=Hd (Bk.q HLB.out hq);replace HCB:=Hd (Bk.q HCB.out hq);replace HRB:=Hd (Bk.q HRB.out hq);replace HO1L:=Hd (Own.q HO1L.out hq);replace HO2L:=Hd (Own.q HO2L.out hq);replace HOB:=Hd (Bk.q HOB.out hq);clear hq;clear xHSB0 xHSB1 xHSB2 xHSB3 xHSB4 xHSB5;clear xHCB0 xHLB2;have y0:=HOB.out.cell 0 rfl;have f0:=HOB.out.free 0;obtain ⟨q2,hvq2⟩:∃ z,z = u81.setCell ⟨bO,0,none⟩ (.bool (!AS)):=⟨_,rfl⟩;have hd9:Bk q2 bO 39 [.bool (!AS),.slice p1 m1 r1,.bool os_,.slice p2 m2 r2,.int .i64 oc,.int .i64 oa]:=by rw [hvq2];exact HOB.out.set 0 _
    replace HRB:=Hd (show Bk q2 bR 39 [.bool false,.slice none 0 0,.bool false,.slice none 0 0,.int .i64 0,.int .i64 0] by rw [hvq2];exact HRB.out.past HND.out.1 _);replace HQ:=Hd (show Q w q2 by rw [hvq2];exact Q.setCell HQ.out (ad:=⟨bO,0,none⟩) HND.out.2.2.2 _);replace HO1L:=Hd (show Own q2 _ (.slice p1 m1 r1) oI by rw [hvq2];exact Tm.Own_past HO1L.out HOB.out (by decide) 0 _);replace HO2L:=Hd (show Own q2 _ (.slice p2 m2 r2) oF by rw [hvq2];exact Tm.Own_past HO2L.out HOB.out (by decide) 0 _);replace HOB:=Hd hd9;clear hd9;go_upto_region 8 with fail
    rw [<- hvq2];clear hvq2 y0 f0;clear HCB;go_wp2_with (first | (refine wpList_load_row (by rfl) 39 _ (by rfl) bO (by rfl) 39 #[.bool (!AS),.slice p1 m1 r1,.bool os_,.slice p2 m2 r2,.int .i64 oc,.int .i64 oa] (0,0) _ HOB.out Try.underlying39 rfl (by exact infoS) ?_) | (refine wpList_store_row (by rfl) 39 _ _ (by rfl) bR #[.bool (!AS),.slice p1 m1 r1,.bool os_,.slice p2 m2 r2,.int .i64 oc,.int .i64 oa] (by rfl) (by rfl) 39 _ HRB.out (by exact infoS) rfl (Rw.all1 (by rfl)) ?_))
    exact ret_st rfl rfl rfl rfl (Rw.Bk_row HRB.out [.bool (!AS),.slice p1 m1 r1,.bool os_,.slice p2 m2 r2,.int .i64 oc,.int .i64 oa]) rfl ⟨_,by rw [HR.out] <;> rfl,by rw [HR.out];exact SO.of ((own_rowE HO1L.out HBW.out _).mono HBM.out) ((own_rowE HO2L.out HBW.out _).mono HBM.out) HM1L.out HM2L.out,Rw.Q_row HQ.out HWbR.out _⟩
 ·have he':(er == 0) = false:=beq_eq_false_iff_ne.2 he
  replace HR:=Hd (HR.out.trans (if_neg he));go_wp2_with (refine wpList_store_row (by rfl) 39 _ _ (by rfl) bR #[.bool false,.slice none 0 0,.bool false,.slice none 0 0,.int .i64 0,.int .i64 0] (by rfl) (by rfl) 39 _ HRB.out (by exact infoS) rfl (Rw.all1 (by rfl)) ?_)
  exact ret_st rfl rfl rfl rfl (Rw.Bk_row HRB.out [.bool false,.slice none 0 0,.bool false,.slice none 0 0,.int .i64 0,.int .i64 0]) rfl ⟨_,by rw [HR.out] <;> rfl,by rw [HR.out];exact SO.zero _ _,Rw.Q_row HQ.out HWbR.out _⟩
end Pe
end
end Go.Proofs.Ytnehhbobhnmbcaa
