/- The program's edit: Erase. (and more) -/
import Derived.Test.YtnehhbobhnmbcaaR34
set_option linter.all false
set_option maxRecDepth 100000
set_option maxHeartbeats 8000000
namespace Go.Proofs.Ytnehhbobhnmbcaa
section
open Go.RowKit
namespace Pe
open Ed Tm
open Re hiding ret_st infoS infoD may_any way_any sel_any tog_any mov_any ins_any word_right word_left
theorem ers_any (g s:Bool) (a1 a2:Option Addr) (n1 n2 c1 c2:Nat) (I F:List Int) (c a:Int) (li lf:Int) (lg:Bool) (wh:Int) (w:World) (hi:Lst w (.slice a1 n1 c1) I) (hf:Lst w (.slice a2 n2 c2) F) (k1:I.length = n1) (k2:F.length = n2) (l1:n1 <= 100000) (l2:n2 <= 100000) :
  Calls Try.prog 20 #[.agg #[.bool g,.slice a1 n1 c1,.bool s,.slice a2 n2 c2,.int .i64 c,.int .i64 a],.agg #[.int .i64 li,.int .i64 lf,.bool lg],.int .i64 wh] w fun e w'=>∃ v,e = .returned (.tuple #[v,.int .i64 (ers ⟨⟨g,I,s,F⟩,c,a⟩ ⟨li,lf,lg⟩ wh).2]) /\ SO w' w.heap.size v (ers ⟨⟨g,I,s,F⟩,c,a⟩ ⟨li,lf,lg⟩ wh).1 /\ Q w w':=by
 have HMY:=Hd (fun u (q:Q w u)=>may_any g s a1 a2 n1 n2 c1 c2 I F c a u (hi.q q) (hf.q q) k1 k2 l1 l2);have HSN:=Hd (fun u (q:Q w u) (h:mayS ⟨⟨g,I,s,F⟩,c,a⟩ = true)=>by
  have h9:=span_any g s a1 a2 n1 n2 c1 c2 I F c a u (hi.q q) (hf.q q) k1 k2 l1 l2;rw [spF_ok h,spB_ok h] at h9;exact h9)
 have HAL:=Hd (fun u (q:Q w u)=>eraseAll_any g s a1 a2 n1 n2 c1 c2 I F c a li lf lg u (hi.q q) (hf.q q) k1 k2 l1 l2);have HRP:=Hd (fun u (q:Q w u) f b=>rep_any g s a1 a2 n1 n2 c1 c2 I F li lf lg f b (.slice none 0 0) [] u (hi.q q) (hf.q q) k1 k2 l1 l2 (Lst.nil _ _ _ (by unfold maxLen;omega) (fun _=>rfl)) (by simp));have HER:=Hd erasings_any;have HT0:=Hd (fun u (q:Q w u) (hm:mayS ⟨⟨g,I,s,F⟩,c,a⟩ = true)=>show Calls Try.prog 42 #[.agg #[.bool g,.slice a1 n1 c1,.bool s,.slice a2 n2 c2,.int .i64 c,.int .i64 a],.agg #[.func (.func 58) #[] #[]]] u fun e w'=>e = .returned (.tuple #[.int .i64 (min c (way ⟨⟨g,I,s,F⟩,c,a⟩ 0)),.int .i64 (max c (way ⟨⟨g,I,s,F⟩,c,a⟩ 0))]) /\ Q u w' from by
  have hc:=((mayS_iff _).1 hm).2.1;unfold len at hc;dsimp only at hc;obtain ⟨k,rfl⟩:∃ k:Nat,c = k:=⟨c.toNat,by omega⟩;exact taken_0 g s a1 a2 n1 n2 c1 c2 I F k a u (hi.q q) (hf.q q) k1 k2 l1 l2 (by omega))
 have HT1:=Hd (fun u (q:Q w u) (hm:mayS ⟨⟨g,I,s,F⟩,c,a⟩ = true)=>show Calls Try.prog 42 #[.agg #[.bool g,.slice a1 n1 c1,.bool s,.slice a2 n2 c2,.int .i64 c,.int .i64 a],.agg #[.func (.func 59) #[] #[]]] u fun e w'=>e = .returned (.tuple #[.int .i64 (min c (way ⟨⟨g,I,s,F⟩,c,a⟩ 1)),.int .i64 (max c (way ⟨⟨g,I,s,F⟩,c,a⟩ 1))]) /\ Q u w' from by
  have hc:=((mayS_iff _).1 hm).2.1;unfold len at hc;dsimp only at hc;obtain ⟨k,rfl⟩:∃ k:Nat,c = k:=⟨c.toNat,by omega⟩;exact taken_1 g s a1 a2 n1 n2 c1 c2 I F k a u (hi.q q) (hf.q q) k1 k2 l1 l2 (by omega))
 have HT2:=Hd (fun u (q:Q w u) (hm:mayS ⟨⟨g,I,s,F⟩,c,a⟩ = true)=>show Calls Try.prog 42 #[.agg #[.bool g,.slice a1 n1 c1,.bool s,.slice a2 n2 c2,.int .i64 c,.int .i64 a],.agg #[.func (.func 60) #[] #[]]] u fun e w'=>e = .returned (.tuple #[.int .i64 (min c (way ⟨⟨g,I,s,F⟩,c,a⟩ 2)),.int .i64 (max c (way ⟨⟨g,I,s,F⟩,c,a⟩ 2))]) /\ Q u w' from by
  have hc:=((mayS_iff _).1 hm).2.1;unfold len at hc;dsimp only at hc;obtain ⟨k,rfl⟩:∃ k:Nat,c = k:=⟨c.toNat,by omega⟩;exact taken_2 g s a1 a2 n1 n2 c1 c2 I F k a u (hi.q q) (hf.q q) k1 k2 l1 l2 (by omega))
 have HT3:=Hd (fun u (q:Q w u) (hm:mayS ⟨⟨g,I,s,F⟩,c,a⟩ = true)=>show Calls Try.prog 42 #[.agg #[.bool g,.slice a1 n1 c1,.bool s,.slice a2 n2 c2,.int .i64 c,.int .i64 a],.agg #[.func (.func 61) #[] #[]]] u fun e w'=>e = .returned (.tuple #[.int .i64 (min c (way ⟨⟨g,I,s,F⟩,c,a⟩ 3)),.int .i64 (max c (way ⟨⟨g,I,s,F⟩,c,a⟩ 3))]) /\ Q u w' from by
  have hc:=((mayS_iff _).1 hm).2.1;unfold len at hc;dsimp only at hc;obtain ⟨k,rfl⟩:∃ k:Nat,c = k:=⟨c.toNat,by omega⟩;exact taken_3 g s a1 a2 n1 n2 c1 c2 I F k a u (hi.q q) (hf.q q) k1 k2 l1 l2 (by omega))
 have HT4:=Hd (fun u (q:Q w u) (hm:mayS ⟨⟨g,I,s,F⟩,c,a⟩ = true)=>show Calls Try.prog 42 #[.agg #[.bool g,.slice a1 n1 c1,.bool s,.slice a2 n2 c2,.int .i64 c,.int .i64 a],.agg #[.func (.func 62) #[] #[]]] u fun e w'=>e = .returned (.tuple #[.int .i64 (min c (way ⟨⟨g,I,s,F⟩,c,a⟩ 4)),.int .i64 (max c (way ⟨⟨g,I,s,F⟩,c,a⟩ 4))]) /\ Q u w' from by
  have hc:=((mayS_iff _).1 hm).2.1;unfold len at hc;dsimp only at hc;obtain ⟨k,rfl⟩:∃ k:Nat,c = k:=⟨c.toNat,by omega⟩;exact taken_4 g s a1 a2 n1 n2 c1 c2 I F k a u (hi.q q) (hf.q q) k1 k2 l1 l2 (by omega))
 have HT5:=Hd (fun u (q:Q w u) (hm:mayS ⟨⟨g,I,s,F⟩,c,a⟩ = true)=>show Calls Try.prog 42 #[.agg #[.bool g,.slice a1 n1 c1,.bool s,.slice a2 n2 c2,.int .i64 c,.int .i64 a],.agg #[.func (.func 63) #[] #[]]] u fun e w'=>e = .returned (.tuple #[.int .i64 (min c (way ⟨⟨g,I,s,F⟩,c,a⟩ 5)),.int .i64 (max c (way ⟨⟨g,I,s,F⟩,c,a⟩ 5))]) /\ Q u w' from by
  have hc:=((mayS_iff _).1 hm).2.1;unfold len at hc;dsimp only at hc;obtain ⟨k,rfl⟩:∃ k:Nat,c = k:=⟨c.toNat,by omega⟩;exact taken_5 g s a1 a2 n1 n2 c1 c2 I F k a u (hi.q q) (hf.q q) k1 k2 l1 l2 (by omega))
 have HR0:=Hd (show ¬ (mayS ⟨⟨g,I,s,F⟩,c,a⟩ = true /\ 0 <= wh /\ wh <= 6) -> ers ⟨⟨g,I,s,F⟩,c,a⟩ ⟨li,lf,lg⟩ wh = (S0,1) from fun h=>if_neg h);have HR6:=Hd (show mayS ⟨⟨g,I,s,F⟩,c,a⟩ = true -> wh = 6 -> ers ⟨⟨g,I,s,F⟩,c,a⟩ ⟨li,lf,lg⟩ wh = era ⟨⟨g,I,s,F⟩,c,a⟩ ⟨li,lf,lg⟩ from fun h e=>by rw [e];exact era_eq h);have HRX:=Hd (show mayS ⟨⟨g,I,s,F⟩,c,a⟩ = true -> 0 <= wh -> wh < 6 -> ers ⟨⟨g,I,s,F⟩,c,a⟩ ⟨li,lf,lg⟩ wh = if tkF ⟨⟨g,I,s,F⟩,c,a⟩ wh = tkB ⟨⟨g,I,s,F⟩,c,a⟩ wh then (S0,7) else rep ⟨g,I,s,F⟩ ⟨li,lf,lg⟩ (tkF ⟨⟨g,I,s,F⟩,c,a⟩ wh) (tkB ⟨⟨g,I,s,F⟩,c,a⟩ wh) [] from ers_lt6)
 have HTK:=Hd (show wh < 6 -> tkF ⟨⟨g,I,s,F⟩,c,a⟩ wh = (if fr ⟨⟨g,I,s,F⟩,c,a⟩ = bk ⟨⟨g,I,s,F⟩,c,a⟩ then min c (way ⟨⟨g,I,s,F⟩,c,a⟩ wh) else fr ⟨⟨g,I,s,F⟩,c,a⟩) /\ tkB ⟨⟨g,I,s,F⟩,c,a⟩ wh = (if fr ⟨⟨g,I,s,F⟩,c,a⟩ = bk ⟨⟨g,I,s,F⟩,c,a⟩ then max c (way ⟨⟨g,I,s,F⟩,c,a⟩ wh) else bk ⟨⟨g,I,s,F⟩,c,a⟩) from tk_lt6)
 generalize ers ⟨⟨g,I,s,F⟩,c,a⟩ ⟨li,lf,lg⟩ wh = RR at *;generalize era ⟨⟨g,I,s,F⟩,c,a⟩ ⟨li,lf,lg⟩ = RA at *;generalize tkF ⟨⟨g,I,s,F⟩,c,a⟩ wh = TF at *;generalize tkB ⟨⟨g,I,s,F⟩,c,a⟩ wh = TB at *;generalize fr ⟨⟨g,I,s,F⟩,c,a⟩ = FR at *;generalize bk ⟨⟨g,I,s,F⟩,c,a⟩ = BK at *;generalize mayS ⟨⟨g,I,s,F⟩,c,a⟩ = M at *;obtain ⟨⟨⟨ogA,oIA,osA_,oFA⟩,ocA,oaA⟩,erA⟩:=RA;dsimp only at HAL;clear hi hf k1 k2;obtain ⟨y0,hy0⟩:∃ z,z = w.alloc (.cells #[.bool g,.slice a1 n1 c1,.bool s,.slice a2 n2 c2,.int .i64 c,.int .i64 a] 39):=⟨_,rfl⟩;have hq0:Q w y0:=by rw [hy0];exact (Q.refl _).alloc _
 have hs0:y0.heap.size = w.heap.size + 1:=by rw [hy0];simp
 have hc0:Bk y0 w.heap.size 39 [.bool g,.slice a1 n1 c1,.bool s,.slice a2 n2 c2,.int .i64 c,.int .i64 a]:=by rw [hy0];exact Bk.new _ _ _
 obtain ⟨y1,hy1⟩:∃ z,z = y0.alloc (.cells #[.int .i64 li,.int .i64 lf,.bool lg] 44):=⟨_,rfl⟩;have hq1:Q y0 y1:=by rw [hy1];exact (Q.refl _).alloc _
 have hs1:y1.heap.size = w.heap.size + 2:=by rw [hy1];simp;omega
 have hc1:Bk y1 y0.heap.size 44 [.int .i64 li,.int .i64 lf,.bool lg]:=by rw [hy1];exact Bk.new _ _ _
 rw [hs0] at hc1;obtain ⟨y2,hy2⟩:∃ z,z = y1.alloc (.cells #[.bool false,.slice none 0 0,.bool false,.slice none 0 0,.int .i64 0,.int .i64 0] 39):=⟨_,rfl⟩;have hq2:Q y1 y2:=by rw [hy2];exact (Q.refl _).alloc _
 have hs2:y2.heap.size = w.heap.size + 3:=by rw [hy2];simp;omega
 have hc2:Bk y2 y1.heap.size 39 [.bool false,.slice none 0 0,.bool false,.slice none 0 0,.int .i64 0,.int .i64 0]:=by rw [hy2];exact Bk.new _ _ _
 rw [hs1] at hc2;have HQ:=Hd (hq0.trans (hq1.trans hq2));have HSB:=Hd (hc0.q (hq1.trans hq2));have HLB:=Hd (hc1.q hq2);have HRB:=Hd hc2;have hz2:y2 = ((w.alloc (.cells #[.bool g,.slice a1 n1 c1,.bool s,.slice a2 n2 c2,.int .i64 c,.int .i64 a] 39)).alloc (.cells #[.int .i64 li,.int .i64 lf,.bool lg] 44)).alloc (.cells #[.bool false,.slice none 0 0,.bool false,.slice none 0 0,.int .i64 0,.int .i64 0] 39):=by rw [hy2,hy1,hy0]
 obtain ⟨bS,hbbS⟩:∃ k,k = w.heap.size:=⟨_,rfl⟩;have HWbS:=Hd (show w.heap.size <= bS by omega);obtain ⟨bL,hbbL⟩:∃ k,k = w.heap.size + 1:=⟨_,rfl⟩;have HWbL:=Hd (show w.heap.size <= bL by omega);obtain ⟨bR,hbbR⟩:∃ k,k = w.heap.size + 2:=⟨_,rfl⟩;have HWbR:=Hd (show w.heap.size <= bR by omega);clear hq0 hs0 hc0 hy0 hq1 hs1 hc1 hy1 hq2 hs2 hc2 hy2;go_enter Try.func20,Try.ntmps20
 go_upto_region 1 with fail
 try rw [show w.heap.size + 1 + 1 = w.heap.size + 2 from rfl]
 rw [<- hz2,<- hbbR,<- hbbL,<- hbbS];rw [<- hbbS] at HSB;rw [<- hbbL] at HLB;rw [<- hbbR] at HRB;clear hz2 hbbS hbbL hbbR;go_wp2_with (refine wpList_load_row (by rfl) 39 _ (by rfl) bS (by rfl) 39 #[.bool g,.slice a1 n1 c1,.bool s,.slice a2 n2 c2,.int .i64 c,.int .i64 a] (0,0) _ HSB.out Try.underlying39 rfl (by exact infoS) ?_)
 refine (HMY.out _ HQ.out).mono ?_;rintro e u1 ⟨rfl,hq⟩;replace HQ:=Hd (Q.trans HQ.out hq);replace HSB:=Hd (Bk.q HSB.out hq);replace HLB:=Hd (Bk.q HLB.out hq);replace HRB:=Hd (Bk.q HRB.out hq);clear hq;cases M with
 | false =>
  have HR:=Hd (HR0.out (fun h=>by cases h.1));go_wp2_with (refine wpList_store_row (by rfl) 39 _ _ (by rfl) bR #[.bool false,.slice none 0 0,.bool false,.slice none 0 0,.int .i64 0,.int .i64 0] (by rfl) (by rfl) 39 _ HRB.out (by exact infoS) rfl (Rw.all1 (by rfl)) ?_)
  exact ret_st rfl rfl rfl rfl (Rw.Bk_row HRB.out [.bool false,.slice none 0 0,.bool false,.slice none 0 0,.int .i64 0,.int .i64 0]) rfl ⟨_,by rw [HR.out] <;> rfl,by rw [HR.out];exact SO.zero _ _,Rw.Q_row HQ.out HWbR.out _⟩
 | true =>
  by_cases hh1:¬ 0 <= wh
  ·have HR:=Hd (HR0.out (fun e=>by omega))
   go_wp2_with (refine wpList_store_row (by rfl) 39 _ _ (by rfl) bR #[.bool false,.slice none 0 0,.bool false,.slice none 0 0,.int .i64 0,.int .i64 0] (by rfl) (by rfl) 39 _ HRB.out (by exact infoS) rfl (Rw.all1 (by rfl)) ?_)
   exact ret_st rfl rfl rfl rfl (Rw.Bk_row HRB.out [.bool false,.slice none 0 0,.bool false,.slice none 0 0,.int .i64 0,.int .i64 0]) rfl ⟨_,by rw [HR.out] <;> rfl,by rw [HR.out];exact SO.zero _ _,Rw.Q_row HQ.out HWbR.out _⟩
  by_cases hh2:¬ wh <= 6
  ·have HR:=Hd (HR0.out (fun e=>by omega))
   go_wp2_with (refine wpList_store_row (by rfl) 39 _ _ (by rfl) bR #[.bool false,.slice none 0 0,.bool false,.slice none 0 0,.int .i64 0,.int .i64 0] (by rfl) (by rfl) 39 _ HRB.out (by exact infoS) rfl (Rw.all1 (by rfl)) ?_)
   exact ret_st rfl rfl rfl rfl (Rw.Bk_row HRB.out [.bool false,.slice none 0 0,.bool false,.slice none 0 0,.int .i64 0,.int .i64 0]) rfl ⟨_,by rw [HR.out] <;> rfl,by rw [HR.out];exact SO.zero _ _,Rw.Q_row HQ.out HWbR.out _⟩
  have hh3:0 <= wh:=by omega
  have hh4:wh <= 6:=by omega
  clear hh1 hh2;by_cases h6:wh = 6
  ·have HR:=Hd (HR6.out (by first | rfl | trivial) h6)
   subst h6;go_wp2_with (first | (refine wpList_load_row (by rfl) 39 _ (by rfl) bS (by rfl) 39 #[.bool g,.slice a1 n1 c1,.bool s,.slice a2 n2 c2,.int .i64 c,.int .i64 a] (0,0) _ HSB.out Try.underlying39 rfl (by exact infoS) ?_) | (refine wpList_load_row (by rfl) 44 _ (by rfl) bL (by rfl) 44 #[.int .i64 li,.int .i64 lf,.bool lg] (0,0) _ HLB.out Try.underlying44 rfl (by exact infoL) ?_))
   have HBW:=Hd (show bR < u1.heap.size from HRB.out.lt);have HBM:=Hd (show w.heap.size <= u1.heap.size from HQ.out.le);refine (HAL.out _ HQ.out).mono ?_;rintro e u31 ⟨x,rfl,hso,hq⟩;obtain ⟨p1A,r1A,p2A,r2A,rfl,ho1,ho2⟩:=hso;dsimp only at ho1 ho2 |-;obtain ⟨m1A,hm1⟩:∃ m,m = oIA.length:=⟨_,rfl⟩;obtain ⟨m2A,hm2⟩:∃ m,m = oFA.length:=⟨_,rfl⟩;rw [<- hm1] at ho1;rw [<- hm2] at ho2;rw [<- hm1,<- hm2];have HO1A:=Hd ho1;have HO2A:=Hd ho2;have HM1A:=Hd hm1.symm;have HM2A:=Hd hm2.symm;clear ho1 ho2 hm1 hm2;replace HQ:=Hd (Q.trans HQ.out hq);replace HSB:=Hd (Bk.q HSB.out hq);replace HLB:=Hd (Bk.q HLB.out hq);replace HRB:=Hd (Bk.q HRB.out hq);clear hq;go_wp2_with (refine wpList_store_row (by rfl) 39 _ _ (by rfl) bR #[.bool ogA,.slice p1A m1A r1A,.bool osA_,.slice p2A m2A r2A,.int .i64 ocA,.int .i64 oaA] (by rfl) (by rfl) 39 _ HRB.out (by exact infoS) rfl (Rw.all1 (by rfl)) ?_)
   exact ret_st rfl rfl rfl rfl (Rw.Bk_row HRB.out [.bool ogA,.slice p1A m1A r1A,.bool osA_,.slice p2A m2A r2A,.int .i64 ocA,.int .i64 oaA]) rfl ⟨_,by rw [HR.out] <;> rfl,by rw [HR.out];exact SO.of ((own_rowE HO1A.out HBW.out _).mono HBM.out) ((own_rowE HO2A.out HBW.out _).mono HBM.out) HM1A.out HM2A.out,Rw.Q_row HQ.out HWbR.out _⟩
  have h6b:(wh == 6) = false:=beq_eq_false_iff_ne.2 h6;have h6l:wh < 6:=by omega
  have HR:=Hd (HRX.out (by first | rfl | trivial) hh3 h6l);have HTK2:=Hd (HTK.out h6l);clear HRX HR0 HR6 HTK HAL;go_wp2_with (refine wpList_load_row (by rfl) 39 _ (by rfl) bS (by rfl) 39 #[.bool g,.slice a1 n1 c1,.bool s,.slice a2 n2 c2,.int .i64 c,.int .i64 a] (0,0) _ HSB.out Try.underlying39 rfl (by exact infoS) ?_)
  refine (HSN.out _ HQ.out (by first | rfl | trivial)).mono ?_;rintro e u2 ⟨rfl,hq⟩;replace HQ:=Hd (Q.trans HQ.out hq);replace HSB:=Hd (Bk.q HSB.out hq);replace HLB:=Hd (Bk.q HLB.out hq);replace HRB:=Hd (Bk.q HRB.out hq);clear hq;go_upto_if 36 with fail
  go_cut [8,9] (fun x y wx=>x = .int .i64 TF /\ y = .int .i64 TB /\ Q w wx /\ Bk wx bS 39 [.bool g,.slice a1 n1 c1,.bool s,.slice a2 n2 c2,.int .i64 c,.int .i64 a] /\ Bk wx bL 44 [.int .i64 li,.int .i64 lf,.bool lg] /\ Bk wx bR 39 [.bool false,.slice none 0 0,.bool false,.slice none 0 0,.int .i64 0,.int .i64 0])
  case first =>
   by_cases hfb:FR = BK
   ·subst hfb
    obtain ⟨z1,z2⟩:=HTK2.out;rw [if_pos rfl] at z1 z2;have Z1:=Hd z1;have Z2:=Hd z2;clear z1 z2 HTK2;have hbt:(FR == FR) = true:=by simp
    have hwc:wh = 0 \/ wh = 1 \/ wh = 2 \/ wh = 3 \/ wh = 4 \/ wh = 5:=by omega
    rcases hwc with rfl | rfl | rfl | rfl | rfl | rfl
    ·go_upto_region 7 with fail
     refine wp_region_held_drew (S:=fun u=>Q u2 u) (by kernel_rfl) (by exact (Q.refl u2).drew) (fun hHeld=>?_);have hS:Q u2 u2.drew:=hHeld;clear hHeld;have hq:Q u2 u2.drew:=(Q.refl _).drew;clear hq;generalize u2.drew = yR7x0 at *;change wpAnyH _ _ _ _ _ _ #[ff,ff,ff,ff,ff,ff,ff,ff,ff,ff,ff] _ _;refine tk 0 (by simp only [gA,gB,gC];rfl) (by first | kernel_rfl | rfl) (fun uz hSw=>by (try dsimp only at hSw);refine ld_row (x:=.tmp 3) ?_ ?_ (Bk.q HSB.out hSw) Try.underlying39 (by exact infoS) <;> rfl) pq hS ?_
     try simp only [Act.put,sA,sB,sC]
     refine tk 2 (by simp only [gA,gB,gC];rfl) (by first | kernel_rfl | rfl) (fun uz _=>by go_simp;try with_reducible rfl) pq hS ?_;try simp only [Act.put,sA,sB,sC]
     refine wpAnyH_ready (rs:=[1]) (by kernel_rfl) (by simp) ?_;refine ar (by (try simp only [gA,gB,gC]);rfl) fun K hK=>?_;go_simp
     refine (HER.out _).mono ?_;rintro e yR7x3 ⟨rfl,hb,hq⟩;have HE9:=Hd hb;clear hb;generalize yR7x0.heap.size = bE at *;try (go_wp2_with fail)
     have hS2:=Q.trans hS hq;refine hK.out _ _ (by exact hS2) (fun hHeld=>?_);clear hK K hHeld hS hq;have hS:=hS2;clear hS2;try simp only [Act.put,sA,sB,sC]
     refine tk 3 (by simp only [gA,gB,gC];rfl) (by first | kernel_rfl | rfl) (fun uz _=>by go_simp;try with_reducible rfl) pq hS ?_;try simp only [Act.put,sA,sB,sC]
     refine wpAnyH_ready (rs:=[4]) (by kernel_rfl) (by simp) ?_;refine ar (by (try simp only [gA,gB,gC]);rfl) fun K hK=>?_;have q9:=HE9.out.cell 0 rfl;go_simp
     refine hK.out _ _ (by exact hS) (fun hHeld=>?_);clear hK K hHeld q9;try simp only [Act.put,sA,sB,sC]
     refine wpAnyH_ready (rs:=[5]) (by kernel_rfl) (by simp) ?_;refine ar (by (try simp only [gA,gB,gC]);rfl) fun K hK=>?_;go_simp
     refine (HT0.out _ (HQ.out.trans hS) (by first | rfl | trivial)).mono ?_;rintro e yR7x5 ⟨rfl,hq⟩;try (go_wp2_with fail)
     have HE9:=Hd (Bk.q HE9.out hq);have hS2:=Q.trans hS hq;refine hK.out _ _ (by exact hS2) (fun hHeld=>?_);clear hK K hHeld hS hq;have hS:=hS2;clear hS2;try simp only [Act.put,sA,sB,sC]
     refine tk 6 (by simp only [gA,gB,gC];rfl) (by first | kernel_rfl | rfl) (fun uz _=>by go_simp;try with_reducible rfl) pq hS ?_;try simp only [Act.put,sA,sB,sC]
     refine tk 7 (by simp only [gA,gB,gC];rfl) (by first | kernel_rfl | rfl) (fun uz _=>by go_simp;try with_reducible rfl) pq hS ?_;try simp only [Act.put,sA,sB,sC]
     refine tk 8 (by simp only [gA,gB,gC];rfl) (by first | kernel_rfl | rfl) (fun uz _=>by go_simp;try with_reducible rfl) pq hS ?_;try simp only [Act.put,sA,sB,sC]
     refine tk 9 (by simp only [gA,gB,gC];rfl) (by first | kernel_rfl | rfl) (fun uz _=>by go_simp;try with_reducible rfl) pq hS ?_;try simp only [Act.put,sA,sB,sC]
     refine tk 10 (by simp only [gA,gB,gC];rfl) (by first | kernel_rfl | rfl) (fun uz _=>by go_simp;try with_reducible rfl) pq hS ?_;try simp only [Act.put,sA,sB,sC]
     refine wpAnyH_done (by kernel_rfl) ?_ _;have HQ9:=Hd (show Q u2 _ from hS);clear hS;go_wp2_with fail
     go_meet
     exact ⟨by rw [Z1.out] <;> rfl,by rw [Z2.out] <;> rfl,HQ.out.trans HQ9.out,HSB.out.q HQ9.out,HLB.out.q HQ9.out,HRB.out.q HQ9.out⟩
    ·go_upto_region 7 with fail
     refine wp_region_held_drew (S:=fun u=>Q u2 u) (by kernel_rfl) (by exact (Q.refl u2).drew) (fun hHeld=>?_);have hS:Q u2 u2.drew:=hHeld;clear hHeld;have hq:Q u2 u2.drew:=(Q.refl _).drew;clear hq;generalize u2.drew = yR8x0 at *;change wpAnyH _ _ _ _ _ _ #[ff,ff,ff,ff,ff,ff,ff,ff,ff,ff,ff] _ _;refine tk 0 (by simp only [gA,gB,gC];rfl) (by first | kernel_rfl | rfl) (fun uz hSw=>by (try dsimp only at hSw);refine ld_row (x:=.tmp 3) ?_ ?_ (Bk.q HSB.out hSw) Try.underlying39 (by exact infoS) <;> rfl) pq hS ?_
     try simp only [Act.put,sA,sB,sC]
     refine tk 2 (by simp only [gA,gB,gC];rfl) (by first | kernel_rfl | rfl) (fun uz _=>by go_simp;try with_reducible rfl) pq hS ?_;try simp only [Act.put,sA,sB,sC]
     refine wpAnyH_ready (rs:=[1]) (by kernel_rfl) (by simp) ?_;refine ar (by (try simp only [gA,gB,gC]);rfl) fun K hK=>?_;go_simp
     refine (HER.out _).mono ?_;rintro e yR8x3 ⟨rfl,hb,hq⟩;have HE9:=Hd hb;clear hb;generalize yR8x0.heap.size = bE at *;try (go_wp2_with fail)
     have hS2:=Q.trans hS hq;refine hK.out _ _ (by exact hS2) (fun hHeld=>?_);clear hK K hHeld hS hq;have hS:=hS2;clear hS2;try simp only [Act.put,sA,sB,sC]
     refine tk 3 (by simp only [gA,gB,gC];rfl) (by first | kernel_rfl | rfl) (fun uz _=>by go_simp;try with_reducible rfl) pq hS ?_;try simp only [Act.put,sA,sB,sC]
     refine wpAnyH_ready (rs:=[4]) (by kernel_rfl) (by simp) ?_;refine ar (by (try simp only [gA,gB,gC]);rfl) fun K hK=>?_;have q9:=HE9.out.cell 1 rfl;go_simp
     refine hK.out _ _ (by exact hS) (fun hHeld=>?_);clear hK K hHeld q9;try simp only [Act.put,sA,sB,sC]
     refine wpAnyH_ready (rs:=[5]) (by kernel_rfl) (by simp) ?_;refine ar (by (try simp only [gA,gB,gC]);rfl) fun K hK=>?_;go_simp
     refine (HT1.out _ (HQ.out.trans hS) (by first | rfl | trivial)).mono ?_;rintro e yR8x5 ⟨rfl,hq⟩;try (go_wp2_with fail)
     have HE9:=Hd (Bk.q HE9.out hq);have hS2:=Q.trans hS hq;refine hK.out _ _ (by exact hS2) (fun hHeld=>?_);clear hK K hHeld hS hq;have hS:=hS2;clear hS2;try simp only [Act.put,sA,sB,sC]
     refine tk 6 (by simp only [gA,gB,gC];rfl) (by first | kernel_rfl | rfl) (fun uz _=>by go_simp;try with_reducible rfl) pq hS ?_;try simp only [Act.put,sA,sB,sC]
     refine tk 7 (by simp only [gA,gB,gC];rfl) (by first | kernel_rfl | rfl) (fun uz _=>by go_simp;try with_reducible rfl) pq hS ?_;try simp only [Act.put,sA,sB,sC]
     refine tk 8 (by simp only [gA,gB,gC];rfl) (by first | kernel_rfl | rfl) (fun uz _=>by go_simp;try with_reducible rfl) pq hS ?_;try simp only [Act.put,sA,sB,sC]
     refine tk 9 (by simp only [gA,gB,gC];rfl) (by first | kernel_rfl | rfl) (fun uz _=>by go_simp;try with_reducible rfl) pq hS ?_;try simp only [Act.put,sA,sB,sC]
     refine tk 10 (by simp only [gA,gB,gC];rfl) (by first | kernel_rfl | rfl) (fun uz _=>by go_simp;try with_reducible rfl) pq hS ?_;try simp only [Act.put,sA,sB,sC]
     refine wpAnyH_done (by kernel_rfl) ?_ _;have HQ9:=Hd (show Q u2 _ from hS);clear hS;go_wp2_with fail
     go_meet
     exact ⟨by rw [Z1.out] <;> rfl,by rw [Z2.out] <;> rfl,HQ.out.trans HQ9.out,HSB.out.q HQ9.out,HLB.out.q HQ9.out,HRB.out.q HQ9.out⟩
    ·go_upto_region 7 with fail
     refine wp_region_held_drew (S:=fun u=>Q u2 u) (by kernel_rfl) (by exact (Q.refl u2).drew) (fun hHeld=>?_);have hS:Q u2 u2.drew:=hHeld;clear hHeld;have hq:Q u2 u2.drew:=(Q.refl _).drew;clear hq;generalize u2.drew = yR9x0 at *;change wpAnyH _ _ _ _ _ _ #[ff,ff,ff,ff,ff,ff,ff,ff,ff,ff,ff] _ _;refine tk 0 (by simp only [gA,gB,gC];rfl) (by first | kernel_rfl | rfl) (fun uz hSw=>by (try dsimp only at hSw);refine ld_row (x:=.tmp 3) ?_ ?_ (Bk.q HSB.out hSw) Try.underlying39 (by exact infoS) <;> rfl) pq hS ?_
     try simp only [Act.put,sA,sB,sC]
     refine tk 2 (by simp only [gA,gB,gC];rfl) (by first | kernel_rfl | rfl) (fun uz _=>by go_simp;try with_reducible rfl) pq hS ?_;try simp only [Act.put,sA,sB,sC]
     refine wpAnyH_ready (rs:=[1]) (by kernel_rfl) (by simp) ?_;refine ar (by (try simp only [gA,gB,gC]);rfl) fun K hK=>?_;go_simp
     refine (HER.out _).mono ?_;rintro e yR9x3 ⟨rfl,hb,hq⟩;have HE9:=Hd hb;clear hb;generalize yR9x0.heap.size = bE at *;try (go_wp2_with fail)
     have hS2:=Q.trans hS hq;refine hK.out _ _ (by exact hS2) (fun hHeld=>?_);clear hK K hHeld hS hq;have hS:=hS2;clear hS2;try simp only [Act.put,sA,sB,sC]
     refine tk 3 (by simp only [gA,gB,gC];rfl) (by first | kernel_rfl | rfl) (fun uz _=>by go_simp;try with_reducible rfl) pq hS ?_;try simp only [Act.put,sA,sB,sC]
     refine wpAnyH_ready (rs:=[4]) (by kernel_rfl) (by simp) ?_;refine ar (by (try simp only [gA,gB,gC]);rfl) fun K hK=>?_;have q9:=HE9.out.cell 2 rfl;go_simp
     refine hK.out _ _ (by exact hS) (fun hHeld=>?_);clear hK K hHeld q9;try simp only [Act.put,sA,sB,sC]
     refine wpAnyH_ready (rs:=[5]) (by kernel_rfl) (by simp) ?_;refine ar (by (try simp only [gA,gB,gC]);rfl) fun K hK=>?_;go_simp
     refine (HT2.out _ (HQ.out.trans hS) (by first | rfl | trivial)).mono ?_;rintro e yR9x5 ⟨rfl,hq⟩;try (go_wp2_with fail)
     have HE9:=Hd (Bk.q HE9.out hq);have hS2:=Q.trans hS hq;refine hK.out _ _ (by exact hS2) (fun hHeld=>?_);clear hK K hHeld hS hq;have hS:=hS2;clear hS2;try simp only [Act.put,sA,sB,sC]
     refine tk 6 (by simp only [gA,gB,gC];rfl) (by first | kernel_rfl | rfl) (fun uz _=>by go_simp;try with_reducible rfl) pq hS ?_;try simp only [Act.put,sA,sB,sC]
     refine tk 7 (by simp only [gA,gB,gC];rfl) (by first | kernel_rfl | rfl) (fun uz _=>by go_simp;try with_reducible rfl) pq hS ?_;try simp only [Act.put,sA,sB,sC]
     refine tk 8 (by simp only [gA,gB,gC];rfl) (by first | kernel_rfl | rfl) (fun uz _=>by go_simp;try with_reducible rfl) pq hS ?_;try simp only [Act.put,sA,sB,sC]
     refine tk 9 (by simp only [gA,gB,gC];rfl) (by first | kernel_rfl | rfl) (fun uz _=>by go_simp;try with_reducible rfl) pq hS ?_;try simp only [Act.put,sA,sB,sC]
     refine tk 10 (by simp only [gA,gB,gC];rfl) (by first | kernel_rfl | rfl) (fun uz _=>by go_simp;try with_reducible rfl) pq hS ?_;try simp only [Act.put,sA,sB,sC]
     refine wpAnyH_done (by kernel_rfl) ?_ _;have HQ9:=Hd (show Q u2 _ from hS);clear hS;go_wp2_with fail
     go_meet
     exact ⟨by rw [Z1.out] <;> rfl,by rw [Z2.out] <;> rfl,HQ.out.trans HQ9.out,HSB.out.q HQ9.out,HLB.out.q HQ9.out,HRB.out.q HQ9.out⟩
    ·go_upto_region 7 with fail
     refine wp_region_held_drew (S:=fun u=>Q u2 u) (by kernel_rfl) (by exact (Q.refl u2).drew) (fun hHeld=>?_);have hS:Q u2 u2.drew:=hHeld;clear hHeld;have hq:Q u2 u2.drew:=(Q.refl _).drew;clear hq;generalize u2.drew = yR10x0 at *;change wpAnyH _ _ _ _ _ _ #[ff,ff,ff,ff,ff,ff,ff,ff,ff,ff,ff] _ _;refine tk 0 (by simp only [gA,gB,gC];rfl) (by first | kernel_rfl | rfl) (fun uz hSw=>by (try dsimp only at hSw);refine ld_row (x:=.tmp 3) ?_ ?_ (Bk.q HSB.out hSw) Try.underlying39 (by exact infoS) <;> rfl) pq hS ?_
     try simp only [Act.put,sA,sB,sC]
     refine tk 2 (by simp only [gA,gB,gC];rfl) (by first | kernel_rfl | rfl) (fun uz _=>by go_simp;try with_reducible rfl) pq hS ?_;try simp only [Act.put,sA,sB,sC]
     refine wpAnyH_ready (rs:=[1]) (by kernel_rfl) (by simp) ?_;refine ar (by (try simp only [gA,gB,gC]);rfl) fun K hK=>?_;go_simp
     refine (HER.out _).mono ?_;rintro e yR10x3 ⟨rfl,hb,hq⟩;have HE9:=Hd hb;clear hb;generalize yR10x0.heap.size = bE at *;try (go_wp2_with fail)
     have hS2:=Q.trans hS hq;refine hK.out _ _ (by exact hS2) (fun hHeld=>?_);clear hK K hHeld hS hq;have hS:=hS2;clear hS2;try simp only [Act.put,sA,sB,sC]
     refine tk 3 (by simp only [gA,gB,gC];rfl) (by first | kernel_rfl | rfl) (fun uz _=>by go_simp;try with_reducible rfl) pq hS ?_;try simp only [Act.put,sA,sB,sC]
     refine wpAnyH_ready (rs:=[4]) (by kernel_rfl) (by simp) ?_;refine ar (by (try simp only [gA,gB,gC]);rfl) fun K hK=>?_;have q9:=HE9.out.cell 3 rfl;go_simp
     refine hK.out _ _ (by exact hS) (fun hHeld=>?_);clear hK K hHeld q9;try simp only [Act.put,sA,sB,sC]
     refine wpAnyH_ready (rs:=[5]) (by kernel_rfl) (by simp) ?_;refine ar (by (try simp only [gA,gB,gC]);rfl) fun K hK=>?_;go_simp
     refine (HT3.out _ (HQ.out.trans hS) (by first | rfl | trivial)).mono ?_;rintro e yR10x5 ⟨rfl,hq⟩;try (go_wp2_with fail)
     have HE9:=Hd (Bk.q HE9.out hq);have hS2:=Q.trans hS hq;refine hK.out _ _ (by exact hS2) (fun hHeld=>?_);clear hK K hHeld hS hq;have hS:=hS2;clear hS2;try simp only [Act.put,sA,sB,sC]
     refine tk 6 (by simp only [gA,gB,gC];rfl) (by first | kernel_rfl | rfl) (fun uz _=>by go_simp;try with_reducible rfl) pq hS ?_;try simp only [Act.put,sA,sB,sC]
     refine tk 7 (by simp only [gA,gB,gC];rfl) (by first | kernel_rfl | rfl) (fun uz _=>by go_simp;try with_reducible rfl) pq hS ?_;try simp only [Act.put,sA,sB,sC]
     refine tk 8 (by simp only [gA,gB,gC];rfl) (by first | kernel_rfl | rfl) (fun uz _=>by go_simp;try with_reducible rfl) pq hS ?_;try simp only [Act.put,sA,sB,sC]
     refine tk 9 (by simp only [gA,gB,gC];rfl) (by first | kernel_rfl | rfl) (fun uz _=>by go_simp;try with_reducible rfl) pq hS ?_;try simp only [Act.put,sA,sB,sC]
     refine tk 10 (by simp only [gA,gB,gC];rfl) (by first | kernel_rfl | rfl) (fun uz _=>by go_simp;try with_reducible rfl) pq hS ?_;try simp only [Act.put,sA,sB,sC]
     refine wpAnyH_done (by kernel_rfl) ?_ _;have HQ9:=Hd (show Q u2 _ from hS);clear hS;go_wp2_with fail
     go_meet
     exact ⟨by rw [Z1.out] <;> rfl,by rw [Z2.out] <;> rfl,HQ.out.trans HQ9.out,HSB.out.q HQ9.out,HLB.out.q HQ9.out,HRB.out.q HQ9.out⟩
    ·go_upto_region 7 with fail
     refine wp_region_held_drew (S:=fun u=>Q u2 u) (by kernel_rfl) (by exact (Q.refl u2).drew) (fun hHeld=>?_);have hS:Q u2 u2.drew:=hHeld;clear hHeld;have hq:Q u2 u2.drew:=(Q.refl _).drew;clear hq;generalize u2.drew = yR11x0 at *;change wpAnyH _ _ _ _ _ _ #[ff,ff,ff,ff,ff,ff,ff,ff,ff,ff,ff] _ _;refine tk 0 (by simp only [gA,gB,gC];rfl) (by first | kernel_rfl | rfl) (fun uz hSw=>by (try dsimp only at hSw);refine ld_row (x:=.tmp 3) ?_ ?_ (Bk.q HSB.out hSw) Try.underlying39 (by exact infoS) <;> rfl) pq hS ?_
     try simp only [Act.put,sA,sB,sC]
     refine tk 2 (by simp only [gA,gB,gC];rfl) (by first | kernel_rfl | rfl) (fun uz _=>by go_simp;try with_reducible rfl) pq hS ?_;try simp only [Act.put,sA,sB,sC]
     refine wpAnyH_ready (rs:=[1]) (by kernel_rfl) (by simp) ?_;refine ar (by (try simp only [gA,gB,gC]);rfl) fun K hK=>?_;go_simp
     refine (HER.out _).mono ?_;rintro e yR11x3 ⟨rfl,hb,hq⟩;have HE9:=Hd hb;clear hb;generalize yR11x0.heap.size = bE at *;try (go_wp2_with fail)
     have hS2:=Q.trans hS hq;refine hK.out _ _ (by exact hS2) (fun hHeld=>?_);clear hK K hHeld hS hq;have hS:=hS2;clear hS2;try simp only [Act.put,sA,sB,sC]
     refine tk 3 (by simp only [gA,gB,gC];rfl) (by first | kernel_rfl | rfl) (fun uz _=>by go_simp;try with_reducible rfl) pq hS ?_;try simp only [Act.put,sA,sB,sC]
     refine wpAnyH_ready (rs:=[4]) (by kernel_rfl) (by simp) ?_;refine ar (by (try simp only [gA,gB,gC]);rfl) fun K hK=>?_;have q9:=HE9.out.cell 4 rfl;go_simp
     refine hK.out _ _ (by exact hS) (fun hHeld=>?_);clear hK K hHeld q9;try simp only [Act.put,sA,sB,sC]
     refine wpAnyH_ready (rs:=[5]) (by kernel_rfl) (by simp) ?_;refine ar (by (try simp only [gA,gB,gC]);rfl) fun K hK=>?_;go_simp
     refine (HT4.out _ (HQ.out.trans hS) (by first | rfl | trivial)).mono ?_;rintro e yR11x5 ⟨rfl,hq⟩;try (go_wp2_with fail)
     have HE9:=Hd (Bk.q HE9.out hq);have hS2:=Q.trans hS hq;refine hK.out _ _ (by exact hS2) (fun hHeld=>?_);clear hK K hHeld hS hq;have hS:=hS2;clear hS2;try simp only [Act.put,sA,sB,sC]
     refine tk 6 (by simp only [gA,gB,gC];rfl) (by first | kernel_rfl | rfl) (fun uz _=>by go_simp;try with_reducible rfl) pq hS ?_;try simp only [Act.put,sA,sB,sC]
     refine tk 7 (by simp only [gA,gB,gC];rfl) (by first | kernel_rfl | rfl) (fun uz _=>by go_simp;try with_reducible rfl) pq hS ?_;try simp only [Act.put,sA,sB,sC]
     refine tk 8 (by simp only [gA,gB,gC];rfl) (by first | kernel_rfl | rfl) (fun uz _=>by go_simp;try with_reducible rfl) pq hS ?_;try simp only [Act.put,sA,sB,sC]
     refine tk 9 (by simp only [gA,gB,gC];rfl) (by first | kernel_rfl | rfl) (fun uz _=>by go_simp;try with_reducible rfl) pq hS ?_;try simp only [Act.put,sA,sB,sC]
     refine tk 10 (by simp only [gA,gB,gC];rfl) (by first | kernel_rfl | rfl) (fun uz _=>by go_simp;try with_reducible rfl) pq hS ?_;try simp only [Act.put,sA,sB,sC]
     refine wpAnyH_done (by kernel_rfl) ?_ _;have HQ9:=Hd (show Q u2 _ from hS);clear hS;go_wp2_with fail
     go_meet
     exact ⟨by rw [Z1.out] <;> rfl,by rw [Z2.out] <;> rfl,HQ.out.trans HQ9.out,HSB.out.q HQ9.out,HLB.out.q HQ9.out,HRB.out.q HQ9.out⟩
    ·go_upto_region 7 with fail
     refine wp_region_held_drew (S:=fun u=>Q u2 u) (by kernel_rfl) (by exact (Q.refl u2).drew) (fun hHeld=>?_);have hS:Q u2 u2.drew:=hHeld;clear hHeld;have hq:Q u2 u2.drew:=(Q.refl _).drew;clear hq;generalize u2.drew = yR12x0 at *;change wpAnyH _ _ _ _ _ _ #[ff,ff,ff,ff,ff,ff,ff,ff,ff,ff,ff] _ _;refine tk 0 (by simp only [gA,gB,gC];rfl) (by first | kernel_rfl | rfl) (fun uz hSw=>by (try dsimp only at hSw);refine ld_row (x:=.tmp 3) ?_ ?_ (Bk.q HSB.out hSw) Try.underlying39 (by exact infoS) <;> rfl) pq hS ?_
     try simp only [Act.put,sA,sB,sC]
     refine tk 2 (by simp only [gA,gB,gC];rfl) (by first | kernel_rfl | rfl) (fun uz _=>by go_simp;try with_reducible rfl) pq hS ?_;try simp only [Act.put,sA,sB,sC]
     refine wpAnyH_ready (rs:=[1]) (by kernel_rfl) (by simp) ?_;refine ar (by (try simp only [gA,gB,gC]);rfl) fun K hK=>?_;go_simp
     refine (HER.out _).mono ?_;rintro e yR12x3 ⟨rfl,hb,hq⟩;have HE9:=Hd hb;clear hb;generalize yR12x0.heap.size = bE at *;try (go_wp2_with fail)
     have hS2:=Q.trans hS hq;refine hK.out _ _ (by exact hS2) (fun hHeld=>?_);clear hK K hHeld hS hq;have hS:=hS2;clear hS2;try simp only [Act.put,sA,sB,sC]
     refine tk 3 (by simp only [gA,gB,gC];rfl) (by first | kernel_rfl | rfl) (fun uz _=>by go_simp;try with_reducible rfl) pq hS ?_;try simp only [Act.put,sA,sB,sC]
     refine wpAnyH_ready (rs:=[4]) (by kernel_rfl) (by simp) ?_;refine ar (by (try simp only [gA,gB,gC]);rfl) fun K hK=>?_;have q9:=HE9.out.cell 5 rfl;go_simp
     refine hK.out _ _ (by exact hS) (fun hHeld=>?_);clear hK K hHeld q9;try simp only [Act.put,sA,sB,sC]
     refine wpAnyH_ready (rs:=[5]) (by kernel_rfl) (by simp) ?_;refine ar (by (try simp only [gA,gB,gC]);rfl) fun K hK=>?_;go_simp
     refine (HT5.out _ (HQ.out.trans hS) (by first | rfl | trivial)).mono ?_;rintro e yR12x5 ⟨rfl,hq⟩;try (go_wp2_with fail)
     have HE9:=Hd (Bk.q HE9.out hq);have hS2:=Q.trans hS hq;refine hK.out _ _ (by exact hS2) (fun hHeld=>?_);clear hK K hHeld hS hq;have hS:=hS2;clear hS2;try simp only [Act.put,sA,sB,sC]
     refine tk 6 (by simp only [gA,gB,gC];rfl) (by first | kernel_rfl | rfl) (fun uz _=>by go_simp;try with_reducible rfl) pq hS ?_;try simp only [Act.put,sA,sB,sC]
     refine tk 7 (by simp only [gA,gB,gC];rfl) (by first | kernel_rfl | rfl) (fun uz _=>by go_simp;try with_reducible rfl) pq hS ?_;try simp only [Act.put,sA,sB,sC]
     refine tk 8 (by simp only [gA,gB,gC];rfl) (by first | kernel_rfl | rfl) (fun uz _=>by go_simp;try with_reducible rfl) pq hS ?_;try simp only [Act.put,sA,sB,sC]
     refine tk 9 (by simp only [gA,gB,gC];rfl) (by first | kernel_rfl | rfl) (fun uz _=>by go_simp;try with_reducible rfl) pq hS ?_;try simp only [Act.put,sA,sB,sC]
     refine tk 10 (by simp only [gA,gB,gC];rfl) (by first | kernel_rfl | rfl) (fun uz _=>by go_simp;try with_reducible rfl) pq hS ?_;try simp only [Act.put,sA,sB,sC]
     refine wpAnyH_done (by kernel_rfl) ?_ _;have HQ9:=Hd (show Q u2 _ from hS);clear hS;go_wp2_with fail
     go_meet
     exact ⟨by rw [Z1.out] <;> rfl,by rw [Z2.out] <;> rfl,HQ.out.trans HQ9.out,HSB.out.q HQ9.out,HLB.out.q HQ9.out,HRB.out.q HQ9.out⟩
   ·have hbt:(FR == BK) = false:=beq_eq_false_iff_ne.2 hfb
    obtain ⟨z1,z2⟩:=HTK2.out;rw [if_neg hfb] at z1 z2;have Z1:=Hd z1;have Z2:=Hd z2;clear z1 z2 HTK2;go_wp2_with fail
    go_meet
    exact ⟨by rw [Z1.out] <;> rfl,by rw [Z2.out] <;> rfl,HQ.out,HSB.out,HLB.out,HRB.out⟩
  case rest =>
   obtain ⟨rfl,rfl,hq1,hs1,hl1,hr1⟩:=hcut;replace HQ:=Hd hq1;replace HSB:=Hd hs1;replace HLB:=Hd hl1;replace HRB:=Hd hr1;clear hq1 hs1 hl1 hr1 HTK2 HSN HMY HER HT0 HT1 HT2 HT3 HT4 HT5;by_cases hno:TF = TB
   ·have hnb:(TF == TB) = true:=beq_iff_eq.2 hno
    replace HR:=Hd (HR.out.trans (if_pos hno));subst hno;go_wp2_with (refine wpList_store_row (by rfl) 39 _ _ (by rfl) bR #[.bool false,.slice none 0 0,.bool false,.slice none 0 0,.int .i64 0,.int .i64 0] (by rfl) (by rfl) 39 _ HRB.out (by exact infoS) rfl (Rw.all1 (by rfl)) ?_)
    exact ret_st rfl rfl rfl rfl (Rw.Bk_row HRB.out [.bool false,.slice none 0 0,.bool false,.slice none 0 0,.int .i64 0,.int .i64 0]) rfl ⟨_,by rw [HR.out] <;> rfl,by rw [HR.out];exact SO.zero _ _,Rw.Q_row HQ.out HWbR.out _⟩
   have hnb:(TF == TB) = false:=beq_eq_false_iff_ne.2 hno;replace HR:=Hd (HR.out.trans (if_neg hno));replace HRP:=Hd (fun u q=>HRP.out u q TF TB);generalize rep ⟨g,I,s,F⟩ ⟨li,lf,lg⟩ TF TB [] = RP at *;obtain ⟨⟨⟨og,oI,os_,oF⟩,oc,oa⟩,er⟩:=RP;dsimp only at HRP;have xHSB0:=HSB.out.cell 0 rfl;have xHSB1:=HSB.out.cell 1 rfl;have xHSB2:=HSB.out.cell 2 rfl;have xHSB3:=HSB.out.cell 3 rfl;go_wp2_with (refine wpList_load_row (by rfl) 44 _ (by rfl) bL (by rfl) 44 #[.int .i64 li,.int .i64 lf,.bool lg] (0,0) _ HLB.out Try.underlying44 rfl (by exact infoL) ?_)
   clear xHSB0 xHSB1 xHSB2 xHSB3;have HBW:=Hd (show bR < wc.heap.size from HRB.out.lt);have HBM:=Hd (show w.heap.size <= wc.heap.size from HQ.out.le);refine (HRP.out _ HQ.out).mono ?_;rintro e u3 ⟨x,rfl,hso,hq⟩;obtain ⟨p1,r1,p2,r2,rfl,ho1,ho2⟩:=hso;dsimp only at ho1 ho2 |-;obtain ⟨m1,hm1⟩:∃ m,m = oI.length:=⟨_,rfl⟩;obtain ⟨m2,hm2⟩:∃ m,m = oF.length:=⟨_,rfl⟩;rw [<- hm1] at ho1;rw [<- hm2] at ho2;rw [<- hm1,<- hm2];have HO1L:=Hd ho1;have HO2L:=Hd ho2;have HM1L:=Hd hm1.symm;have HM2L:=Hd hm2.symm;clear ho1 ho2 hm1 hm2;replace HQ:=Hd (Q.trans HQ.out hq);replace HSB:=Hd (Bk.q HSB.out hq);replace HLB:=Hd (Bk.q HLB.out hq);replace HRB:=Hd (Bk.q HRB.out hq);clear hq;go_wp2_with (refine wpList_store_row (by rfl) 39 _ _ (by rfl) bR #[.bool og,.slice p1 m1 r1,.bool os_,.slice p2 m2 r2,.int .i64 oc,.int .i64 oa] (by rfl) (by rfl) 39 _ HRB.out (by exact infoS) rfl (Rw.all1 (by rfl)) ?_)
   exact ret_st rfl rfl rfl rfl (Rw.Bk_row HRB.out [.bool og,.slice p1 m1 r1,.bool os_,.slice p2 m2 r2,.int .i64 oc,.int .i64 oa]) rfl ⟨_,by rw [HR.out] <;> rfl,by rw [HR.out];exact SO.of ((own_rowE HO1L.out HBW.out _).mono HBM.out) ((own_rowE HO2L.out HBW.out _).mono HBM.out) HM1L.out HM2L.out,Rw.Q_row HQ.out HWbR.out _⟩
end Pe
end
end Go.Proofs.Ytnehhbobhnmbcaa
