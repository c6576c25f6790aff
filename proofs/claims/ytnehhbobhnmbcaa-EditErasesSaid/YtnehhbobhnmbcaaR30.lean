/- The document's own answers on states: Erase. (and more) -/
import Derived.Test.YtnehhbobhnmbcaaR27
set_option linter.all false
set_option maxRecDepth 100000
set_option maxHeartbeats 8000000
namespace Go.Proofs.Ytnehhbobhnmbcaa
section
open Go.RowKit
namespace Re
open Ed Tm
theorem ers_any (g s:Bool) (a1 a2:Option Addr) (n1 n2 c1 c2:Nat) (I F:List Int) (c a:Int) (li lf:Int) (lg:Bool) (wh:Int) (w:World) (hi:Lst w (.slice a1 n1 c1) I) (hf:Lst w (.slice a2 n2 c2) F) (k1:I.length = n1) (k2:F.length = n2) (l1:n1 <= 100000) (l2:n2 <= 100000) :
  Calls Try.prog 21 #[.agg #[.bool g,.slice a1 n1 c1,.bool s,.slice a2 n2 c2,.int .i64 c,.int .i64 a],.agg #[.int .i64 li,.int .i64 lf,.bool lg],.int .i64 wh] w fun e w'=>∃ v,e = .returned (.tuple #[v,.int .i64 (ers ⟨⟨g,I,s,F⟩,c,a⟩ ⟨li,lf,lg⟩ wh).2]) /\ SO w' w.heap.size v (ers ⟨⟨g,I,s,F⟩,c,a⟩ ⟨li,lf,lg⟩ wh).1 /\ Q w w':=by
 have HMY:=Hd (fun u (q:Q w u) (c a:Int)=>may_any g s a1 a2 n1 n2 c1 c2 I F c a u (hi.q q) (hf.q q) k1 k2 l1 l2);have HI:=Hd hi;have HF:=Hd hf;have HK1:=Hd k1;have HK2:=Hd k2;have HSP:=Hd (fun u (q:Q w u) (i j:Int)=>Tr.splice_any g s a1 a2 n1 n2 c1 c2 I F u (hi.q q) (hf.q q) k1 k2 l1 l2 i j (.slice none 0 0) [] (Lst.nil _ _ _ (by unfold maxLen;omega) (fun _=>rfl)) (by simp));have HAS:=Hd (fun u (q:Q w u)=>Tr.atoms_any g s a1 a2 n1 n2 c1 c2 I F u (hi.q q) (hf.q q) k1 k2 l1 l2);have HWY:=Hd (fun u (q:Q w u) (hm:mayS ⟨⟨g,I,s,F⟩,c,a⟩ = true)=>show Calls Try.prog 45 #[.agg #[.bool g,.slice a1 n1 c1,.bool s,.slice a2 n2 c2,.int .i64 c,.int .i64 a],.int .i64 wh] u fun e w'=>e = .returned (.int .i64 (way ⟨⟨g,I,s,F⟩,c,a⟩ wh)) /\ Q u w' from by
  have hc:=((mayS_iff _).1 hm).2.1;unfold len at hc;dsimp only at hc;obtain ⟨k,rfl⟩:∃ k:Nat,c = k:=⟨c.toNat,by omega⟩;exact way_any g s a1 a2 n1 n2 c1 c2 I F k a wh u (hi.q q) (hf.q q) k1 k2 l1 l2 (by omega))
 obtain ⟨f,hff⟩:∃ x,x = min c a:=⟨_,rfl⟩;obtain ⟨b,hbb⟩:∃ x,x = max c a:=⟨_,rfl⟩;obtain ⟨nn,hnn⟩:∃ x,x = n1 + (sep s).length + n2:=⟨_,rfl⟩;have hln:len ⟨⟨g,I,s,F⟩,c,a⟩ = (nn:Int):=by
  unfold len;dsimp only;rw [ats_len,hnn];dsimp only;rw [k1,k2]
 obtain ⟨F2,hF2⟩:∃ x,x = tkF ⟨⟨g,I,s,F⟩,c,a⟩ wh:=⟨_,rfl⟩;obtain ⟨B2,hB2⟩:∃ x,x = tkB ⟨⟨g,I,s,F⟩,c,a⟩ wh:=⟨_,rfl⟩;obtain ⟨G2,hG2⟩:∃ x,x = tkG ⟨⟨g,I,s,F⟩,c,a⟩ wh:=⟨_,rfl⟩;have HR:=Hd (show ers ⟨⟨g,I,s,F⟩,c,a⟩ ⟨li,lf,lg⟩ wh = if mayS ⟨⟨g,I,s,F⟩,c,a⟩ = true /\ 0 <= wh /\ wh <= 6 then (if F2 = B2 /\ G2 = g then (S0,7) else if fits (spR ⟨g,I,s,F⟩ F2 B2 []) ⟨li,lf,lg⟩ = true then (⟨⟨G2,(spR ⟨g,I,s,F⟩ F2 B2 []).i,(spR ⟨g,I,s,F⟩ F2 B2 []).s,(spR ⟨g,I,s,F⟩ F2 B2 []).f⟩,F2,F2⟩,0) else (S0,4)) else (S0,1) from by rw [hF2,hB2,hG2];rfl)
 have HFB:=Hd (show F2 = (if wh = 6 then 0 else if f = b then min c (way ⟨⟨g,I,s,F⟩,c,a⟩ wh) else f) /\ B2 = (if wh = 6 then (nn:Int) else if f = b then max c (way ⟨⟨g,I,s,F⟩,c,a⟩ wh) else b) /\ G2 = (if wh = 6 then false else g) from by
  rw [hF2,hB2,hG2,hff,hbb,<- hln];exact ⟨rfl,rfl,rfl⟩)
 have hmn:(if a < c then a else c) = f:=by rw [hff];split <;> omega
 have hmx:(if c < a then a else c) = b:=by rw [hbb];split <;> omega
 generalize ers ⟨⟨g,I,s,F⟩,c,a⟩ ⟨li,lf,lg⟩ wh = RR at *;generalize way ⟨⟨g,I,s,F⟩,c,a⟩ wh = T at *;have HM1:=Hd (fun u q=>HMY.out u q c a);generalize mayS ⟨⟨g,I,s,F⟩,c,a⟩ = M1 at *;have hnb:nn <= 200001:=by have:=sep_len s;omega
 rw [<- hnn] at HAS;clear hi hf k1 k2 HMY hff hbb hln hF2 hB2 hG2 hnn;obtain ⟨y0,hy0⟩:∃ z,z = w.alloc (.cells #[.bool g,.slice a1 n1 c1,.bool s,.slice a2 n2 c2,.int .i64 c,.int .i64 a] 26):=⟨_,rfl⟩;have hq0:Q w y0:=by rw [hy0];exact (Q.refl _).alloc _
 have hs0:y0.heap.size = w.heap.size + 1:=by rw [hy0];simp
 have hc0:Bk y0 w.heap.size 26 [.bool g,.slice a1 n1 c1,.bool s,.slice a2 n2 c2,.int .i64 c,.int .i64 a]:=by rw [hy0];exact Bk.new _ _ _
 obtain ⟨y1,hy1⟩:∃ z,z = y0.alloc (.cells #[.int .i64 li,.int .i64 lf,.bool lg] 28):=⟨_,rfl⟩;have hq1:Q y0 y1:=by rw [hy1];exact (Q.refl _).alloc _
 have hs1:y1.heap.size = w.heap.size + 2:=by rw [hy1];simp;omega
 have hc1:Bk y1 y0.heap.size 28 [.int .i64 li,.int .i64 lf,.bool lg]:=by rw [hy1];exact Bk.new _ _ _
 rw [hs0] at hc1;obtain ⟨y2,hy2⟩:∃ z,z = y1.alloc (.cells #[.bool false,.slice none 0 0,.bool false,.slice none 0 0,.int .i64 0,.int .i64 0] 26):=⟨_,rfl⟩;have hq2:Q y1 y2:=by rw [hy2];exact (Q.refl _).alloc _
 have hs2:y2.heap.size = w.heap.size + 3:=by rw [hy2];simp;omega
 have hc2:Bk y2 y1.heap.size 26 [.bool false,.slice none 0 0,.bool false,.slice none 0 0,.int .i64 0,.int .i64 0]:=by rw [hy2];exact Bk.new _ _ _
 rw [hs1] at hc2;have HQ:=Hd (hq0.trans (hq1.trans hq2));have HSB:=Hd (hc0.q (hq1.trans hq2));have HLB:=Hd (hc1.q hq2);have HRB:=Hd hc2;have hz2:y2 = ((w.alloc (.cells #[.bool g,.slice a1 n1 c1,.bool s,.slice a2 n2 c2,.int .i64 c,.int .i64 a] 26)).alloc (.cells #[.int .i64 li,.int .i64 lf,.bool lg] 28)).alloc (.cells #[.bool false,.slice none 0 0,.bool false,.slice none 0 0,.int .i64 0,.int .i64 0] 26):=by rw [hy2,hy1,hy0]
 obtain ⟨bS,hbbS⟩:∃ k,k = w.heap.size:=⟨_,rfl⟩;have HWbS:=Hd (show w.heap.size <= bS by omega);obtain ⟨bL,hbbL⟩:∃ k,k = w.heap.size + 1:=⟨_,rfl⟩;have HWbL:=Hd (show w.heap.size <= bL by omega);obtain ⟨bR,hbbR⟩:∃ k,k = w.heap.size + 2:=⟨_,rfl⟩;have HWbR:=Hd (show w.heap.size <= bR by omega);clear hq0 hs0 hc0 hy0 hq1 hs1 hc1 hy1 hq2 hs2 hc2 hy2;go_enter Try.func21,Try.ntmps21
 go_upto_region 1 with fail
 try rw [show w.heap.size + 1 + 1 = w.heap.size + 2 from rfl]
 rw [<- hz2,<- hbbR,<- hbbL,<- hbbS];rw [<- hbbS] at HSB;rw [<- hbbL] at HLB;rw [<- hbbR] at HRB;clear hz2 hbbS hbbL hbbR;go_wp2_with (refine wpList_load_row (by rfl) 26 _ (by rfl) bS (by rfl) 26 #[.bool g,.slice a1 n1 c1,.bool s,.slice a2 n2 c2,.int .i64 c,.int .i64 a] (0,0) _ HSB.out Try.underlying26 rfl (by exact infoS) ?_)
 refine (HM1.out _ HQ.out).mono ?_;rintro e u1 ⟨rfl,hq⟩;replace HQ:=Hd (Q.trans HQ.out hq);replace HSB:=Hd (Bk.q HSB.out hq);replace HLB:=Hd (Bk.q HLB.out hq);replace HRB:=Hd (Bk.q HRB.out hq);clear hq;cases M1 with
 | false =>
  replace HR:=Hd (HR.out.trans (if_neg (fun h=>by cases h.1)));go_wp2_with (refine wpList_store_row (by rfl) 26 _ _ (by rfl) bR #[.bool false,.slice none 0 0,.bool false,.slice none 0 0,.int .i64 0,.int .i64 0] (by rfl) (by rfl) 26 _ HRB.out (by exact infoS) rfl (Rw.all1 (by rfl)) ?_)
  exact ret_st rfl rfl rfl rfl (Rw.Bk_row HRB.out [.bool false,.slice none 0 0,.bool false,.slice none 0 0,.int .i64 0,.int .i64 0]) rfl ⟨_,by rw [HR.out] <;> rfl,by rw [HR.out];exact SO.zero _ _,Rw.Q_row HQ.out HWbR.out _⟩
 | true =>
  by_cases hh1:¬ 0 <= wh
  ·replace HR:=Hd (HR.out.trans (if_neg (fun e=>by omega)))
   go_wp2_with (refine wpList_store_row (by rfl) 26 _ _ (by rfl) bR #[.bool false,.slice none 0 0,.bool false,.slice none 0 0,.int .i64 0,.int .i64 0] (by rfl) (by rfl) 26 _ HRB.out (by exact infoS) rfl (Rw.all1 (by rfl)) ?_)
   exact ret_st rfl rfl rfl rfl (Rw.Bk_row HRB.out [.bool false,.slice none 0 0,.bool false,.slice none 0 0,.int .i64 0,.int .i64 0]) rfl ⟨_,by rw [HR.out] <;> rfl,by rw [HR.out];exact SO.zero _ _,Rw.Q_row HQ.out HWbR.out _⟩
  by_cases hh2:¬ wh <= 6
  ·replace HR:=Hd (HR.out.trans (if_neg (fun e=>by omega)))
   go_wp2_with (refine wpList_store_row (by rfl) 26 _ _ (by rfl) bR #[.bool false,.slice none 0 0,.bool false,.slice none 0 0,.int .i64 0,.int .i64 0] (by rfl) (by rfl) 26 _ HRB.out (by exact infoS) rfl (Rw.all1 (by rfl)) ?_)
   exact ret_st rfl rfl rfl rfl (Rw.Bk_row HRB.out [.bool false,.slice none 0 0,.bool false,.slice none 0 0,.int .i64 0,.int .i64 0]) rfl ⟨_,by rw [HR.out] <;> rfl,by rw [HR.out];exact SO.zero _ _,Rw.Q_row HQ.out HWbR.out _⟩
  have hh3:0 <= wh:=by omega
  have hh4:wh <= 6:=by omega
  clear hh1 hh2;replace HR:=Hd (HR.out.trans (if_pos ⟨rfl,hh3,hh4⟩));have xHSB4:=HSB.out.cell 4 rfl;have xHSB5:=HSB.out.cell 5 rfl;go_upto_if 39 with fail
  clear hmn hmx xHSB4 xHSB5;go_cut [9,10] (fun x y wx=>x = .int .i64 (if f = b then min c T else f) /\ y = .int .i64 (if f = b then max c T else b) /\ Q w wx /\ Bk wx bS 26 [.bool g,.slice a1 n1 c1,.bool s,.slice a2 n2 c2,.int .i64 c,.int .i64 a] /\ Bk wx bL 28 [.int .i64 li,.int .i64 lf,.bool lg] /\ Bk wx bR 26 [.bool false,.slice none 0 0,.bool false,.slice none 0 0,.int .i64 0,.int .i64 0])
  case first =>
   by_cases hfb:f = b
   ·subst hfb
    have e1:(if T < c then T else c) = (if f = f then min c T else f):=by rw [if_pos rfl];split <;> omega
    have e2:(if c < T then T else c) = (if f = f then max c T else f):=by rw [if_pos rfl];split <;> omega
    clear HFB;generalize (if f = f then min c T else f) = F1 at *
    generalize (if f = f then max c T else f) = B1 at *
    have HWX:=Hd (fun x (q:Q u1 x)=>HWY.out x (HQ.out.trans q) (by first | rfl | trivial));have hbt:(f == f) = true:=by simp
    go_wp2_with fail
    refine wp_region_held_drew (S:=fun u=>Q u1 u) (by kernel_rfl) (by exact (Q.refl u1).drew) (fun hHeld=>?_);have hS:Q u1 u1.drew:=hHeld;clear hHeld;have hq:Q u1 u1.drew:=(Q.refl _).drew;clear hq;generalize u1.drew = yR2x0 at *;change wpAnyH _ _ _ _ _ _ #[ff,ff,ff,ff,ff,ff,ff] _ _;refine tk 0 (by simp only [gA,gB,gC];rfl) (by first | kernel_rfl | rfl) (fun uz _=>by go_simp;try with_reducible rfl) pq hS ?_;try simp only [Act.put,sA,sB,sC]
    refine tk 1 (by simp only [gA,gB,gC];rfl) (by first | kernel_rfl | rfl) (fun uz hSw=>by (try dsimp only at hSw);have q:=(Bk.q HSB.out hSw).cell 4 rfl;go_simp;try with_reducible rfl) pq hS ?_;try simp only [Act.put,sA,sB,sC]
    refine tk 2 (by simp only [gA,gB,gC];rfl) (by first | kernel_rfl | rfl) (fun uz hSw=>by (try dsimp only at hSw);refine ld_row (x:=.tmp 3) ?_ ?_ (Bk.q HSB.out hSw) Try.underlying26 (by exact infoS) <;> rfl) pq hS ?_
    try simp only [Act.put,sA,sB,sC]
    refine tk 3 (by simp only [gA,gB,gC];rfl) (by first | kernel_rfl | rfl) (fun uz _=>by go_simp;try with_reducible rfl) pq hS ?_;try simp only [Act.put,sA,sB,sC]
    refine wpAnyH_ready (rs:=[4]) (by kernel_rfl) (by simp) ?_;refine ar (by (try simp only [gA,gB,gC]);rfl) fun K hK=>?_;go_simp
    refine (HWX.out _ hS).mono ?_;rintro e yR2x5 ⟨rfl,hq⟩;try (go_wp2_with fail)
    have hS2:=Q.trans hS hq;refine hK.out _ _ (by exact hS2) (fun hHeld=>?_);clear hK K hHeld hS hq;have hS:=hS2;clear hS2;try simp only [Act.put,sA,sB,sC]
    refine wpAnyH_ready (rs:=[5]) (by kernel_rfl) (by simp) ?_;refine ar (by (try simp only [gA,gB,gC]);rfl) fun K hK=>?_;go_simp
    refine hK.out _ _ (by exact hS) (fun hHeld=>?_);clear hK K hHeld;try simp only [Act.put,sA,sB,sC]
    refine tk 6 (by simp only [gA,gB,gC];rfl) (by first | kernel_rfl | rfl) (fun uz _=>by go_simp;try with_reducible rfl) pq hS ?_;try simp only [Act.put,sA,sB,sC]
    refine wpAnyH_done (by kernel_rfl) ?_ _;have HQ7:=Hd (show Q u1 yR2x5 from hS);clear hS;go_upto_region 8 with fail
    refine wp_region_held_drew (S:=fun u=>Q yR2x5 u) (by kernel_rfl) (by exact (Q.refl yR2x5).drew) (fun hHeld=>?_);have hS:Q yR2x5 yR2x5.drew:=hHeld;clear hHeld;have hq:Q yR2x5 yR2x5.drew:=(Q.refl _).drew;clear hq;generalize yR2x5.drew = yR1x0 at *;change wpAnyH _ _ _ _ _ _ #[ff,ff,ff,ff,ff,ff,ff] _ _;refine tk 0 (by simp only [gA,gB,gC];rfl) (by first | kernel_rfl | rfl) (fun uz _=>by go_simp;try with_reducible rfl) pq hS ?_;try simp only [Act.put,sA,sB,sC]
    refine tk 1 (by simp only [gA,gB,gC];rfl) (by first | kernel_rfl | rfl) (fun uz hSw=>by (try dsimp only at hSw);have q:=(Bk.q HSB.out (Q.trans HQ7.out hSw)).cell 4 rfl;go_simp;try with_reducible rfl) pq hS ?_;try simp only [Act.put,sA,sB,sC]
    refine tk 2 (by simp only [gA,gB,gC];rfl) (by first | kernel_rfl | rfl) (fun uz hSw=>by (try dsimp only at hSw);refine ld_row (x:=.tmp 3) ?_ ?_ (Bk.q HSB.out (Q.trans HQ7.out hSw)) Try.underlying26 (by exact infoS) <;> rfl) pq hS ?_
    try simp only [Act.put,sA,sB,sC]
    refine tk 3 (by simp only [gA,gB,gC];rfl) (by first | kernel_rfl | rfl) (fun uz _=>by go_simp;try with_reducible rfl) pq hS ?_;try simp only [Act.put,sA,sB,sC]
    refine wpAnyH_ready (rs:=[4]) (by kernel_rfl) (by simp) ?_;refine ar (by (try simp only [gA,gB,gC]);rfl) fun K hK=>?_;go_simp
    refine (HWX.out _ (HQ7.out.trans hS)).mono ?_;rintro e yR1x5 ⟨rfl,hq⟩;try (go_wp2_with fail)
    have hS2:=Q.trans hS hq;refine hK.out _ _ (by exact hS2) (fun hHeld=>?_);clear hK K hHeld hS hq;have hS:=hS2;clear hS2;try simp only [Act.put,sA,sB,sC]
    refine wpAnyH_ready (rs:=[5]) (by kernel_rfl) (by simp) ?_;refine ar (by (try simp only [gA,gB,gC]);rfl) fun K hK=>?_;go_simp
    refine hK.out _ _ (by exact hS) (fun hHeld=>?_);clear hK K hHeld;try simp only [Act.put,sA,sB,sC]
    refine tk 6 (by simp only [gA,gB,gC];rfl) (by first | kernel_rfl | rfl) (fun uz _=>by go_simp;try with_reducible rfl) pq hS ?_;try simp only [Act.put,sA,sB,sC]
    refine wpAnyH_done (by kernel_rfl) ?_ _;have HQ8:=Hd (HQ7.out.trans hS);clear hS;go_wp2_with fail
    go_meet
    exact ⟨by first | rfl | rw [e1],by first | rfl | rw [e2],HQ.out.trans HQ8.out,HSB.out.q HQ8.out,HLB.out.q HQ8.out,HRB.out.q HQ8.out⟩
   ·have e1:=Hd (show (if f = b then min c T else f) = f from if_neg hfb)
    have e2:=Hd (show (if f = b then max c T else b) = b from if_neg hfb)
    have hfbi:(f == b) = false:=beq_eq_false_iff_ne.2 hfb;go_wp2_with fail
    go_meet
    exact ⟨by rw [e1.out] <;> rfl,by rw [e2.out] <;> rfl,HQ.out,HSB.out,HLB.out,HRB.out⟩
  case rest =>
   obtain ⟨rfl,rfl,hq1,hs1,hl1,hr1⟩:=hcut;replace HQ:=Hd hq1;replace HSB:=Hd hs1;replace HLB:=Hd hl1;replace HRB:=Hd hr1;clear hq1 hs1 hl1 hr1 HWY;generalize (if f = b then min c T else f) = F1 at *
   generalize (if f = b then max c T else b) = B1 at *
   have xHSB0:=HSB.out.cell 0 rfl;have xHSB1:=HSB.out.cell 1 rfl;have xHSB2:=HSB.out.cell 2 rfl;have xHSB3:=HSB.out.cell 3 rfl;go_upto_if 56 with fail
   go_cut [9,10,11] (fun x y z wx=>x = .int .i64 F2 /\ y = .int .i64 B2 /\ z = .bool G2 /\ Q w wx /\ Bk wx bS 26 [.bool g,.slice a1 n1 c1,.bool s,.slice a2 n2 c2,.int .i64 c,.int .i64 a] /\ Bk wx bL 28 [.int .i64 li,.int .i64 lf,.bool lg] /\ Bk wx bR 26 [.bool false,.slice none 0 0,.bool false,.slice none 0 0,.int .i64 0,.int .i64 0])
   case first =>
    by_cases h6:wh = 6
    ·obtain ⟨z1,z2,z3⟩:=HFB.out
     rw [if_pos h6] at z1 z2 z3;have Z1:=Hd z1;have Z2:=Hd z2;have Z3:=Hd z3;clear z1 z2 z3;subst h6;go_wp2_with fail
     refine (HAS.out _ HQ.out).mono ?_;rintro e wd ⟨av,ac,rfl,_,hq⟩;go_wp2_with fail
     go_meet
     exact ⟨by rw [Z1.out] <;> rfl,by rw [Z2.out] <;> rfl,by rw [Z3.out] <;> rfl,HQ.out.trans hq,HSB.out.q hq,HLB.out.q hq,HRB.out.q hq⟩
    ·obtain ⟨z1,z2,z3⟩:=HFB.out
     rw [if_neg h6] at z1 z2 z3;have hwi:(wh == 6) = false:=beq_eq_false_iff_ne.2 h6;have Z1:=Hd z1;have Z2:=Hd z2;have Z3:=Hd z3;clear z1 z2 z3;go_wp2_with fail
     go_meet
     exact ⟨by rw [Z1.out] <;> rfl,by rw [Z2.out] <;> rfl,by rw [Z3.out] <;> rfl,HQ.out,HSB.out,HLB.out,HRB.out⟩
   case rest =>
    obtain ⟨rfl,rfl,rfl,hq1,hs1,hl1,hr1⟩:=hcut;replace HQ:=Hd hq1;replace HSB:=Hd hs1;replace HLB:=Hd hl1;replace HRB:=Hd hr1;clear hq1 hs1 hl1 hr1 HFB HAS xHSB0 xHSB1 xHSB2 xHSB3;have xHSB0:=HSB.out.cell 0 rfl;have xHSB1:=HSB.out.cell 1 rfl;have xHSB2:=HSB.out.cell 2 rfl;have xHSB3:=HSB.out.cell 3 rfl;by_cases hno:F2 = B2 /\ G2 = g
    ·replace HR:=Hd (HR.out.trans (if_pos hno))
     obtain ⟨h1,h2⟩:=hno;subst h1 h2;go_wp2_with (refine wpList_store_row (by rfl) 26 _ _ (by rfl) bR #[.bool false,.slice none 0 0,.bool false,.slice none 0 0,.int .i64 0,.int .i64 0] (by rfl) (by rfl) 26 _ HRB.out (by exact infoS) rfl (Rw.all1 (by rfl)) ?_)
     exact ret_st rfl rfl rfl rfl (Rw.Bk_row HRB.out [.bool false,.slice none 0 0,.bool false,.slice none 0 0,.int .i64 0,.int .i64 0]) rfl ⟨_,by rw [HR.out] <;> rfl,by rw [HR.out];exact SO.zero _ _,Rw.Q_row HQ.out HWbR.out _⟩
    replace HR:=Hd (HR.out.trans (if_neg hno));replace HSP:=Hd (fun u q=>HSP.out u q F2 B2);generalize spR ⟨g,I,s,F⟩ F2 B2 [] = D0 at *;generalize spC ⟨g,I,s,F⟩ F2 B2 [] = er at *;have hcs:¬ F2 = B2 \/ (F2 = B2 /\ ¬ G2 = g):=by
     by_cases h:F2 = B2
     ·exact .inr ⟨h,fun e=>hno ⟨h,e⟩⟩
     ·exact .inl h
    clear hno;rcases hcs with hne | ⟨heq,hgn⟩
    ·obtain ⟨dg,dI,ds,dF⟩:=D0
     have HBW:=Hd (show bR < wc.heap.size + 2 by have:=HRB.out.lt;omega);have HBM:=Hd (show w.heap.size <= wc.heap.size + 2 by have:=HQ.out.le;omega);go_wp2_with fail
     refine (HSP.out _ HQ.out).mono ?_;rintro e u52 ⟨x,rfl,hld,hq⟩;obtain ⟨p1,r1,p2,r2,rfl,ho1,ho2⟩:=hld;dsimp only at ho1 ho2 |-;have HO1:=Hd ho1;have HO2:=Hd ho2;obtain ⟨m1,hm1⟩:∃ m,m = dI.length:=⟨_,rfl⟩;obtain ⟨m2,hm2⟩:∃ m,m = dF.length:=⟨_,rfl⟩;rw [<- hm1] at HO1;rw [<- hm2] at HO2;rw [<- hm1,<- hm2];have HM1L:=Hd hm1.symm;have HM2L:=Hd hm2.symm;clear ho1 ho2 hm1 hm2;replace HQ:=Hd (Q.trans HQ.out hq);replace HSB:=Hd (Bk.q HSB.out hq);replace HLB:=Hd (Bk.q HLB.out hq);replace HRB:=Hd (Bk.q HRB.out hq);clear hq;clear xHSB0 xHSB1 xHSB2 xHSB3;have HRP:=HRB;have HLP:=HLB;have HQP:=HQ;obtain ⟨u53,hwu53⟩:∃ z,z = u52.alloc (.cells #[.bool dg,.slice p1 m1 r1,.bool ds,.slice p2 m2 r2] 24):=⟨_,rfl⟩;have hq:Q u52 u53:=by rw [hwu53];exact (Q.refl _).alloc _
     have HDB:=Hd (show Bk u53 u52.heap.size 24 [.bool dg,.slice p1 m1 r1,.bool ds,.slice p2 m2 r2] by rw [hwu53];exact Bk.new _ _ _);obtain ⟨bD,hbbD⟩:∃ k,k = u52.heap.size:=⟨_,rfl⟩;rw [<- hbbD] at HDB;replace HQ:=Hd (Q.trans HQ.out hq);replace HSB:=Hd (Bk.q HSB.out hq);replace HLB:=Hd (Bk.q HLB.out hq);replace HRB:=Hd (Bk.q HRB.out hq);replace HO1:=Hd (Own.q HO1.out hq);replace HO2:=Hd (Own.q HO2.out hq);clear hq;go_upto_region 17 with fail
     have HND:=Hd (show bD ≠ bR /\ bD ≠ bL /\ w.heap.size <= bD by rw [hbbD];have h1:=HRP.out.lt;have h2:=HLP.out.lt;have h3:=HQP.out.le;omega);rw [<- hwu53,<- hbbD];clear hwu53 hbbD;have y0:=HDB.out.cell 0 rfl;have f0:=HDB.out.free 0;obtain ⟨v9,hv9⟩:∃ z,z = u53.setCell ⟨bD,0,none⟩ (.bool G2):=⟨_,rfl⟩;have hd9:Bk v9 bD 24 [.bool G2,.slice p1 m1 r1,.bool ds,.slice p2 m2 r2]:=by rw [hv9];exact HDB.out.set 0 _
     replace HRB:=Hd (show Bk v9 bR 26 [.bool false,.slice none 0 0,.bool false,.slice none 0 0,.int .i64 0,.int .i64 0] by rw [hv9];exact HRB.out.past HND.out.1 _);replace HLB:=Hd (show Bk v9 bL 28 [.int .i64 li,.int .i64 lf,.bool lg] by rw [hv9];exact HLB.out.past HND.out.2.1 _);replace HQ:=Hd (show Q w v9 by rw [hv9];exact Q.setCell HQ.out (ad:=⟨bD,0,none⟩) HND.out.2.2 _);replace HO1:=Hd (show Own v9 _ (.slice p1 m1 r1) dI by rw [hv9];exact Tm.Own_past HO1.out HDB.out (by decide) 0 _);replace HO2:=Hd (show Own v9 _ (.slice p2 m2 r2) dF by rw [hv9];exact Tm.Own_past HO2.out HDB.out (by decide) 0 _);replace HDB:=Hd hd9;clear HRP HLP HQP hd9;go_upto_region 18 with fail
     rw [<- hv9];clear hv9 y0 f0;have xHDB1:=HDB.out.cell 1 rfl;have xHDB3:=HDB.out.cell 3 rfl;have xHLB0:=HLB.out.cell 0 rfl;have xHLB1:=HLB.out.cell 1 rfl;have hft:fits ⟨dg,dI,ds,dF⟩ ⟨li,lf,lg⟩ = (decide ((m1:Int) <= li) && decide ((m2:Int) <= lf)):=by
      unfold fits;dsimp only;rw [HM1L.out,HM2L.out]
     rw [hft] at HR;clear hft;by_cases h1:(m1:Int) <= li
     ·have h1':¬ li < (m1:Int):=by omega
      by_cases h2:(m2:Int) <= lf
      ·have h2':¬ lf < (m2:Int):=by omega
       replace HR:=Hd (HR.out.trans (if_pos (by simp [h1,h2])));go_wp2_with (first | (refine wpList_load_row (by rfl) 24 _ (by rfl) bD (by rfl) 24 #[.bool G2,.slice p1 m1 r1,.bool ds,.slice p2 m2 r2] (0,0) _ HDB.out Try.underlying24 rfl (by exact infoD) ?_) | (refine wpList_store_row (by rfl) 26 _ _ (by rfl) bR #[.bool G2,.slice p1 m1 r1,.bool ds,.slice p2 m2 r2,.int .i64 F2,.int .i64 F2] (by rfl) (by rfl) 26 _ HRB.out (by exact infoS) rfl (Rw.all1 (by rfl)) ?_))
       exact ret_st rfl rfl rfl rfl (Rw.Bk_row HRB.out [.bool G2,.slice p1 m1 r1,.bool ds,.slice p2 m2 r2,.int .i64 F2,.int .i64 F2]) rfl ⟨_,by rw [HR.out] <;> rfl,by rw [HR.out];exact SO.of ((own_rowE HO1.out HBW.out _).mono HBM.out) ((own_rowE HO2.out HBW.out _).mono HBM.out) HM1L.out HM2L.out,Rw.Q_row HQ.out HWbR.out _⟩
      ·have h2':lf < (m2:Int):=by omega
       replace HR:=Hd (HR.out.trans (if_neg (by simp [h2])));go_wp2_with (refine wpList_store_row (by rfl) 26 _ _ (by rfl) bR #[.bool false,.slice none 0 0,.bool false,.slice none 0 0,.int .i64 0,.int .i64 0] (by rfl) (by rfl) 26 _ HRB.out (by exact infoS) rfl (Rw.all1 (by rfl)) ?_)
       exact ret_st rfl rfl rfl rfl (Rw.Bk_row HRB.out [.bool false,.slice none 0 0,.bool false,.slice none 0 0,.int .i64 0,.int .i64 0]) rfl ⟨_,by rw [HR.out] <;> rfl,by rw [HR.out];exact SO.zero _ _,Rw.Q_row HQ.out HWbR.out _⟩
     ·have h1':li < (m1:Int):=by omega
      replace HR:=Hd (HR.out.trans (if_neg (by simp [h1])));go_wp2_with (refine wpList_store_row (by rfl) 26 _ _ (by rfl) bR #[.bool false,.slice none 0 0,.bool false,.slice none 0 0,.int .i64 0,.int .i64 0] (by rfl) (by rfl) 26 _ HRB.out (by exact infoS) rfl (Rw.all1 (by rfl)) ?_)
      exact ret_st rfl rfl rfl rfl (Rw.Bk_row HRB.out [.bool false,.slice none 0 0,.bool false,.slice none 0 0,.int .i64 0,.int .i64 0]) rfl ⟨_,by rw [HR.out] <;> rfl,by rw [HR.out];exact SO.zero _ _,Rw.Q_row HQ.out HWbR.out _⟩
    ·subst heq
     have hgg:(G2 == g) = false:=beq_eq_false_iff_ne.2 hgn;obtain ⟨dg,dI,ds,dF⟩:=D0;have HBW:=Hd (show bR < wc.heap.size + 2 by have:=HRB.out.lt;omega);have HBM:=Hd (show w.heap.size <= wc.heap.size + 2 by have:=HQ.out.le;omega);go_wp2_with fail
     refine (HSP.out _ HQ.out).mono ?_;rintro e u52 ⟨x,rfl,hld,hq⟩;obtain ⟨p1,r1,p2,r2,rfl,ho1,ho2⟩:=hld;dsimp only at ho1 ho2 |-;have HO1:=Hd ho1;have HO2:=Hd ho2;obtain ⟨m1,hm1⟩:∃ m,m = dI.length:=⟨_,rfl⟩;obtain ⟨m2,hm2⟩:∃ m,m = dF.length:=⟨_,rfl⟩;rw [<- hm1] at HO1;rw [<- hm2] at HO2;rw [<- hm1,<- hm2];have HM1L:=Hd hm1.symm;have HM2L:=Hd hm2.symm;clear ho1 ho2 hm1 hm2;replace HQ:=Hd (Q.trans HQ.out hq);replace HSB:=Hd (Bk.q HSB.out hq);replace HLB:=Hd (Bk.q HLB.out hq);replace HRB:=Hd (Bk.q HRB.out hq);clear hq;clear xHSB0 xHSB1 xHSB2 xHSB3;have HRP:=HRB;have HLP:=HLB;have HQP:=HQ;obtain ⟨u53,hwu53⟩:∃ z,z = u52.alloc (.cells #[.bool dg,.slice p1 m1 r1,.bool ds,.slice p2 m2 r2] 24):=⟨_,rfl⟩;have hq:Q u52 u53:=by rw [hwu53];exact (Q.refl _).alloc _
     have HDB:=Hd (show Bk u53 u52.heap.size 24 [.bool dg,.slice p1 m1 r1,.bool ds,.slice p2 m2 r2] by rw [hwu53];exact Bk.new _ _ _);obtain ⟨bD,hbbD⟩:∃ k,k = u52.heap.size:=⟨_,rfl⟩;rw [<- hbbD] at HDB;replace HQ:=Hd (Q.trans HQ.out hq);replace HSB:=Hd (Bk.q HSB.out hq);replace HLB:=Hd (Bk.q HLB.out hq);replace HRB:=Hd (Bk.q HRB.out hq);replace HO1:=Hd (Own.q HO1.out hq);replace HO2:=Hd (Own.q HO2.out hq);clear hq;go_upto_region 17 with fail
     have HND:=Hd (show bD ≠ bR /\ bD ≠ bL /\ w.heap.size <= bD by rw [hbbD];have h1:=HRP.out.lt;have h2:=HLP.out.lt;have h3:=HQP.out.le;omega);rw [<- hwu53,<- hbbD];clear hwu53 hbbD;have y0:=HDB.out.cell 0 rfl;have f0:=HDB.out.free 0;obtain ⟨v9,hv9⟩:∃ z,z = u53.setCell ⟨bD,0,none⟩ (.bool G2):=⟨_,rfl⟩;have hd9:Bk v9 bD 24 [.bool G2,.slice p1 m1 r1,.bool ds,.slice p2 m2 r2]:=by rw [hv9];exact HDB.out.set 0 _
     replace HRB:=Hd (show Bk v9 bR 26 [.bool false,.slice none 0 0,.bool false,.slice none 0 0,.int .i64 0,.int .i64 0] by rw [hv9];exact HRB.out.past HND.out.1 _);replace HLB:=Hd (show Bk v9 bL 28 [.int .i64 li,.int .i64 lf,.bool lg] by rw [hv9];exact HLB.out.past HND.out.2.1 _);replace HQ:=Hd (show Q w v9 by rw [hv9];exact Q.setCell HQ.out (ad:=⟨bD,0,none⟩) HND.out.2.2 _);replace HO1:=Hd (show Own v9 _ (.slice p1 m1 r1) dI by rw [hv9];exact Tm.Own_past HO1.out HDB.out (by decide) 0 _);replace HO2:=Hd (show Own v9 _ (.slice p2 m2 r2) dF by rw [hv9];exact Tm.Own_past HO2.out HDB.out (by decide) 0 _);replace HDB:=Hd hd9;clear HRP HLP HQP hd9;go_upto_region 18 with fail
     rw [<- hv9];clear hv9 y0 f0;have xHDB1:=HDB.out.cell 1 rfl;have xHDB3:=HDB.out.cell 3 rfl;have xHLB0:=HLB.out.cell 0 rfl;have xHLB1:=HLB.out.cell 1 rfl;have hft:fits ⟨dg,dI,ds,dF⟩ ⟨li,lf,lg⟩ = (decide ((m1:Int) <= li) && decide ((m2:Int) <= lf)):=by
      unfold fits;dsimp only;rw [HM1L.out,HM2L.out]
     rw [hft] at HR;clear hft;by_cases h1:(m1:Int) <= li
     ·have h1':¬ li < (m1:Int):=by omega
      by_cases h2:(m2:Int) <= lf
      ·have h2':¬ lf < (m2:Int):=by omega
       replace HR:=Hd (HR.out.trans (if_pos (by simp [h1,h2])));go_wp2_with (first | (refine wpList_load_row (by rfl) 24 _ (by rfl) bD (by rfl) 24 #[.bool G2,.slice p1 m1 r1,.bool ds,.slice p2 m2 r2] (0,0) _ HDB.out Try.underlying24 rfl (by exact infoD) ?_) | (refine wpList_store_row (by rfl) 26 _ _ (by rfl) bR #[.bool G2,.slice p1 m1 r1,.bool ds,.slice p2 m2 r2,.int .i64 F2,.int .i64 F2] (by rfl) (by rfl) 26 _ HRB.out (by exact infoS) rfl (Rw.all1 (by rfl)) ?_))
       exact ret_st rfl rfl rfl rfl (Rw.Bk_row HRB.out [.bool G2,.slice p1 m1 r1,.bool ds,.slice p2 m2 r2,.int .i64 F2,.int .i64 F2]) rfl ⟨_,by rw [HR.out] <;> rfl,by rw [HR.out];exact SO.of ((own_rowE HO1.out HBW.out _).mono HBM.out) ((own_rowE HO2.out HBW.out _).mono HBM.out) HM1L.out HM2L.out,Rw.Q_row HQ.out HWbR.out _⟩
      ·have h2':lf < (m2:Int):=by omega
       replace HR:=Hd (HR.out.trans (if_neg (by simp [h2])));go_wp2_with (refine wpList_store_row (by rfl) 26 _ _ (by rfl) bR #[.bool false,.slice none 0 0,.bool false,.slice none 0 0,.int .i64 0,.int .i64 0] (by rfl) (by rfl) 26 _ HRB.out (by exact infoS) rfl (Rw.all1 (by rfl)) ?_)
       exact ret_st rfl rfl rfl rfl (Rw.Bk_row HRB.out [.bool false,.slice none 0 0,.bool false,.slice none 0 0,.int .i64 0,.int .i64 0]) rfl ⟨_,by rw [HR.out] <;> rfl,by rw [HR.out];exact SO.zero _ _,Rw.Q_row HQ.out HWbR.out _⟩
     ·have h1':li < (m1:Int):=by omega
      replace HR:=Hd (HR.out.trans (if_neg (by simp [h1])));go_wp2_with (refine wpList_store_row (by rfl) 26 _ _ (by rfl) bR #[.bool false,.slice none 0 0,.bool false,.slice none 0 0,.int .i64 0,.int .i64 0] (by rfl) (by rfl) 26 _ HRB.out (by exact infoS) rfl (Rw.all1 (by rfl)) ?_)
      exact ret_st rfl rfl rfl rfl (Rw.Bk_row HRB.out [.bool false,.slice none 0 0,.bool false,.slice none 0 0,.int .i64 0,.int .i64 0]) rfl ⟨_,by rw [HR.out] <;> rfl,by rw [HR.out];exact SO.zero _ _,Rw.Q_row HQ.out HWbR.out _⟩
end Re
end
end Go.Proofs.Ytnehhbobhnmbcaa
