/- The document's own answers on states: Select, Toggle, Move. (and more) -/
import Derived.Test.YtnehhbobhnmbcaaR24
set_option linter.all false
set_option maxRecDepth 100000
set_option maxHeartbeats 8000000
namespace Go.Proofs.Ytnehhbobhnmbcaa
section
open Go.RowKit
namespace Re
open Ed Tm
def SL (w:World) (v:Value) (s:S):Prop:=∃ a1 c1 a2 c2,v = .agg #[.bool s.d.g,.slice a1 s.d.i.length c1,.bool s.d.s,.slice a2 s.d.f.length c2,.int .i64 s.c,.int .i64 s.a] /\ Lst w (.slice a1 s.d.i.length c1) s.d.i /\ Lst w (.slice a2 s.d.f.length c2) s.d.f
theorem SL.zero (w:World):SL w (.agg #[.bool false,.slice none 0 0,.bool false,.slice none 0 0,.int .i64 0,.int .i64 0]) S0:=⟨none,0,none,0,rfl,Lst.nil _ _ _ (by unfold maxLen;omega) (fun _=>rfl),Lst.nil _ _ _ (by unfold maxLen;omega) (fun _=>rfl)⟩
theorem SL.of {w:World} {g s:Bool} {a1 a2:Option Addr} {n1 n2 c1 c2:Nat} {I F:List Int} {c a:Int} (hi:Lst w (.slice a1 n1 c1) I) (hf:Lst w (.slice a2 n2 c2) F) (k1:I.length = n1) (k2:F.length = n2):SL w (.agg #[.bool g,.slice a1 n1 c1,.bool s,.slice a2 n2 c2,.int .i64 c,.int .i64 a]) ⟨⟨g,I,s,F⟩,c,a⟩:=by
 subst k1 k2;exact ⟨a1,c1,a2,c2,rfl,hi,hf⟩
theorem SL.q {w w':World} {v:Value} {s:S} (h:SL w v s) (hq:Q w w'):SL w' v s:=by
 obtain ⟨a1,c1,a2,c2,h0,h1,h2⟩:=h;exact ⟨a1,c1,a2,c2,h0,h1.q hq,h2.q hq⟩
theorem lst_in {w u:World} {b:Nat} {v:Value} {zs:List Int} (h:Lst w v zs) (hq:Q w u) (hb:w.heap.size <= b) (cs:Array Value):Lst (u.setRow b cs) v zs:=h.q (Rw.Q_row hq hb cs)
def SI (vi vf:Value) (I F:List Int) (v:Value) (s:S):Prop:=∃ a1 c1 a2 c2,v = .agg #[.bool s.d.g,.slice a1 s.d.i.length c1,.bool s.d.s,.slice a2 s.d.f.length c2,.int .i64 s.c,.int .i64 s.a] /\ ∀ u,Lst u vi I -> Lst u vf F -> Lst u (.slice a1 s.d.i.length c1) s.d.i /\ Lst u (.slice a2 s.d.f.length c2) s.d.f
theorem SI.zero (vi vf:Value) (I F:List Int):SI vi vf I F (.agg #[.bool false,.slice none 0 0,.bool false,.slice none 0 0,.int .i64 0,.int .i64 0]) S0:=⟨none,0,none,0,rfl,fun u _ _=>⟨Lst.nil _ _ _ (by unfold maxLen;omega) (fun _=>rfl),Lst.nil _ _ _ (by unfold maxLen;omega) (fun _=>rfl)⟩⟩
theorem SI.of {g s:Bool} {a1 a2:Option Addr} {n1 n2 c1 c2:Nat} {I F:List Int} {c a:Int} (k1:I.length = n1) (k2:F.length = n2):SI (.slice a1 n1 c1) (.slice a2 n2 c2) I F (.agg #[.bool g,.slice a1 n1 c1,.bool s,.slice a2 n2 c2,.int .i64 c,.int .i64 a]) ⟨⟨g,I,s,F⟩,c,a⟩:=by
 subst k1 k2;exact ⟨a1,c1,a2,c2,rfl,fun u h1 h2=>⟨h1,h2⟩⟩
theorem sel_any (g s:Bool) (a1 a2:Option Addr) (n1 n2 c1 c2:Nat) (I F:List Int) (c a:Int) (an ca:Int) (w:World) (hi:Lst w (.slice a1 n1 c1) I) (hf:Lst w (.slice a2 n2 c2) F) (k1:I.length = n1) (k2:F.length = n2) (l1:n1 <= 100000) (l2:n2 <= 100000) :
  Calls Try.prog 26 #[.agg #[.bool g,.slice a1 n1 c1,.bool s,.slice a2 n2 c2,.int .i64 c,.int .i64 a],.int .i64 an,.int .i64 ca] w fun e w'=>∃ v,e = .returned (.tuple #[v,.int .i64 (sel ⟨⟨g,I,s,F⟩,c,a⟩ an ca).2]) /\ SI (.slice a1 n1 c1) (.slice a2 n2 c2) I F v (sel ⟨⟨g,I,s,F⟩,c,a⟩ an ca).1 /\ Q w w':=by
 have HMY:=Hd (fun u (q:Q w u) (c a:Int)=>may_any g s a1 a2 n1 n2 c1 c2 I F c a u (hi.q q) (hf.q q) k1 k2 l1 l2);have HI:=Hd hi;have HF:=Hd hf;have HK1:=Hd k1;have HK2:=Hd k2;have HR:=Hd (show sel ⟨⟨g,I,s,F⟩,c,a⟩ an ca = if mayS ⟨⟨g,I,s,F⟩,c,a⟩ = true then (if mayS ⟨⟨g,I,s,F⟩,ca,an⟩ = true then (⟨⟨g,I,s,F⟩,ca,an⟩,0) else (S0,3)) else (S0,1) from rfl)
 generalize sel ⟨⟨g,I,s,F⟩,c,a⟩ an ca = RR at *;have HM1:=Hd (fun u q=>HMY.out u q c a);have HM2:=Hd (fun u q=>HMY.out u q ca an);generalize mayS ⟨⟨g,I,s,F⟩,c,a⟩ = M1 at *;generalize mayS ⟨⟨g,I,s,F⟩,ca,an⟩ = M2 at *;clear hi hf k1 k2 HMY;obtain ⟨y0,hy0⟩:∃ z,z = w.alloc (.cells #[.bool g,.slice a1 n1 c1,.bool s,.slice a2 n2 c2,.int .i64 c,.int .i64 a] 26):=⟨_,rfl⟩;have hq0:Q w y0:=by rw [hy0];exact (Q.refl _).alloc _
 have hs0:y0.heap.size = w.heap.size + 1:=by rw [hy0];simp
 have hc0:Bk y0 w.heap.size 26 [.bool g,.slice a1 n1 c1,.bool s,.slice a2 n2 c2,.int .i64 c,.int .i64 a]:=by rw [hy0];exact Bk.new _ _ _
 obtain ⟨y1,hy1⟩:∃ z,z = y0.alloc (.cells #[.bool false,.slice none 0 0,.bool false,.slice none 0 0,.int .i64 0,.int .i64 0] 26):=⟨_,rfl⟩;have hq1:Q y0 y1:=by rw [hy1];exact (Q.refl _).alloc _
 have hs1:y1.heap.size = w.heap.size + 2:=by rw [hy1];simp;omega
 have hc1:Bk y1 y0.heap.size 26 [.bool false,.slice none 0 0,.bool false,.slice none 0 0,.int .i64 0,.int .i64 0]:=by rw [hy1];exact Bk.new _ _ _
 rw [hs0] at hc1;have HQ:=Hd (hq0.trans hq1);have HSB:=Hd (hc0.q hq1);have HRB:=Hd hc1;have hz2:y1 = (w.alloc (.cells #[.bool g,.slice a1 n1 c1,.bool s,.slice a2 n2 c2,.int .i64 c,.int .i64 a] 26)).alloc (.cells #[.bool false,.slice none 0 0,.bool false,.slice none 0 0,.int .i64 0,.int .i64 0] 26):=by rw [hy1,hy0]
 obtain ⟨bS,hbbS⟩:∃ k,k = w.heap.size:=⟨_,rfl⟩;have HWbS:=Hd (show w.heap.size <= bS by omega);obtain ⟨bR,hbbR⟩:∃ k,k = w.heap.size + 1:=⟨_,rfl⟩;have HWbR:=Hd (show w.heap.size <= bR by omega);clear hq0 hs0 hc0 hy0 hq1 hs1 hc1 hy1;go_enter Try.func26,Try.ntmps26
 go_upto_region 1 with fail
 rw [<- hz2,<- hbbR,<- hbbS];rw [<- hbbS] at HSB;rw [<- hbbR] at HRB;clear hz2 hbbS hbbR;go_wp2_with (refine wpList_load_row (by rfl) 26 _ (by rfl) bS (by rfl) 26 #[.bool g,.slice a1 n1 c1,.bool s,.slice a2 n2 c2,.int .i64 c,.int .i64 a] (0,0) _ HSB.out Try.underlying26 rfl (by exact infoS) ?_)
 refine (HM1.out _ HQ.out).mono ?_;rintro e u1 ⟨rfl,hq⟩;replace HQ:=Hd (Q.trans HQ.out hq);replace HSB:=Hd (Bk.q HSB.out hq);replace HRB:=Hd (Bk.q HRB.out hq);clear hq;cases M1 with
 | false =>
  replace HR:=Hd (HR.out.trans (if_neg (by decide)));go_wp2_with (refine wpList_store_row (by rfl) 26 _ _ (by rfl) bR #[.bool false,.slice none 0 0,.bool false,.slice none 0 0,.int .i64 0,.int .i64 0] (by rfl) (by rfl) 26 _ HRB.out (by exact infoS) rfl (Rw.all1 (by rfl)) ?_)
  exact ret_st rfl rfl rfl rfl (Rw.Bk_row HRB.out [.bool false,.slice none 0 0,.bool false,.slice none 0 0,.int .i64 0,.int .i64 0]) rfl ⟨_,by rw [HR.out] <;> rfl,by rw [HR.out];exact SI.zero _ _ _ _,Rw.Q_row HQ.out HWbR.out _⟩
 | true =>
  replace HR:=Hd (HR.out.trans (if_pos rfl));have xHSB0:=HSB.out.cell 0 rfl;have xHSB1:=HSB.out.cell 1 rfl;have xHSB2:=HSB.out.cell 2 rfl;have xHSB3:=HSB.out.cell 3 rfl;obtain ⟨u2,hwu2⟩:∃ z,z = u1.alloc (.cells #[.bool g,.slice a1 n1 c1,.bool s,.slice a2 n2 c2,.int .i64 ca,.int .i64 an] 26):=⟨_,rfl⟩;have hq:Q u1 u2:=by rw [hwu2];exact (Q.refl _).alloc _
  have HOB:=Hd (show Bk u2 u1.heap.size 26 [.bool g,.slice a1 n1 c1,.bool s,.slice a2 n2 c2,.int .i64 ca,.int .i64 an] by rw [hwu2];exact Bk.new _ _ _);obtain ⟨bO,hbbO⟩:∃ k,k = u1.heap.size:=⟨_,rfl⟩;rw [<- hbbO] at HOB;replace HQ:=Hd (Q.trans HQ.out hq);replace HSB:=Hd (Bk.q HSB.out hq);replace HRB:=Hd (Bk.q HRB.out hq);clear hq;go_upto_region 5 with fail
  rw [<- hwu2,<- hbbO];clear hwu2 hbbO;clear xHSB0 xHSB1 xHSB2 xHSB3;go_wp2_with (refine wpList_load_row (by rfl) 26 _ (by rfl) bO (by rfl) 26 #[.bool g,.slice a1 n1 c1,.bool s,.slice a2 n2 c2,.int .i64 ca,.int .i64 an] (0,0) _ HOB.out Try.underlying26 rfl (by exact infoS) ?_)
  refine (HM2.out _ HQ.out).mono ?_;rintro e u3 ⟨rfl,hq⟩;replace HQ:=Hd (Q.trans HQ.out hq);replace HSB:=Hd (Bk.q HSB.out hq);replace HRB:=Hd (Bk.q HRB.out hq);replace HOB:=Hd (Bk.q HOB.out hq);clear hq;cases M2 with
  | false =>
   replace HR:=Hd (HR.out.trans (if_neg (by decide)));go_wp2_with (refine wpList_store_row (by rfl) 26 _ _ (by rfl) bR #[.bool false,.slice none 0 0,.bool false,.slice none 0 0,.int .i64 0,.int .i64 0] (by rfl) (by rfl) 26 _ HRB.out (by exact infoS) rfl (Rw.all1 (by rfl)) ?_)
   exact ret_st rfl rfl rfl rfl (Rw.Bk_row HRB.out [.bool false,.slice none 0 0,.bool false,.slice none 0 0,.int .i64 0,.int .i64 0]) rfl ⟨_,by rw [HR.out] <;> rfl,by rw [HR.out];exact SI.zero _ _ _ _,Rw.Q_row HQ.out HWbR.out _⟩
  | true =>
   replace HR:=Hd (HR.out.trans (if_pos rfl));go_wp2_with (first | (refine wpList_load_row (by rfl) 26 _ (by rfl) bO (by rfl) 26 #[.bool g,.slice a1 n1 c1,.bool s,.slice a2 n2 c2,.int .i64 ca,.int .i64 an] (0,0) _ HOB.out Try.underlying26 rfl (by exact infoS) ?_) | (refine wpList_store_row (by rfl) 26 _ _ (by rfl) bR #[.bool g,.slice a1 n1 c1,.bool s,.slice a2 n2 c2,.int .i64 ca,.int .i64 an] (by rfl) (by rfl) 26 _ HRB.out (by exact infoS) rfl (Rw.all1 (by rfl)) ?_))
   exact ret_st rfl rfl rfl rfl (Rw.Bk_row HRB.out [.bool g,.slice a1 n1 c1,.bool s,.slice a2 n2 c2,.int .i64 ca,.int .i64 an]) rfl ⟨_,by rw [HR.out] <;> rfl,by rw [HR.out];exact SI.of HK1.out HK2.out,Rw.Q_row HQ.out HWbR.out _⟩
theorem tog_any (g s:Bool) (a1 a2:Option Addr) (n1 n2 c1 c2:Nat) (I F:List Int) (c a:Int) (li lf:Int) (lg:Bool) (w:World) (hi:Lst w (.slice a1 n1 c1) I) (hf:Lst w (.slice a2 n2 c2) F) (k1:I.length = n1) (k2:F.length = n2) (l1:n1 <= 100000) (l2:n2 <= 100000) :
  Calls Try.prog 28 #[.agg #[.bool g,.slice a1 n1 c1,.bool s,.slice a2 n2 c2,.int .i64 c,.int .i64 a],.agg #[.int .i64 li,.int .i64 lf,.bool lg]] w fun e w'=>∃ v,e = .returned (.tuple #[v,.int .i64 (tog ⟨⟨g,I,s,F⟩,c,a⟩ ⟨li,lf,lg⟩).2]) /\ SI (.slice a1 n1 c1) (.slice a2 n2 c2) I F v (tog ⟨⟨g,I,s,F⟩,c,a⟩ ⟨li,lf,lg⟩).1 /\ Q w w':=by
 have HMY:=Hd (fun u (q:Q w u) (c a:Int)=>may_any g s a1 a2 n1 n2 c1 c2 I F c a u (hi.q q) (hf.q q) k1 k2 l1 l2);have HI:=Hd hi;have HF:=Hd hf;have HK1:=Hd k1;have HK2:=Hd k2;have HR:=Hd (show tog ⟨⟨g,I,s,F⟩,c,a⟩ ⟨li,lf,lg⟩ = if mayS ⟨⟨g,I,s,F⟩,c,a⟩ = true then (if lg = true then (⟨⟨!g,I,s,F⟩,c,a⟩,0) else (S0,5)) else (S0,1) from rfl)
 generalize tog ⟨⟨g,I,s,F⟩,c,a⟩ ⟨li,lf,lg⟩ = RR at *;have HM1:=Hd (fun u q=>HMY.out u q c a);generalize mayS ⟨⟨g,I,s,F⟩,c,a⟩ = M1 at *;clear hi hf k1 k2 HMY;obtain ⟨y0,hy0⟩:∃ z,z = w.alloc (.cells #[.bool g,.slice a1 n1 c1,.bool s,.slice a2 n2 c2,.int .i64 c,.int .i64 a] 26):=⟨_,rfl⟩;have hq0:Q w y0:=by rw [hy0];exact (Q.refl _).alloc _
 have hs0:y0.heap.size = w.heap.size + 1:=by rw [hy0];simp
 have hc0:Bk y0 w.heap.size 26 [.bool g,.slice a1 n1 c1,.bool s,.slice a2 n2 c2,.int .i64 c,.int .i64 a]:=by rw [hy0];exact Bk.new _ _ _
 obtain ⟨y1,hy1⟩:∃ z,z = y0.alloc (.cells #[.int .i64 li,.int .i64 lf,.bool lg] 28):=⟨_,rfl⟩;have hq1:Q y0 y1:=by rw [hy1];exact (Q.refl _).alloc _
 have hs1:y1.heap.size = w.heap.size + 2:=by rw [hy1];simp;omega
 have hc1:Bk y1 y0.heap.size 28 [.int .i64 li,.int .i64 lf,.bool lg]:=by rw [hy1];exact Bk.new _ _ _
 rw [hs0] at hc1;obtain ⟨y2,hy2⟩:∃ z,z = y1.alloc (.cells #[.bool false,.slice none 0 0,.bool false,.slice none 0 0,.int .i64 0,.int .i64 0] 26):=⟨_,rfl⟩;have hq2:Q y1 y2:=by rw [hy2];exact (Q.refl _).alloc _
 have hs2:y2.heap.size = w.heap.size + 3:=by rw [hy2];simp;omega
 have hc2:Bk y2 y1.heap.size 26 [.bool false,.slice none 0 0,.bool false,.slice none 0 0,.int .i64 0,.int .i64 0]:=by rw [hy2];exact Bk.new _ _ _
 rw [hs1] at hc2;have HQ:=Hd (hq0.trans (hq1.trans hq2));have HSB:=Hd (hc0.q (hq1.trans hq2));have HLB:=Hd (hc1.q hq2);have HRB:=Hd hc2;have hz2:y2 = ((w.alloc (.cells #[.bool g,.slice a1 n1 c1,.bool s,.slice a2 n2 c2,.int .i64 c,.int .i64 a] 26)).alloc (.cells #[.int .i64 li,.int .i64 lf,.bool lg] 28)).alloc (.cells #[.bool false,.slice none 0 0,.bool false,.slice none 0 0,.int .i64 0,.int .i64 0] 26):=by rw [hy2,hy1,hy0]
 obtain ⟨bS,hbbS⟩:∃ k,k = w.heap.size:=⟨_,rfl⟩;have HWbS:=Hd (show w.heap.size <= bS by omega);obtain ⟨bL,hbbL⟩:∃ k,k = w.heap.size + 1:=⟨_,rfl⟩;have HWbL:=Hd (show w.heap.size <= bL by omega);obtain ⟨bR,hbbR⟩:∃ k,k = w.heap.size + 2:=⟨_,rfl⟩;have HWbR:=Hd (show w.heap.size <= bR by omega);clear hq0 hs0 hc0 hy0 hq1 hs1 hc1 hy1 hq2 hs2 hc2 hy2;go_enter Try.func28,Try.ntmps28
 go_upto_region 1 with fail
 try rw [show w.heap.size + 1 + 1 = w.heap.size + 2 from rfl]
 rw [<- hz2,<- hbbR,<- hbbL,<- hbbS];rw [<- hbbS] at HSB;rw [<- hbbL] at HLB;rw [<- hbbR] at HRB;have HNE:=Hd (show bS ≠ bR by omega);clear hz2 hbbS hbbL hbbR;go_wp2_with (refine wpList_load_row (by rfl) 26 _ (by rfl) bS (by rfl) 26 #[.bool g,.slice a1 n1 c1,.bool s,.slice a2 n2 c2,.int .i64 c,.int .i64 a] (0,0) _ HSB.out Try.underlying26 rfl (by exact infoS) ?_)
 refine (HM1.out _ HQ.out).mono ?_;rintro e u1 ⟨rfl,hq⟩;replace HQ:=Hd (Q.trans HQ.out hq);replace HSB:=Hd (Bk.q HSB.out hq);replace HLB:=Hd (Bk.q HLB.out hq);replace HRB:=Hd (Bk.q HRB.out hq);clear hq;cases M1 with
 | false =>
  replace HR:=Hd (HR.out.trans (if_neg (by decide)));go_wp2_with (refine wpList_store_row (by rfl) 26 _ _ (by rfl) bR #[.bool false,.slice none 0 0,.bool false,.slice none 0 0,.int .i64 0,.int .i64 0] (by rfl) (by rfl) 26 _ HRB.out (by exact infoS) rfl (Rw.all1 (by rfl)) ?_)
  exact ret_st rfl rfl rfl rfl (Rw.Bk_row HRB.out [.bool false,.slice none 0 0,.bool false,.slice none 0 0,.int .i64 0,.int .i64 0]) rfl ⟨_,by rw [HR.out] <;> rfl,by rw [HR.out];exact SI.zero _ _ _ _,Rw.Q_row HQ.out HWbR.out _⟩
 | true =>
  replace HR:=Hd (HR.out.trans (if_pos rfl));have xHLB2:=HLB.out.cell 2 rfl;cases lg with
  | false =>
   replace HR:=Hd (HR.out.trans (if_neg (by decide)));go_wp2_with (refine wpList_store_row (by rfl) 26 _ _ (by rfl) bR #[.bool false,.slice none 0 0,.bool false,.slice none 0 0,.int .i64 0,.int .i64 0] (by rfl) (by rfl) 26 _ HRB.out (by exact infoS) rfl (Rw.all1 (by rfl)) ?_)
   exact ret_st rfl rfl rfl rfl (Rw.Bk_row HRB.out [.bool false,.slice none 0 0,.bool false,.slice none 0 0,.int .i64 0,.int .i64 0]) rfl ⟨_,by rw [HR.out] <;> rfl,by rw [HR.out];exact SI.zero _ _ _ _,Rw.Q_row HQ.out HWbR.out _⟩
  | true =>
   replace HR:=Hd (HR.out.trans (if_pos rfl));have x0:=HSB.out.cell 0 rfl;have f0:=HSB.out.free 0;obtain ⟨v9,hv9⟩:∃ z,z = u1.setCell ⟨bS,0,none⟩ (.bool (!g)):=⟨_,rfl⟩;have HS9:=Hd (show Bk v9 bS 26 [.bool (!g),.slice a1 n1 c1,.bool s,.slice a2 n2 c2,.int .i64 c,.int .i64 a] by rw [hv9];exact HSB.out.set 0 _);have HR9:=Hd (show Bk v9 bR 26 [.bool false,.slice none 0 0,.bool false,.slice none 0 0,.int .i64 0,.int .i64 0] by rw [hv9];exact HRB.out.past HNE.out _);replace HQ:=Hd (show Q w v9 by rw [hv9];exact Q.setCell HQ.out (ad:=⟨bS,0,none⟩) HWbS.out _);replace HRB:=HR9;clear HSB HR9;go_upto_region 7 with fail
   rw [<- hv9];clear hv9 x0 f0 xHLB2;go_wp2_with (first | (refine wpList_load_row (by rfl) 26 _ (by rfl) bS (by rfl) 26 #[.bool (!g),.slice a1 n1 c1,.bool s,.slice a2 n2 c2,.int .i64 c,.int .i64 a] (0,0) _ HS9.out Try.underlying26 rfl (by exact infoS) ?_) | (refine wpList_store_row (by rfl) 26 _ _ (by rfl) bR #[.bool (!g),.slice a1 n1 c1,.bool s,.slice a2 n2 c2,.int .i64 c,.int .i64 a] (by rfl) (by rfl) 26 _ HRB.out (by exact infoS) rfl (Rw.all1 (by rfl)) ?_))
   exact ret_st rfl rfl rfl rfl (Rw.Bk_row HRB.out [.bool (!g),.slice a1 n1 c1,.bool s,.slice a2 n2 c2,.int .i64 c,.int .i64 a]) rfl ⟨_,by rw [HR.out] <;> rfl,by rw [HR.out];exact SI.of HK1.out HK2.out,Rw.Q_row HQ.out HWbR.out _⟩
theorem mov_any (g s:Bool) (a1 a2:Option Addr) (n1 n2 c1 c2:Nat) (I F:List Int) (c a:Int) (h:Int) (kp:Bool) (w:World) (hi:Lst w (.slice a1 n1 c1) I) (hf:Lst w (.slice a2 n2 c2) F) (k1:I.length = n1) (k2:F.length = n2) (l1:n1 <= 100000) (l2:n2 <= 100000) :
  Calls Try.prog 23 #[.agg #[.bool g,.slice a1 n1 c1,.bool s,.slice a2 n2 c2,.int .i64 c,.int .i64 a],.int .i64 h,.bool kp] w fun e w'=>∃ v,e = .returned (.tuple #[v,.int .i64 (mov ⟨⟨g,I,s,F⟩,c,a⟩ h kp).2]) /\ SI (.slice a1 n1 c1) (.slice a2 n2 c2) I F v (mov ⟨⟨g,I,s,F⟩,c,a⟩ h kp).1 /\ Q w w':=by
 have HMY:=Hd (fun u (q:Q w u) (c a:Int)=>may_any g s a1 a2 n1 n2 c1 c2 I F c a u (hi.q q) (hf.q q) k1 k2 l1 l2);have HI:=Hd hi;have HF:=Hd hf;have HK1:=Hd k1;have HK2:=Hd k2;have HR:=Hd (show mov ⟨⟨g,I,s,F⟩,c,a⟩ h kp = if mayS ⟨⟨g,I,s,F⟩,c,a⟩ = true /\ 0 <= h /\ h <= 5 then (⟨⟨g,I,s,F⟩,movT ⟨⟨g,I,s,F⟩,c,a⟩ h kp,if kp = true then a else movT ⟨⟨g,I,s,F⟩,c,a⟩ h kp⟩,0) else (S0,1) from rfl)
 have HMT:=Hd (show movT ⟨⟨g,I,s,F⟩,c,a⟩ h kp = if kp = false /\ ¬ c = a /\ h = 0 then min c a else if kp = false /\ ¬ c = a /\ h = 1 then max c a else way ⟨⟨g,I,s,F⟩,c,a⟩ h from rfl)
 have HWY:=Hd (fun u (q:Q w u) (hm:mayS ⟨⟨g,I,s,F⟩,c,a⟩ = true)=>show Calls Try.prog 45 #[.agg #[.bool g,.slice a1 n1 c1,.bool s,.slice a2 n2 c2,.int .i64 c,.int .i64 a],.int .i64 h] u fun e w'=>e = .returned (.int .i64 (way ⟨⟨g,I,s,F⟩,c,a⟩ h)) /\ Q u w' from by
  have hc:=((mayS_iff _).1 hm).2.1;unfold len at hc;dsimp only at hc;obtain ⟨k,rfl⟩:∃ k:Nat,c = k:=⟨c.toNat,by omega⟩;exact way_any g s a1 a2 n1 n2 c1 c2 I F k a h u (hi.q q) (hf.q q) k1 k2 l1 l2 (by omega))
 have HMB:=Hd (fun (hm:mayS ⟨⟨g,I,s,F⟩,c,a⟩ = true)=>(mayS_iff _).1 hm);generalize mov ⟨⟨g,I,s,F⟩,c,a⟩ h kp = RR at *;generalize movT ⟨⟨g,I,s,F⟩,c,a⟩ h kp = MT at *;generalize way ⟨⟨g,I,s,F⟩,c,a⟩ h = WY at *;have HM1:=Hd (fun u q=>HMY.out u q c a);generalize mayS ⟨⟨g,I,s,F⟩,c,a⟩ = M1 at *;clear hi hf k1 k2 HMY HMB;obtain ⟨y0,hy0⟩:∃ z,z = w.alloc (.cells #[.bool g,.slice a1 n1 c1,.bool s,.slice a2 n2 c2,.int .i64 c,.int .i64 a] 26):=⟨_,rfl⟩;have hq0:Q w y0:=by rw [hy0];exact (Q.refl _).alloc _
 have hs0:y0.heap.size = w.heap.size + 1:=by rw [hy0];simp
 have hc0:Bk y0 w.heap.size 26 [.bool g,.slice a1 n1 c1,.bool s,.slice a2 n2 c2,.int .i64 c,.int .i64 a]:=by rw [hy0];exact Bk.new _ _ _
 obtain ⟨y1,hy1⟩:∃ z,z = y0.alloc (.cells #[.bool false,.slice none 0 0,.bool false,.slice none 0 0,.int .i64 0,.int .i64 0] 26):=⟨_,rfl⟩;have hq1:Q y0 y1:=by rw [hy1];exact (Q.refl _).alloc _
 have hs1:y1.heap.size = w.heap.size + 2:=by rw [hy1];simp;omega
 have hc1:Bk y1 y0.heap.size 26 [.bool false,.slice none 0 0,.bool false,.slice none 0 0,.int .i64 0,.int .i64 0]:=by rw [hy1];exact Bk.new _ _ _
 rw [hs0] at hc1;have HQ:=Hd (hq0.trans hq1);have HSB:=Hd (hc0.q hq1);have HRB:=Hd hc1;have hz2:y1 = (w.alloc (.cells #[.bool g,.slice a1 n1 c1,.bool s,.slice a2 n2 c2,.int .i64 c,.int .i64 a] 26)).alloc (.cells #[.bool false,.slice none 0 0,.bool false,.slice none 0 0,.int .i64 0,.int .i64 0] 26):=by rw [hy1,hy0]
 obtain ⟨bS,hbbS⟩:∃ k,k = w.heap.size:=⟨_,rfl⟩;have HWbS:=Hd (show w.heap.size <= bS by omega);obtain ⟨bR,hbbR⟩:∃ k,k = w.heap.size + 1:=⟨_,rfl⟩;have HWbR:=Hd (show w.heap.size <= bR by omega);clear hq0 hs0 hc0 hy0 hq1 hs1 hc1 hy1;go_enter Try.func23,Try.ntmps23
 go_upto_region 1 with fail
 rw [<- hz2,<- hbbR,<- hbbS];rw [<- hbbS] at HSB;rw [<- hbbR] at HRB;have HNE:=Hd (show bS ≠ bR by omega);clear hz2 hbbS hbbR;go_wp2_with (refine wpList_load_row (by rfl) 26 _ (by rfl) bS (by rfl) 26 #[.bool g,.slice a1 n1 c1,.bool s,.slice a2 n2 c2,.int .i64 c,.int .i64 a] (0,0) _ HSB.out Try.underlying26 rfl (by exact infoS) ?_)
 refine (HM1.out _ HQ.out).mono ?_;rintro e u1 ⟨rfl,hq⟩;replace HQ:=Hd (Q.trans HQ.out hq);replace HSB:=Hd (Bk.q HSB.out hq);replace HRB:=Hd (Bk.q HRB.out hq);clear hq;cases M1 with
 | false =>
  replace HR:=Hd (HR.out.trans (if_neg (fun h=>by cases h.1)));go_wp2_with (refine wpList_store_row (by rfl) 26 _ _ (by rfl) bR #[.bool false,.slice none 0 0,.bool false,.slice none 0 0,.int .i64 0,.int .i64 0] (by rfl) (by rfl) 26 _ HRB.out (by exact infoS) rfl (Rw.all1 (by rfl)) ?_)
  exact ret_st rfl rfl rfl rfl (Rw.Bk_row HRB.out [.bool false,.slice none 0 0,.bool false,.slice none 0 0,.int .i64 0,.int .i64 0]) rfl ⟨_,by rw [HR.out] <;> rfl,by rw [HR.out];exact SI.zero _ _ _ _,Rw.Q_row HQ.out HWbR.out _⟩
 | true =>
  by_cases hh1:¬ 0 <= h
  ·replace HR:=Hd (HR.out.trans (if_neg (fun e=>by omega)))
   go_wp2_with (refine wpList_store_row (by rfl) 26 _ _ (by rfl) bR #[.bool false,.slice none 0 0,.bool false,.slice none 0 0,.int .i64 0,.int .i64 0] (by rfl) (by rfl) 26 _ HRB.out (by exact infoS) rfl (Rw.all1 (by rfl)) ?_)
   exact ret_st rfl rfl rfl rfl (Rw.Bk_row HRB.out [.bool false,.slice none 0 0,.bool false,.slice none 0 0,.int .i64 0,.int .i64 0]) rfl ⟨_,by rw [HR.out] <;> rfl,by rw [HR.out];exact SI.zero _ _ _ _,Rw.Q_row HQ.out HWbR.out _⟩
  by_cases hh2:¬ h <= 5
  ·replace HR:=Hd (HR.out.trans (if_neg (fun e=>by omega)))
   go_wp2_with (refine wpList_store_row (by rfl) 26 _ _ (by rfl) bR #[.bool false,.slice none 0 0,.bool false,.slice none 0 0,.int .i64 0,.int .i64 0] (by rfl) (by rfl) 26 _ HRB.out (by exact infoS) rfl (Rw.all1 (by rfl)) ?_)
   exact ret_st rfl rfl rfl rfl (Rw.Bk_row HRB.out [.bool false,.slice none 0 0,.bool false,.slice none 0 0,.int .i64 0,.int .i64 0]) rfl ⟨_,by rw [HR.out] <;> rfl,by rw [HR.out];exact SI.zero _ _ _ _,Rw.Q_row HQ.out HWbR.out _⟩
  have hh3:0 <= h:=by omega
  have hh4:h <= 5:=by omega
  clear hh1 hh2;replace HR:=Hd (HR.out.trans (if_pos ⟨rfl,hh3,hh4⟩));go_wp2_with (refine wpList_load_row (by rfl) 26 _ (by rfl) bS (by rfl) 26 #[.bool g,.slice a1 n1 c1,.bool s,.slice a2 n2 c2,.int .i64 c,.int .i64 a] (0,0) _ HSB.out Try.underlying26 rfl (by exact infoS) ?_)
  refine (HWY.out _ HQ.out (by first | rfl | trivial)).mono ?_;rintro e u2 ⟨rfl,hq⟩;replace HQ:=Hd (Q.trans HQ.out hq);replace HSB:=Hd (Bk.q HSB.out hq);replace HRB:=Hd (Bk.q HRB.out hq);clear hq;have xHSB4:=HSB.out.cell 4 rfl;have xHSB5:=HSB.out.cell 5 rfl;have f4:=HSB.out.free 4;have f5:=HSB.out.free 5;have step:True:=trivial;clear step;by_cases hk:kp = false /\ ¬ c = a /\ h = 0
  ·have hmt:=HMT.out.trans (if_pos hk)
   obtain ⟨rfl,hca,rfl⟩:=hk;obtain ⟨hlt,hmn⟩ | ⟨hlt,hmn⟩:(c < a /\ min c a = c) \/ (a < c /\ min c a = a):=by omega
   ·rw [hmn] at hmt
    clear hmn;subst hmt;go_upto_region 9 with fail
    obtain ⟨v8,hv8⟩:∃ z,z = u2.setCell ⟨bS,4,none⟩ (.int .i64 MT):=⟨_,rfl⟩;have hs8:Bk v8 bS 26 [.bool g,.slice a1 n1 c1,.bool s,.slice a2 n2 c2,.int .i64 MT,.int .i64 a]:=by rw [hv8];exact HSB.out.set 4 _
    have hr8:Bk v8 bR 26 [.bool false,.slice none 0 0,.bool false,.slice none 0 0,.int .i64 0,.int .i64 0]:=by rw [hv8];exact HRB.out.past HNE.out _
    have hq8:Q w v8:=by rw [hv8];exact Q.setCell HQ.out (ad:=⟨bS,4,none⟩) HWbS.out _
    go_upto_region 10 with fail
    rw [<- hv8];have e5:=hs8.cell 5 rfl;have f55:=hs8.free 5;obtain ⟨v9,hv9⟩:∃ z,z = v8.setCell ⟨bS,5,none⟩ (.int .i64 MT):=⟨_,rfl⟩;have hs9:Bk v9 bS 26 [.bool g,.slice a1 n1 c1,.bool s,.slice a2 n2 c2,.int .i64 MT,.int .i64 MT]:=by rw [hv9];exact hs8.set 5 _
    have hr9:Bk v9 bR 26 [.bool false,.slice none 0 0,.bool false,.slice none 0 0,.int .i64 0,.int .i64 0]:=by rw [hv9];exact hr8.past HNE.out _
    have hq9:Q w v9:=by rw [hv9];exact Q.setCell hq8 (ad:=⟨bS,5,none⟩) HWbS.out _
    replace HQ:=Hd hq9;replace HRB:=Hd hr9;replace HSB:=Hd hs9;clear hv8 hq8 hr8 hs8 hq9 hr9 hs9 xHSB4 xHSB5 f4 f5;go_upto_region 12 with fail
    rw [<- hv9];clear hv9 e5 f55;go_wp2_with (first | (refine wpList_load_row (by rfl) 26 _ (by rfl) bS (by rfl) 26 #[.bool g,.slice a1 n1 c1,.bool s,.slice a2 n2 c2,.int .i64 MT,.int .i64 MT] (0,0) _ HSB.out Try.underlying26 rfl (by exact infoS) ?_) | (refine wpList_store_row (by rfl) 26 _ _ (by rfl) bR #[.bool g,.slice a1 n1 c1,.bool s,.slice a2 n2 c2,.int .i64 MT,.int .i64 MT] (by rfl) (by rfl) 26 _ HRB.out (by exact infoS) rfl (Rw.all1 (by rfl)) ?_))
    exact ret_st rfl rfl rfl rfl (Rw.Bk_row HRB.out [.bool g,.slice a1 n1 c1,.bool s,.slice a2 n2 c2,.int .i64 MT,.int .i64 MT]) rfl ⟨_,by rw [HR.out] <;> rfl,by rw [HR.out];exact SI.of HK1.out HK2.out,Rw.Q_row HQ.out HWbR.out _⟩
   ·rw [hmn] at hmt
    clear hmn;subst hmt;go_upto_region 9 with fail
    obtain ⟨v8,hv8⟩:∃ z,z = u2.setCell ⟨bS,4,none⟩ (.int .i64 MT):=⟨_,rfl⟩;have hs8:Bk v8 bS 26 [.bool g,.slice a1 n1 c1,.bool s,.slice a2 n2 c2,.int .i64 MT,.int .i64 MT]:=by rw [hv8];exact HSB.out.set 4 _
    have hr8:Bk v8 bR 26 [.bool false,.slice none 0 0,.bool false,.slice none 0 0,.int .i64 0,.int .i64 0]:=by rw [hv8];exact HRB.out.past HNE.out _
    have hq8:Q w v8:=by rw [hv8];exact Q.setCell HQ.out (ad:=⟨bS,4,none⟩) HWbS.out _
    go_upto_region 10 with fail
    rw [<- hv8];have e5:=hs8.cell 5 rfl;have f55:=hs8.free 5;obtain ⟨v9,hv9⟩:∃ z,z = v8.setCell ⟨bS,5,none⟩ (.int .i64 MT):=⟨_,rfl⟩;have hs9:Bk v9 bS 26 [.bool g,.slice a1 n1 c1,.bool s,.slice a2 n2 c2,.int .i64 MT,.int .i64 MT]:=by rw [hv9];exact hs8.set 5 _
    have hr9:Bk v9 bR 26 [.bool false,.slice none 0 0,.bool false,.slice none 0 0,.int .i64 0,.int .i64 0]:=by rw [hv9];exact hr8.past HNE.out _
    have hq9:Q w v9:=by rw [hv9];exact Q.setCell hq8 (ad:=⟨bS,5,none⟩) HWbS.out _
    replace HQ:=Hd hq9;replace HRB:=Hd hr9;replace HSB:=Hd hs9;clear hv8 hq8 hr8 hs8 hq9 hr9 hs9 xHSB4 xHSB5 f4 f5;go_upto_region 12 with fail
    rw [<- hv9];clear hv9 e5 f55;go_wp2_with (first | (refine wpList_load_row (by rfl) 26 _ (by rfl) bS (by rfl) 26 #[.bool g,.slice a1 n1 c1,.bool s,.slice a2 n2 c2,.int .i64 MT,.int .i64 MT] (0,0) _ HSB.out Try.underlying26 rfl (by exact infoS) ?_) | (refine wpList_store_row (by rfl) 26 _ _ (by rfl) bR #[.bool g,.slice a1 n1 c1,.bool s,.slice a2 n2 c2,.int .i64 MT,.int .i64 MT] (by rfl) (by rfl) 26 _ HRB.out (by exact infoS) rfl (Rw.all1 (by rfl)) ?_))
    exact ret_st rfl rfl rfl rfl (Rw.Bk_row HRB.out [.bool g,.slice a1 n1 c1,.bool s,.slice a2 n2 c2,.int .i64 MT,.int .i64 MT]) rfl ⟨_,by rw [HR.out] <;> rfl,by rw [HR.out];exact SI.of HK1.out HK2.out,Rw.Q_row HQ.out HWbR.out _⟩
  ·have hmt1:=HMT.out.trans (if_neg hk)
   by_cases hk2:kp = false /\ ¬ c = a /\ h = 1
   ·have hmt:=hmt1.trans (if_pos hk2)
    obtain ⟨rfl,hca,rfl⟩:=hk2;clear hk hmt1;obtain ⟨hlt,hmn⟩ | ⟨hlt,hmn⟩:(c < a /\ max c a = a) \/ (a < c /\ max c a = c):=by omega
    ·rw [hmn] at hmt
     clear hmn;subst hmt;go_upto_region 9 with fail
     obtain ⟨v8,hv8⟩:∃ z,z = u2.setCell ⟨bS,4,none⟩ (.int .i64 MT):=⟨_,rfl⟩;have hs8:Bk v8 bS 26 [.bool g,.slice a1 n1 c1,.bool s,.slice a2 n2 c2,.int .i64 MT,.int .i64 MT]:=by rw [hv8];exact HSB.out.set 4 _
     have hr8:Bk v8 bR 26 [.bool false,.slice none 0 0,.bool false,.slice none 0 0,.int .i64 0,.int .i64 0]:=by rw [hv8];exact HRB.out.past HNE.out _
     have hq8:Q w v8:=by rw [hv8];exact Q.setCell HQ.out (ad:=⟨bS,4,none⟩) HWbS.out _
     go_upto_region 10 with fail
     rw [<- hv8];have e5:=hs8.cell 5 rfl;have f55:=hs8.free 5;obtain ⟨v9,hv9⟩:∃ z,z = v8.setCell ⟨bS,5,none⟩ (.int .i64 MT):=⟨_,rfl⟩;have hs9:Bk v9 bS 26 [.bool g,.slice a1 n1 c1,.bool s,.slice a2 n2 c2,.int .i64 MT,.int .i64 MT]:=by rw [hv9];exact hs8.set 5 _
     have hr9:Bk v9 bR 26 [.bool false,.slice none 0 0,.bool false,.slice none 0 0,.int .i64 0,.int .i64 0]:=by rw [hv9];exact hr8.past HNE.out _
     have hq9:Q w v9:=by rw [hv9];exact Q.setCell hq8 (ad:=⟨bS,5,none⟩) HWbS.out _
     replace HQ:=Hd hq9;replace HRB:=Hd hr9;replace HSB:=Hd hs9;clear hv8 hq8 hr8 hs8 hq9 hr9 hs9 xHSB4 xHSB5 f4 f5;go_upto_region 12 with fail
     rw [<- hv9];clear hv9 e5 f55;go_wp2_with (first | (refine wpList_load_row (by rfl) 26 _ (by rfl) bS (by rfl) 26 #[.bool g,.slice a1 n1 c1,.bool s,.slice a2 n2 c2,.int .i64 MT,.int .i64 MT] (0,0) _ HSB.out Try.underlying26 rfl (by exact infoS) ?_) | (refine wpList_store_row (by rfl) 26 _ _ (by rfl) bR #[.bool g,.slice a1 n1 c1,.bool s,.slice a2 n2 c2,.int .i64 MT,.int .i64 MT] (by rfl) (by rfl) 26 _ HRB.out (by exact infoS) rfl (Rw.all1 (by rfl)) ?_))
     exact ret_st rfl rfl rfl rfl (Rw.Bk_row HRB.out [.bool g,.slice a1 n1 c1,.bool s,.slice a2 n2 c2,.int .i64 MT,.int .i64 MT]) rfl ⟨_,by rw [HR.out] <;> rfl,by rw [HR.out];exact SI.of HK1.out HK2.out,Rw.Q_row HQ.out HWbR.out _⟩
    ·rw [hmn] at hmt
     clear hmn;subst hmt;go_upto_region 9 with fail
     obtain ⟨v8,hv8⟩:∃ z,z = u2.setCell ⟨bS,4,none⟩ (.int .i64 MT):=⟨_,rfl⟩;have hs8:Bk v8 bS 26 [.bool g,.slice a1 n1 c1,.bool s,.slice a2 n2 c2,.int .i64 MT,.int .i64 a]:=by rw [hv8];exact HSB.out.set 4 _
     have hr8:Bk v8 bR 26 [.bool false,.slice none 0 0,.bool false,.slice none 0 0,.int .i64 0,.int .i64 0]:=by rw [hv8];exact HRB.out.past HNE.out _
     have hq8:Q w v8:=by rw [hv8];exact Q.setCell HQ.out (ad:=⟨bS,4,none⟩) HWbS.out _
     go_upto_region 10 with fail
     rw [<- hv8];have e5:=hs8.cell 5 rfl;have f55:=hs8.free 5;obtain ⟨v9,hv9⟩:∃ z,z = v8.setCell ⟨bS,5,none⟩ (.int .i64 MT):=⟨_,rfl⟩;have hs9:Bk v9 bS 26 [.bool g,.slice a1 n1 c1,.bool s,.slice a2 n2 c2,.int .i64 MT,.int .i64 MT]:=by rw [hv9];exact hs8.set 5 _
     have hr9:Bk v9 bR 26 [.bool false,.slice none 0 0,.bool false,.slice none 0 0,.int .i64 0,.int .i64 0]:=by rw [hv9];exact hr8.past HNE.out _
     have hq9:Q w v9:=by rw [hv9];exact Q.setCell hq8 (ad:=⟨bS,5,none⟩) HWbS.out _
     replace HQ:=Hd hq9;replace HRB:=Hd hr9;replace HSB:=Hd hs9;clear hv8 hq8 hr8 hs8 hq9 hr9 hs9 xHSB4 xHSB5 f4 f5;go_upto_region 12 with fail
     rw [<- hv9];clear hv9 e5 f55;go_wp2_with (first | (refine wpList_load_row (by rfl) 26 _ (by rfl) bS (by rfl) 26 #[.bool g,.slice a1 n1 c1,.bool s,.slice a2 n2 c2,.int .i64 MT,.int .i64 MT] (0,0) _ HSB.out Try.underlying26 rfl (by exact infoS) ?_) | (refine wpList_store_row (by rfl) 26 _ _ (by rfl) bR #[.bool g,.slice a1 n1 c1,.bool s,.slice a2 n2 c2,.int .i64 MT,.int .i64 MT] (by rfl) (by rfl) 26 _ HRB.out (by exact infoS) rfl (Rw.all1 (by rfl)) ?_))
     exact ret_st rfl rfl rfl rfl (Rw.Bk_row HRB.out [.bool g,.slice a1 n1 c1,.bool s,.slice a2 n2 c2,.int .i64 MT,.int .i64 MT]) rfl ⟨_,by rw [HR.out] <;> rfl,by rw [HR.out];exact SI.of HK1.out HK2.out,Rw.Q_row HQ.out HWbR.out _⟩
   ·have hmt:=hmt1.trans (if_neg hk2)
    clear hmt1;subst hmt;have hcs:kp = true \/ (kp = false /\ c = a) \/ (kp = false /\ ¬ c = a /\ ¬ h = 0 /\ ¬ h = 1):=by
     cases kp with
     | true=>exact .inl rfl
     | false =>
      by_cases hca:c = a
      ·exact .inr (.inl ⟨rfl,hca⟩)
      ·exact .inr (.inr ⟨rfl,hca,fun e=>hk ⟨rfl,hca,e⟩,fun e=>hk2 ⟨rfl,hca,e⟩⟩)
    clear hk hk2;rcases hcs with rfl | ⟨rfl,hca⟩ | ⟨rfl,hca,hh0,hh1⟩
    ·go_upto_region 9 with fail
     obtain ⟨v8,hv8⟩:∃ z,z = u2.setCell ⟨bS,4,none⟩ (.int .i64 MT):=⟨_,rfl⟩;have hs8:Bk v8 bS 26 [.bool g,.slice a1 n1 c1,.bool s,.slice a2 n2 c2,.int .i64 MT,.int .i64 a]:=by rw [hv8];exact HSB.out.set 4 _
     have hr8:Bk v8 bR 26 [.bool false,.slice none 0 0,.bool false,.slice none 0 0,.int .i64 0,.int .i64 0]:=by rw [hv8];exact HRB.out.past HNE.out _
     have hq8:Q w v8:=by rw [hv8];exact Q.setCell HQ.out (ad:=⟨bS,4,none⟩) HWbS.out _
     go_upto_region 10 with fail
     rw [<- hv8];replace HQ:=Hd hq8;replace HRB:=Hd hr8;replace HSB:=Hd hs8;clear hv8 hq8 hr8 hs8 xHSB4 xHSB5 f4 f5;go_wp2_with (first | (refine wpList_load_row (by rfl) 26 _ (by rfl) bS (by rfl) 26 #[.bool g,.slice a1 n1 c1,.bool s,.slice a2 n2 c2,.int .i64 MT,.int .i64 a] (0,0) _ HSB.out Try.underlying26 rfl (by exact infoS) ?_) | (refine wpList_store_row (by rfl) 26 _ _ (by rfl) bR #[.bool g,.slice a1 n1 c1,.bool s,.slice a2 n2 c2,.int .i64 MT,.int .i64 a] (by rfl) (by rfl) 26 _ HRB.out (by exact infoS) rfl (Rw.all1 (by rfl)) ?_))
     exact ret_st rfl rfl rfl rfl (Rw.Bk_row HRB.out [.bool g,.slice a1 n1 c1,.bool s,.slice a2 n2 c2,.int .i64 MT,.int .i64 a]) rfl ⟨_,by rw [HR.out] <;> rfl,by rw [HR.out];exact SI.of HK1.out HK2.out,Rw.Q_row HQ.out HWbR.out _⟩
    ·subst hca
     go_upto_region 9 with fail
     obtain ⟨v8,hv8⟩:∃ z,z = u2.setCell ⟨bS,4,none⟩ (.int .i64 MT):=⟨_,rfl⟩;have hs8:Bk v8 bS 26 [.bool g,.slice a1 n1 c1,.bool s,.slice a2 n2 c2,.int .i64 MT,.int .i64 c]:=by rw [hv8];exact HSB.out.set 4 _
     have hr8:Bk v8 bR 26 [.bool false,.slice none 0 0,.bool false,.slice none 0 0,.int .i64 0,.int .i64 0]:=by rw [hv8];exact HRB.out.past HNE.out _
     have hq8:Q w v8:=by rw [hv8];exact Q.setCell HQ.out (ad:=⟨bS,4,none⟩) HWbS.out _
     go_upto_region 10 with fail
     rw [<- hv8];have e5:=hs8.cell 5 rfl;have f55:=hs8.free 5;obtain ⟨v9,hv9⟩:∃ z,z = v8.setCell ⟨bS,5,none⟩ (.int .i64 MT):=⟨_,rfl⟩;have hs9:Bk v9 bS 26 [.bool g,.slice a1 n1 c1,.bool s,.slice a2 n2 c2,.int .i64 MT,.int .i64 MT]:=by rw [hv9];exact hs8.set 5 _
     have hr9:Bk v9 bR 26 [.bool false,.slice none 0 0,.bool false,.slice none 0 0,.int .i64 0,.int .i64 0]:=by rw [hv9];exact hr8.past HNE.out _
     have hq9:Q w v9:=by rw [hv9];exact Q.setCell hq8 (ad:=⟨bS,5,none⟩) HWbS.out _
     replace HQ:=Hd hq9;replace HRB:=Hd hr9;replace HSB:=Hd hs9;clear hv8 hq8 hr8 hs8 hq9 hr9 hs9 xHSB4 xHSB5 f4 f5;go_upto_region 12 with fail
     rw [<- hv9];clear hv9 e5 f55;go_wp2_with (first | (refine wpList_load_row (by rfl) 26 _ (by rfl) bS (by rfl) 26 #[.bool g,.slice a1 n1 c1,.bool s,.slice a2 n2 c2,.int .i64 MT,.int .i64 MT] (0,0) _ HSB.out Try.underlying26 rfl (by exact infoS) ?_) | (refine wpList_store_row (by rfl) 26 _ _ (by rfl) bR #[.bool g,.slice a1 n1 c1,.bool s,.slice a2 n2 c2,.int .i64 MT,.int .i64 MT] (by rfl) (by rfl) 26 _ HRB.out (by exact infoS) rfl (Rw.all1 (by rfl)) ?_))
     exact ret_st rfl rfl rfl rfl (Rw.Bk_row HRB.out [.bool g,.slice a1 n1 c1,.bool s,.slice a2 n2 c2,.int .i64 MT,.int .i64 MT]) rfl ⟨_,by rw [HR.out] <;> rfl,by rw [HR.out];exact SI.of HK1.out HK2.out,Rw.Q_row HQ.out HWbR.out _⟩
    ·have hb0:(h == 0) = false:=beq_eq_false_iff_ne.2 hh0
     have hb1:(h == 1) = false:=beq_eq_false_iff_ne.2 hh1;go_upto_region 9 with fail
     obtain ⟨v8,hv8⟩:∃ z,z = u2.setCell ⟨bS,4,none⟩ (.int .i64 MT):=⟨_,rfl⟩;have hs8:Bk v8 bS 26 [.bool g,.slice a1 n1 c1,.bool s,.slice a2 n2 c2,.int .i64 MT,.int .i64 a]:=by rw [hv8];exact HSB.out.set 4 _
     have hr8:Bk v8 bR 26 [.bool false,.slice none 0 0,.bool false,.slice none 0 0,.int .i64 0,.int .i64 0]:=by rw [hv8];exact HRB.out.past HNE.out _
     have hq8:Q w v8:=by rw [hv8];exact Q.setCell HQ.out (ad:=⟨bS,4,none⟩) HWbS.out _
     go_upto_region 10 with fail
     rw [<- hv8];have e5:=hs8.cell 5 rfl;have f55:=hs8.free 5;obtain ⟨v9,hv9⟩:∃ z,z = v8.setCell ⟨bS,5,none⟩ (.int .i64 MT):=⟨_,rfl⟩;have hs9:Bk v9 bS 26 [.bool g,.slice a1 n1 c1,.bool s,.slice a2 n2 c2,.int .i64 MT,.int .i64 MT]:=by rw [hv9];exact hs8.set 5 _
     have hr9:Bk v9 bR 26 [.bool false,.slice none 0 0,.bool false,.slice none 0 0,.int .i64 0,.int .i64 0]:=by rw [hv9];exact hr8.past HNE.out _
     have hq9:Q w v9:=by rw [hv9];exact Q.setCell hq8 (ad:=⟨bS,5,none⟩) HWbS.out _
     replace HQ:=Hd hq9;replace HRB:=Hd hr9;replace HSB:=Hd hs9;clear hv8 hq8 hr8 hs8 hq9 hr9 hs9 xHSB4 xHSB5 f4 f5;go_upto_region 12 with fail
     rw [<- hv9];clear hv9 e5 f55;go_wp2_with (first | (refine wpList_load_row (by rfl) 26 _ (by rfl) bS (by rfl) 26 #[.bool g,.slice a1 n1 c1,.bool s,.slice a2 n2 c2,.int .i64 MT,.int .i64 MT] (0,0) _ HSB.out Try.underlying26 rfl (by exact infoS) ?_) | (refine wpList_store_row (by rfl) 26 _ _ (by rfl) bR #[.bool g,.slice a1 n1 c1,.bool s,.slice a2 n2 c2,.int .i64 MT,.int .i64 MT] (by rfl) (by rfl) 26 _ HRB.out (by exact infoS) rfl (Rw.all1 (by rfl)) ?_))
     exact ret_st rfl rfl rfl rfl (Rw.Bk_row HRB.out [.bool g,.slice a1 n1 c1,.bool s,.slice a2 n2 c2,.int .i64 MT,.int .i64 MT]) rfl ⟨_,by rw [HR.out] <;> rfl,by rw [HR.out];exact SI.of HK1.out HK2.out,Rw.Q_row HQ.out HWbR.out _⟩
end Re
end
end Go.Proofs.Ytnehhbobhnmbcaa
