/- The document's own answers on states: Insert. (and more) -/
import Derived.Test.YtnehhbobhnmbcaaR25
import Derived.Test.YtnehhbobhnmbcaaR26
set_option linter.all false
set_option maxRecDepth 100000
set_option maxHeartbeats 8000000
namespace Go.Proofs.Ytnehhbobhnmbcaa
section
open Go.RowKit
namespace Re
open Ed Tm
theorem infoD:(Try.prog.info? 24).map (·.size) = some 4:=by kernel_rfl
theorem own_rowE {w:World} {B b:Nat} {v:Value} {zs:List Int} (h:Own w B v zs) (hb:b < B) (cs:Array Value):Own (w.setRow b cs) B v zs:=h.same fun g hg=>setRow_other w b g cs (by have:=(h.lt g hg).1;omega)
def SO (w:World) (B:Nat) (v:Value) (s:S):Prop:=∃ a1 c1 a2 c2,v = .agg #[.bool s.d.g,.slice a1 s.d.i.length c1,.bool s.d.s,.slice a2 s.d.f.length c2,.int .i64 s.c,.int .i64 s.a] /\ Own w B (.slice a1 s.d.i.length c1) s.d.i /\ Own w B (.slice a2 s.d.f.length c2) s.d.f
theorem SO.zero (w:World) (B:Nat):SO w B (.agg #[.bool false,.slice none 0 0,.bool false,.slice none 0 0,.int .i64 0,.int .i64 0]) S0:=⟨none,0,none,0,rfl,Own.nil _ _,Own.nil _ _⟩
theorem SO.of {w:World} {B:Nat} {g s:Bool} {a1 a2:Option Addr} {n1 n2 c1 c2:Nat} {I F:List Int} {c a:Int} (hi:Own w B (.slice a1 n1 c1) I) (hf:Own w B (.slice a2 n2 c2) F) (k1:I.length = n1) (k2:F.length = n2):SO w B (.agg #[.bool g,.slice a1 n1 c1,.bool s,.slice a2 n2 c2,.int .i64 c,.int .i64 a]) ⟨⟨g,I,s,F⟩,c,a⟩:=by
 subst k1 k2;exact ⟨a1,c1,a2,c2,rfl,hi,hf⟩
theorem SO.sl {w:World} {B:Nat} {v:Value} {s:S} (h:SO w B v s):SL w v s:=by
 obtain ⟨a1,c1,a2,c2,h0,h1,h2⟩:=h;exact ⟨a1,c1,a2,c2,h0,h1.lst,h2.lst⟩
theorem ins_any (g s:Bool) (a1 a2:Option Addr) (n1 n2 c1 c2:Nat) (I F:List Int) (c a:Int) (li lf:Int) (lg:Bool) (va:Value) (A:List Int)  (w:World) (hi:Lst w (.slice a1 n1 c1) I) (hf:Lst w (.slice a2 n2 c2) F) (k1:I.length = n1) (k2:F.length = n2) (l1:n1 <= 100000) (l2:n2 <= 100000) (ha:Lst w va A) (la:A.length <= 100000) :
  Calls Try.prog 38 #[.agg #[.bool g,.slice a1 n1 c1,.bool s,.slice a2 n2 c2,.int .i64 c,.int .i64 a],.agg #[.int .i64 li,.int .i64 lf,.bool lg],va] w fun e w'=>∃ v,e = .returned (.tuple #[v,.int .i64 (ins ⟨⟨g,I,s,F⟩,c,a⟩ ⟨li,lf,lg⟩ A).2]) /\ SO w' w.heap.size v (ins ⟨⟨g,I,s,F⟩,c,a⟩ ⟨li,lf,lg⟩ A).1 /\ Q w w':=by
 have HMY:=Hd (fun u (q:Q w u) (c a:Int)=>may_any g s a1 a2 n1 n2 c1 c2 I F c a u (hi.q q) (hf.q q) k1 k2 l1 l2);have HI:=Hd hi;have HF:=Hd hf;have HK1:=Hd k1;have HK2:=Hd k2;have HSP:=Hd (fun u (q:Q w u) (i j:Int)=>Tr.splice_any g s a1 a2 n1 n2 c1 c2 I F u (hi.q q) (hf.q q) k1 k2 l1 l2 i j va A (ha.q q) la);have HR:=Hd (show ins ⟨⟨g,I,s,F⟩,c,a⟩ ⟨li,lf,lg⟩ A = if mayS ⟨⟨g,I,s,F⟩,c,a⟩ = true then (if spC ⟨g,I,s,F⟩ (min c a) (max c a) A = 0 then (if fits (spR ⟨g,I,s,F⟩ (min c a) (max c a) A) ⟨li,lf,lg⟩ = true then (⟨spR ⟨g,I,s,F⟩ (min c a) (max c a) A,min c a + A.length,min c a + A.length⟩,0) else (S0,4)) else (S0,spC ⟨g,I,s,F⟩ (min c a) (max c a) A)) else (S0,1) from rfl)
 have HMB:=Hd (fun (hm:mayS ⟨⟨g,I,s,F⟩,c,a⟩ = true)=>show (0 <= c /\ c <= 200001) /\ (0 <= a /\ a <= 200001) from by
  obtain ⟨_,h1,h2⟩:=(mayS_iff _).1 hm;unfold len at h1 h2;dsimp only at h1 h2;rw [ats_len] at h1 h2;dsimp only at h1 h2;have:=sep_len s;omega)
 generalize ins ⟨⟨g,I,s,F⟩,c,a⟩ ⟨li,lf,lg⟩ A = RR at *;have HM1:=Hd (fun u q=>HMY.out u q c a);generalize mayS ⟨⟨g,I,s,F⟩,c,a⟩ = M1 at *;obtain ⟨va1,vc1,rfl⟩:=ha.shape;generalize A.length = nA at *;clear hi hf k1 k2 HMY ha;obtain ⟨y0,hy0⟩:∃ z,z = w.alloc (.cells #[.bool g,.slice a1 n1 c1,.bool s,.slice a2 n2 c2,.int .i64 c,.int .i64 a] 26):=⟨_,rfl⟩;have hq0:Q w y0:=by rw [hy0];exact (Q.refl _).alloc _
 have hs0:y0.heap.size = w.heap.size + 1:=by rw [hy0];simp
 have hc0:Bk y0 w.heap.size 26 [.bool g,.slice a1 n1 c1,.bool s,.slice a2 n2 c2,.int .i64 c,.int .i64 a]:=by rw [hy0];exact Bk.new _ _ _
 obtain ⟨y1,hy1⟩:∃ z,z = y0.alloc (.cells #[.int .i64 li,.int .i64 lf,.bool lg] 28):=⟨_,rfl⟩;have hq1:Q y0 y1:=by rw [hy1];exact (Q.refl _).alloc _
 have hs1:y1.heap.size = w.heap.size + 2:=by rw [hy1];simp;omega
 have hc1:Bk y1 y0.heap.size 28 [.int .i64 li,.int .i64 lf,.bool lg]:=by rw [hy1];exact Bk.new _ _ _
 rw [hs0] at hc1;obtain ⟨y2,hy2⟩:∃ z,z = y1.alloc (.cells #[.bool false,.slice none 0 0,.bool false,.slice none 0 0,.int .i64 0,.int .i64 0] 26):=⟨_,rfl⟩;have hq2:Q y1 y2:=by rw [hy2];exact (Q.refl _).alloc _
 have hs2:y2.heap.size = w.heap.size + 3:=by rw [hy2];simp;omega
 have hc2:Bk y2 y1.heap.size 26 [.bool false,.slice none 0 0,.bool false,.slice none 0 0,.int .i64 0,.int .i64 0]:=by rw [hy2];exact Bk.new _ _ _
 rw [hs1] at hc2;have HQ:=Hd (hq0.trans (hq1.trans hq2));have HSB:=Hd (hc0.q (hq1.trans hq2));have HLB:=Hd (hc1.q hq2);have HRB:=Hd hc2;have hz2:y2 = ((w.alloc (.cells #[.bool g,.slice a1 n1 c1,.bool s,.slice a2 n2 c2,.int .i64 c,.int .i64 a] 26)).alloc (.cells #[.int .i64 li,.int .i64 lf,.bool lg] 28)).alloc (.cells #[.bool false,.slice none 0 0,.bool false,.slice none 0 0,.int .i64 0,.int .i64 0] 26):=by rw [hy2,hy1,hy0]
 obtain ⟨bS,hbbS⟩:∃ k,k = w.heap.size:=⟨_,rfl⟩;have HWbS:=Hd (show w.heap.size <= bS by omega);obtain ⟨bL,hbbL⟩:∃ k,k = w.heap.size + 1:=⟨_,rfl⟩;have HWbL:=Hd (show w.heap.size <= bL by omega);obtain ⟨bR,hbbR⟩:∃ k,k = w.heap.size + 2:=⟨_,rfl⟩;have HWbR:=Hd (show w.heap.size <= bR by omega);clear hq0 hs0 hc0 hy0 hq1 hs1 hc1 hy1 hq2 hs2 hc2 hy2;go_enter Try.func38,Try.ntmps38
 go_upto_region 1 with fail
 try rw [show w.heap.size + 1 + 1 = w.heap.size + 2 from rfl]
 rw [<- hz2,<- hbbR,<- hbbL,<- hbbS];rw [<- hbbS] at HSB;rw [<- hbbL] at HLB;rw [<- hbbR] at HRB;clear hz2 hbbS hbbL hbbR;go_wp2_with (refine wpList_load_row (by rfl) 26 _ (by rfl) bS (by rfl) 26 #[.bool g,.slice a1 n1 c1,.bool s,.slice a2 n2 c2,.int .i64 c,.int .i64 a] (0,0) _ HSB.out Try.underlying26 rfl (by exact infoS) ?_)
 refine (HM1.out _ HQ.out).mono ?_;rintro e u1 ⟨rfl,hq⟩;replace HQ:=Hd (Q.trans HQ.out hq);replace HSB:=Hd (Bk.q HSB.out hq);replace HLB:=Hd (Bk.q HLB.out hq);replace HRB:=Hd (Bk.q HRB.out hq);clear hq;cases M1 with
 | false =>
  replace HR:=Hd (HR.out.trans (if_neg (by decide)));go_wp2_with (refine wpList_store_row (by rfl) 26 _ _ (by rfl) bR #[.bool false,.slice none 0 0,.bool false,.slice none 0 0,.int .i64 0,.int .i64 0] (by rfl) (by rfl) 26 _ HRB.out (by exact infoS) rfl (Rw.all1 (by rfl)) ?_)
  exact ret_st rfl rfl rfl rfl (Rw.Bk_row HRB.out [.bool false,.slice none 0 0,.bool false,.slice none 0 0,.int .i64 0,.int .i64 0]) rfl ⟨_,by rw [HR.out] <;> rfl,by rw [HR.out];exact SO.zero _ _,Rw.Q_row HQ.out HWbR.out _⟩
 | true =>
  replace HR:=Hd (HR.out.trans (if_pos rfl));obtain ⟨⟨b1,b2⟩,b3,b4⟩:=HMB.out rfl;have xHSB0:=HSB.out.cell 0 rfl;have xHSB1:=HSB.out.cell 1 rfl;have xHSB2:=HSB.out.cell 2 rfl;have xHSB3:=HSB.out.cell 3 rfl;have xHSB4:=HSB.out.cell 4 rfl;have xHSB5:=HSB.out.cell 5 rfl;by_cases hca:c < a
  ·have e1:min c a = c:=by omega
   have e2:max c a = a:=by omega
   rw [e1,e2] at HR;clear e1 e2;replace HSP:=Hd (fun u q=>HSP.out u q c a);generalize spC ⟨g,I,s,F⟩ c a A = er at *;generalize spR ⟨g,I,s,F⟩ c a A = D0 at *;obtain ⟨dg,dI,ds,dF⟩:=D0;go_wp2_with fail
   have HBW:=Hd (show bR < u1.heap.size + 2 by have:=HRB.out.lt;omega);have HBM:=Hd (show w.heap.size <= u1.heap.size + 2 by have:=HQ.out.le;omega);refine (HSP.out _ HQ.out).mono ?_;rintro e u2 ⟨x,rfl,hld,hq⟩;obtain ⟨p1,r1,p2,r2,rfl,ho1,ho2⟩:=hld;dsimp only at ho1 ho2 |-;have HO1:=Hd ho1;have HO2:=Hd ho2;obtain ⟨m1,hm1⟩:∃ m,m = dI.length:=⟨_,rfl⟩;obtain ⟨m2,hm2⟩:∃ m,m = dF.length:=⟨_,rfl⟩;rw [<- hm1] at HO1;rw [<- hm2] at HO2;rw [<- hm1,<- hm2];have HM1L:=Hd hm1.symm;have HM2L:=Hd hm2.symm;clear ho1 ho2 hm1 hm2;replace HQ:=Hd (Q.trans HQ.out hq);replace HSB:=Hd (Bk.q HSB.out hq);replace HLB:=Hd (Bk.q HLB.out hq);replace HRB:=Hd (Bk.q HRB.out hq);clear hq;clear xHSB0 xHSB1 xHSB2 xHSB3 xHSB4 xHSB5;obtain ⟨u3,hwu3⟩:∃ z,z = u2.alloc (.cells #[.bool dg,.slice p1 m1 r1,.bool ds,.slice p2 m2 r2] 24):=⟨_,rfl⟩;have hq:Q u2 u3:=by rw [hwu3];exact (Q.refl _).alloc _
   have HDB:=Hd (show Bk u3 u2.heap.size 24 [.bool dg,.slice p1 m1 r1,.bool ds,.slice p2 m2 r2] by rw [hwu3];exact Bk.new _ _ _);obtain ⟨bD,hbbD⟩:∃ k,k = u2.heap.size:=⟨_,rfl⟩;rw [<- hbbD] at HDB;replace HQ:=Hd (Q.trans HQ.out hq);replace HSB:=Hd (Bk.q HSB.out hq);replace HLB:=Hd (Bk.q HLB.out hq);replace HRB:=Hd (Bk.q HRB.out hq);replace HO1:=Hd (Own.q HO1.out hq);replace HO2:=Hd (Own.q HO2.out hq);clear hq;go_upto_region 6 with fail
   rw [<- hwu3,<- hbbD];clear hwu3 hbbD;have xHDB1:=HDB.out.cell 1 rfl;have xHDB3:=HDB.out.cell 3 rfl;have xHLB0:=HLB.out.cell 0 rfl;have xHLB1:=HLB.out.cell 1 rfl;by_cases he:er = 0
   ·replace HR:=Hd (HR.out.trans (if_pos he))
    subst he;have hft:fits ⟨dg,dI,ds,dF⟩ ⟨li,lf,lg⟩ = (decide ((m1:Int) <= li) && decide ((m2:Int) <= lf)):=by
     unfold fits;dsimp only;rw [HM1L.out,HM2L.out]
    rw [hft] at HR;clear hft;by_cases h1:(m1:Int) <= li
    ·have h1':¬ li < (m1:Int):=by omega
     by_cases h2:(m2:Int) <= lf
     ·have h2':¬ lf < (m2:Int):=by omega
      replace HR:=Hd (HR.out.trans (if_pos (by simp [h1,h2])));go_wp2_with (first | (refine wpList_load_row (by rfl) 24 _ (by rfl) bD (by rfl) 24 #[.bool dg,.slice p1 m1 r1,.bool ds,.slice p2 m2 r2] (0,0) _ HDB.out Try.underlying24 rfl (by exact infoD) ?_) | (refine wpList_store_row (by rfl) 26 _ _ (by rfl) bR #[.bool dg,.slice p1 m1 r1,.bool ds,.slice p2 m2 r2,.int .i64 (c + nA),.int .i64 (c + nA)] (by rfl) (by rfl) 26 _ HRB.out (by exact infoS) rfl (Rw.all1 (by rfl)) ?_))
      exact ret_st rfl rfl rfl rfl (Rw.Bk_row HRB.out [.bool dg,.slice p1 m1 r1,.bool ds,.slice p2 m2 r2,.int .i64 (c + nA),.int .i64 (c + nA)]) rfl ⟨_,by rw [HR.out] <;> rfl,by rw [HR.out];exact SO.of ((own_rowE HO1.out HBW.out _).mono HBM.out) ((own_rowE HO2.out HBW.out _).mono HBM.out) HM1L.out HM2L.out,Rw.Q_row HQ.out HWbR.out _⟩
     ·have h2':lf < (m2:Int):=by omega
      replace HR:=Hd (HR.out.trans (if_neg (by simp [h2])));go_wp2_with (refine wpList_store_row (by rfl) 26 _ _ (by rfl) bR #[.bool false,.slice none 0 0,.bool false,.slice none 0 0,.int .i64 0,.int .i64 0] (by rfl) (by rfl) 26 _ HRB.out (by exact infoS) rfl (Rw.all1 (by rfl)) ?_)
      exact ret_st rfl rfl rfl rfl (Rw.Bk_row HRB.out [.bool false,.slice none 0 0,.bool false,.slice none 0 0,.int .i64 0,.int .i64 0]) rfl ⟨_,by rw [HR.out] <;> rfl,by rw [HR.out];exact SO.zero _ _,Rw.Q_row HQ.out HWbR.out _⟩
    ·have h1':li < (m1:Int):=by omega
     replace HR:=Hd (HR.out.trans (if_neg (by simp [h1])));go_wp2_with (refine wpList_store_row (by rfl) 26 _ _ (by rfl) bR #[.bool false,.slice none 0 0,.bool false,.slice none 0 0,.int .i64 0,.int .i64 0] (by rfl) (by rfl) 26 _ HRB.out (by exact infoS) rfl (Rw.all1 (by rfl)) ?_)
     exact ret_st rfl rfl rfl rfl (Rw.Bk_row HRB.out [.bool false,.slice none 0 0,.bool false,.slice none 0 0,.int .i64 0,.int .i64 0]) rfl ⟨_,by rw [HR.out] <;> rfl,by rw [HR.out];exact SO.zero _ _,Rw.Q_row HQ.out HWbR.out _⟩
   ·replace HR:=Hd (HR.out.trans (if_neg he))
    go_wp2_with (refine wpList_store_row (by rfl) 26 _ _ (by rfl) bR #[.bool false,.slice none 0 0,.bool false,.slice none 0 0,.int .i64 0,.int .i64 0] (by rfl) (by rfl) 26 _ HRB.out (by exact infoS) rfl (Rw.all1 (by rfl)) ?_)
    exact ret_st rfl rfl rfl rfl (Rw.Bk_row HRB.out [.bool false,.slice none 0 0,.bool false,.slice none 0 0,.int .i64 0,.int .i64 0]) rfl ⟨_,by rw [HR.out] <;> rfl,by rw [HR.out];exact SO.zero _ _,Rw.Q_row HQ.out HWbR.out _⟩
  ·by_cases hca2:a < c
   ·have e1:min c a = a:=by omega
    have e2:max c a = c:=by omega
    rw [e1,e2] at HR;clear e1 e2;replace HSP:=Hd (fun u q=>HSP.out u q a c);generalize spC ⟨g,I,s,F⟩ a c A = er at *;generalize spR ⟨g,I,s,F⟩ a c A = D0 at *;obtain ⟨dg,dI,ds,dF⟩:=D0;go_wp2_with fail
    have HBW:=Hd (show bR < u1.heap.size + 2 by have:=HRB.out.lt;omega);have HBM:=Hd (show w.heap.size <= u1.heap.size + 2 by have:=HQ.out.le;omega);refine (HSP.out _ HQ.out).mono ?_;rintro e u2 ⟨x,rfl,hld,hq⟩;obtain ⟨p1,r1,p2,r2,rfl,ho1,ho2⟩:=hld;dsimp only at ho1 ho2 |-;have HO1:=Hd ho1;have HO2:=Hd ho2;obtain ⟨m1,hm1⟩:∃ m,m = dI.length:=⟨_,rfl⟩;obtain ⟨m2,hm2⟩:∃ m,m = dF.length:=⟨_,rfl⟩;rw [<- hm1] at HO1;rw [<- hm2] at HO2;rw [<- hm1,<- hm2];have HM1L:=Hd hm1.symm;have HM2L:=Hd hm2.symm;clear ho1 ho2 hm1 hm2;replace HQ:=Hd (Q.trans HQ.out hq);replace HSB:=Hd (Bk.q HSB.out hq);replace HLB:=Hd (Bk.q HLB.out hq);replace HRB:=Hd (Bk.q HRB.out hq);clear hq;clear xHSB0 xHSB1 xHSB2 xHSB3 xHSB4 xHSB5;obtain ⟨u3,hwu3⟩:∃ z,z = u2.alloc (.cells #[.bool dg,.slice p1 m1 r1,.bool ds,.slice p2 m2 r2] 24):=⟨_,rfl⟩;have hq:Q u2 u3:=by rw [hwu3];exact (Q.refl _).alloc _
    have HDB:=Hd (show Bk u3 u2.heap.size 24 [.bool dg,.slice p1 m1 r1,.bool ds,.slice p2 m2 r2] by rw [hwu3];exact Bk.new _ _ _);obtain ⟨bD,hbbD⟩:∃ k,k = u2.heap.size:=⟨_,rfl⟩;rw [<- hbbD] at HDB;replace HQ:=Hd (Q.trans HQ.out hq);replace HSB:=Hd (Bk.q HSB.out hq);replace HLB:=Hd (Bk.q HLB.out hq);replace HRB:=Hd (Bk.q HRB.out hq);replace HO1:=Hd (Own.q HO1.out hq);replace HO2:=Hd (Own.q HO2.out hq);clear hq;go_upto_region 6 with fail
    rw [<- hwu3,<- hbbD];clear hwu3 hbbD;have xHDB1:=HDB.out.cell 1 rfl;have xHDB3:=HDB.out.cell 3 rfl;have xHLB0:=HLB.out.cell 0 rfl;have xHLB1:=HLB.out.cell 1 rfl;by_cases he:er = 0
    ·replace HR:=Hd (HR.out.trans (if_pos he))
     subst he;have hft:fits ⟨dg,dI,ds,dF⟩ ⟨li,lf,lg⟩ = (decide ((m1:Int) <= li) && decide ((m2:Int) <= lf)):=by
      unfold fits;dsimp only;rw [HM1L.out,HM2L.out]
     rw [hft] at HR;clear hft;by_cases h1:(m1:Int) <= li
     ·have h1':¬ li < (m1:Int):=by omega
      by_cases h2:(m2:Int) <= lf
      ·have h2':¬ lf < (m2:Int):=by omega
       replace HR:=Hd (HR.out.trans (if_pos (by simp [h1,h2])));go_wp2_with (first | (refine wpList_load_row (by rfl) 24 _ (by rfl) bD (by rfl) 24 #[.bool dg,.slice p1 m1 r1,.bool ds,.slice p2 m2 r2] (0,0) _ HDB.out Try.underlying24 rfl (by exact infoD) ?_) | (refine wpList_store_row (by rfl) 26 _ _ (by rfl) bR #[.bool dg,.slice p1 m1 r1,.bool ds,.slice p2 m2 r2,.int .i64 (a + nA),.int .i64 (a + nA)] (by rfl) (by rfl) 26 _ HRB.out (by exact infoS) rfl (Rw.all1 (by rfl)) ?_))
       exact ret_st rfl rfl rfl rfl (Rw.Bk_row HRB.out [.bool dg,.slice p1 m1 r1,.bool ds,.slice p2 m2 r2,.int .i64 (a + nA),.int .i64 (a + nA)]) rfl ⟨_,by rw [HR.out] <;> rfl,by rw [HR.out];exact SO.of ((own_rowE HO1.out HBW.out _).mono HBM.out) ((own_rowE HO2.out HBW.out _).mono HBM.out) HM1L.out HM2L.out,Rw.Q_row HQ.out HWbR.out _⟩
      ·have h2':lf < (m2:Int):=by omega
       replace HR:=Hd (HR.out.trans (if_neg (by simp [h2])));go_wp2_with (refine wpList_store_row (by rfl) 26 _ _ (by rfl) bR #[.bool false,.slice none 0 0,.bool false,.slice none 0 0,.int .i64 0,.int .i64 0] (by rfl) (by rfl) 26 _ HRB.out (by exact infoS) rfl (Rw.all1 (by rfl)) ?_)
       exact ret_st rfl rfl rfl rfl (Rw.Bk_row HRB.out [.bool false,.slice none 0 0,.bool false,.slice none 0 0,.int .i64 0,.int .i64 0]) rfl ⟨_,by rw [HR.out] <;> rfl,by rw [HR.out];exact SO.zero _ _,Rw.Q_row HQ.out HWbR.out _⟩
     ·have h1':li < (m1:Int):=by omega
      replace HR:=Hd (HR.out.trans (if_neg (by simp [h1])));go_wp2_with (refine wpList_store_row (by rfl) 26 _ _ (by rfl) bR #[.bool false,.slice none 0 0,.bool false,.slice none 0 0,.int .i64 0,.int .i64 0] (by rfl) (by rfl) 26 _ HRB.out (by exact infoS) rfl (Rw.all1 (by rfl)) ?_)
      exact ret_st rfl rfl rfl rfl (Rw.Bk_row HRB.out [.bool false,.slice none 0 0,.bool false,.slice none 0 0,.int .i64 0,.int .i64 0]) rfl ⟨_,by rw [HR.out] <;> rfl,by rw [HR.out];exact SO.zero _ _,Rw.Q_row HQ.out HWbR.out _⟩
    ·replace HR:=Hd (HR.out.trans (if_neg he))
     go_wp2_with (refine wpList_store_row (by rfl) 26 _ _ (by rfl) bR #[.bool false,.slice none 0 0,.bool false,.slice none 0 0,.int .i64 0,.int .i64 0] (by rfl) (by rfl) 26 _ HRB.out (by exact infoS) rfl (Rw.all1 (by rfl)) ?_)
     exact ret_st rfl rfl rfl rfl (Rw.Bk_row HRB.out [.bool false,.slice none 0 0,.bool false,.slice none 0 0,.int .i64 0,.int .i64 0]) rfl ⟨_,by rw [HR.out] <;> rfl,by rw [HR.out];exact SO.zero _ _,Rw.Q_row HQ.out HWbR.out _⟩
   ·have hca3:c = a:=by omega
    subst hca3;have e1:min c c = c:=by omega
    have e2:max c c = c:=by omega
    rw [e1,e2] at HR;clear e1 e2;replace HSP:=Hd (fun u q=>HSP.out u q c c);generalize spC ⟨g,I,s,F⟩ c c A = er at *;generalize spR ⟨g,I,s,F⟩ c c A = D0 at *;obtain ⟨dg,dI,ds,dF⟩:=D0;go_wp2_with fail
    have HBW:=Hd (show bR < u1.heap.size + 2 by have:=HRB.out.lt;omega);have HBM:=Hd (show w.heap.size <= u1.heap.size + 2 by have:=HQ.out.le;omega);refine (HSP.out _ HQ.out).mono ?_;rintro e u2 ⟨x,rfl,hld,hq⟩;obtain ⟨p1,r1,p2,r2,rfl,ho1,ho2⟩:=hld;dsimp only at ho1 ho2 |-;have HO1:=Hd ho1;have HO2:=Hd ho2;obtain ⟨m1,hm1⟩:∃ m,m = dI.length:=⟨_,rfl⟩;obtain ⟨m2,hm2⟩:∃ m,m = dF.length:=⟨_,rfl⟩;rw [<- hm1] at HO1;rw [<- hm2] at HO2;rw [<- hm1,<- hm2];have HM1L:=Hd hm1.symm;have HM2L:=Hd hm2.symm;clear ho1 ho2 hm1 hm2;replace HQ:=Hd (Q.trans HQ.out hq);replace HSB:=Hd (Bk.q HSB.out hq);replace HLB:=Hd (Bk.q HLB.out hq);replace HRB:=Hd (Bk.q HRB.out hq);clear hq;clear xHSB0 xHSB1 xHSB2 xHSB3 xHSB4 xHSB5;obtain ⟨u3,hwu3⟩:∃ z,z = u2.alloc (.cells #[.bool dg,.slice p1 m1 r1,.bool ds,.slice p2 m2 r2] 24):=⟨_,rfl⟩;have hq:Q u2 u3:=by rw [hwu3];exact (Q.refl _).alloc _
    have HDB:=Hd (show Bk u3 u2.heap.size 24 [.bool dg,.slice p1 m1 r1,.bool ds,.slice p2 m2 r2] by rw [hwu3];exact Bk.new _ _ _);obtain ⟨bD,hbbD⟩:∃ k,k = u2.heap.size:=⟨_,rfl⟩;rw [<- hbbD] at HDB;replace HQ:=Hd (Q.trans HQ.out hq);replace HSB:=Hd (Bk.q HSB.out hq);replace HLB:=Hd (Bk.q HLB.out hq);replace HRB:=Hd (Bk.q HRB.out hq);replace HO1:=Hd (Own.q HO1.out hq);replace HO2:=Hd (Own.q HO2.out hq);clear hq;go_upto_region 6 with fail
    rw [<- hwu3,<- hbbD];clear hwu3 hbbD;have xHDB1:=HDB.out.cell 1 rfl;have xHDB3:=HDB.out.cell 3 rfl;have xHLB0:=HLB.out.cell 0 rfl;have xHLB1:=HLB.out.cell 1 rfl;by_cases he:er = 0
    ·replace HR:=Hd (HR.out.trans (if_pos he))
     subst he;have hft:fits ⟨dg,dI,ds,dF⟩ ⟨li,lf,lg⟩ = (decide ((m1:Int) <= li) && decide ((m2:Int) <= lf)):=by
      unfold fits;dsimp only;rw [HM1L.out,HM2L.out]
     rw [hft] at HR;clear hft;by_cases h1:(m1:Int) <= li
     ·have h1':¬ li < (m1:Int):=by omega
      by_cases h2:(m2:Int) <= lf
      ·have h2':¬ lf < (m2:Int):=by omega
       replace HR:=Hd (HR.out.trans (if_pos (by simp [h1,h2])));go_wp2_with (first | (refine wpList_load_row (by rfl) 24 _ (by rfl) bD (by rfl) 24 #[.bool dg,.slice p1 m1 r1,.bool ds,.slice p2 m2 r2] (0,0) _ HDB.out Try.underlying24 rfl (by exact infoD) ?_) | (refine wpList_store_row (by rfl) 26 _ _ (by rfl) bR #[.bool dg,.slice p1 m1 r1,.bool ds,.slice p2 m2 r2,.int .i64 (c + nA),.int .i64 (c + nA)] (by rfl) (by rfl) 26 _ HRB.out (by exact infoS) rfl (Rw.all1 (by rfl)) ?_))
       exact ret_st rfl rfl rfl rfl (Rw.Bk_row HRB.out [.bool dg,.slice p1 m1 r1,.bool ds,.slice p2 m2 r2,.int .i64 (c + nA),.int .i64 (c + nA)]) rfl ⟨_,by rw [HR.out] <;> rfl,by rw [HR.out];exact SO.of ((own_rowE HO1.out HBW.out _).mono HBM.out) ((own_rowE HO2.out HBW.out _).mono HBM.out) HM1L.out HM2L.out,Rw.Q_row HQ.out HWbR.out _⟩
      ·have h2':lf < (m2:Int):=by omega
       replace HR:=Hd (HR.out.trans (if_neg (by simp [h2])));go_wp2_with (refine wpList_store_row (by rfl) 26 _ _ (by rfl) bR #[.bool false,.slice none 0 0,.bool false,.slice none 0 0,.int .i64 0,.int .i64 0] (by rfl) (by rfl) 26 _ HRB.out (by exact infoS) rfl (Rw.all1 (by rfl)) ?_)
       exact ret_st rfl rfl rfl rfl (Rw.Bk_row HRB.out [.bool false,.slice none 0 0,.bool false,.slice none 0 0,.int .i64 0,.int .i64 0]) rfl ⟨_,by rw [HR.out] <;> rfl,by rw [HR.out];exact SO.zero _ _,Rw.Q_row HQ.out HWbR.out _⟩
     ·have h1':li < (m1:Int):=by omega
      replace HR:=Hd (HR.out.trans (if_neg (by simp [h1])));go_wp2_with (refine wpList_store_row (by rfl) 26 _ _ (by rfl) bR #[.bool false,.slice none 0 0,.bool false,.slice none 0 0,.int .i64 0,.int .i64 0] (by rfl) (by rfl) 26 _ HRB.out (by exact infoS) rfl (Rw.all1 (by rfl)) ?_)
      exact ret_st rfl rfl rfl rfl (Rw.Bk_row HRB.out [.bool false,.slice none 0 0,.bool false,.slice none 0 0,.int .i64 0,.int .i64 0]) rfl ⟨_,by rw [HR.out] <;> rfl,by rw [HR.out];exact SO.zero _ _,Rw.Q_row HQ.out HWbR.out _⟩
    ·replace HR:=Hd (HR.out.trans (if_neg he))
     go_wp2_with (refine wpList_store_row (by rfl) 26 _ _ (by rfl) bR #[.bool false,.slice none 0 0,.bool false,.slice none 0 0,.int .i64 0,.int .i64 0] (by rfl) (by rfl) 26 _ HRB.out (by exact infoS) rfl (Rw.all1 (by rfl)) ?_)
     exact ret_st rfl rfl rfl rfl (Rw.Bk_row HRB.out [.bool false,.slice none 0 0,.bool false,.slice none 0 0,.int .i64 0,.int .i64 0]) rfl ⟨_,by rw [HR.out] <;> rfl,by rw [HR.out];exact SO.zero _ _,Rw.Q_row HQ.out HWbR.out _⟩
end Re
end
end Go.Proofs.Ytnehhbobhnmbcaa
