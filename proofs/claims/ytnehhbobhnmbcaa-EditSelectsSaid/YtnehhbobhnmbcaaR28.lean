/- The document's own answers on states: Same and Limits. (and more) -/
import Derived.Test.YtnehhbobhnmbcaaR27
set_option linter.all false
set_option maxRecDepth 100000
set_option maxHeartbeats 8000000
namespace Go.Proofs.Ytnehhbobhnmbcaa
section
open Go.RowKit
namespace Re
open Ed Tm
theorem same_any (g s h t:Bool) (a1 a2 b1 b2:Option Addr) (n1 n2 c1 c2 p1 p2 d1 d2:Nat) (I F J G:List Int) (c a e k:Int) (w:World) (hi:Lst w (.slice a1 n1 c1) I) (hf:Lst w (.slice a2 n2 c2) F) (ki:Lst w (.slice b1 p1 d1) J) (kf:Lst w (.slice b2 p2 d2) G) (l1:I.length < 1000000) (l2:F.length < 1000000) (l3:J.length < 1000000) (l4:G.length < 1000000) :
  Calls Try.prog 17 #[.agg #[.bool g,.slice a1 n1 c1,.bool s,.slice a2 n2 c2,.int .i64 c,.int .i64 a],.agg #[.bool h,.slice b1 p1 d1,.bool t,.slice b2 p2 d2,.int .i64 e,.int .i64 k]] w fun x w'=>x = .returned (.bool (Tm.same ⟨g,I,s,F⟩ ⟨h,J,t,G⟩ && decide (c = e) && decide (a = k))) /\ Q w w':=by
 have HS:=Hd (fun u (q:Q w u)=>Tr.same_any g s h t _ _ _ _ I F J G u (hi.q q) (hf.q q) (ki.q q) (kf.q q) l1 l2 l3 l4);generalize Tm.same ⟨g,I,s,F⟩ ⟨h,J,t,G⟩ = sm at *;clear hi hf ki kf l1 l2 l3 l4;obtain ⟨y0,hy0⟩:∃ z,z = w.alloc (.cells #[.bool g,.slice a1 n1 c1,.bool s,.slice a2 n2 c2,.int .i64 c,.int .i64 a] 26):=⟨_,rfl⟩;have hq0:Q w y0:=by rw [hy0];exact (Q.refl _).alloc _
 have hs0:y0.heap.size = w.heap.size + 1:=by rw [hy0];simp
 have hc0:Bk y0 w.heap.size 26 [.bool g,.slice a1 n1 c1,.bool s,.slice a2 n2 c2,.int .i64 c,.int .i64 a]:=by rw [hy0];exact Bk.new _ _ _
 obtain ⟨y1,hy1⟩:∃ z,z = y0.alloc (.cells #[.bool h,.slice b1 p1 d1,.bool t,.slice b2 p2 d2,.int .i64 e,.int .i64 k] 26):=⟨_,rfl⟩;have hq1:Q y0 y1:=by rw [hy1];exact (Q.refl _).alloc _
 have hs1:y1.heap.size = w.heap.size + 2:=by rw [hy1];simp;omega
 have hc1:Bk y1 y0.heap.size 26 [.bool h,.slice b1 p1 d1,.bool t,.slice b2 p2 d2,.int .i64 e,.int .i64 k]:=by rw [hy1];exact Bk.new _ _ _
 rw [hs0] at hc1;have HQ:=Hd (hq0.trans hq1);have HAB:=Hd (hc0.q hq1);have HBB:=Hd hc1;have hz2:y1 = (w.alloc (.cells #[.bool g,.slice a1 n1 c1,.bool s,.slice a2 n2 c2,.int .i64 c,.int .i64 a] 26)).alloc (.cells #[.bool h,.slice b1 p1 d1,.bool t,.slice b2 p2 d2,.int .i64 e,.int .i64 k] 26):=by rw [hy1,hy0]
 obtain ⟨bA,hbbA⟩:∃ k,k = w.heap.size:=⟨_,rfl⟩;have HWbA:=Hd (show w.heap.size <= bA by omega);obtain ⟨bB,hbbB⟩:∃ k,k = w.heap.size + 1:=⟨_,rfl⟩;have HWbB:=Hd (show w.heap.size <= bB by omega);clear hq0 hs0 hc0 hy0 hq1 hs1 hc1 hy1;go_enter Try.func17,Try.ntmps17
 go_upto_region 1 with fail
 rw [<- hz2,<- hbbB,<- hbbA];rw [<- hbbA] at HAB;rw [<- hbbB] at HBB;clear hz2 hbbA hbbB;have xHAB0:=HAB.out.cell 0 rfl;have xHAB1:=HAB.out.cell 1 rfl;have xHAB2:=HAB.out.cell 2 rfl;have xHAB3:=HAB.out.cell 3 rfl;have xHBB0:=HBB.out.cell 0 rfl;have xHBB1:=HBB.out.cell 1 rfl;have xHBB2:=HBB.out.cell 2 rfl;have xHBB3:=HBB.out.cell 3 rfl;go_wp2_with fail
 refine (HS.out _ HQ.out).mono ?_;rintro e u1 ⟨rfl,hq⟩;replace HQ:=Hd (Q.trans HQ.out hq);replace HAB:=Hd (Bk.q HAB.out hq);replace HBB:=Hd (Bk.q HBB.out hq);clear hq;clear xHAB0 xHAB1 xHAB2 xHAB3;clear xHBB0 xHBB1 xHBB2 xHBB3;have xHAB4:=HAB.out.cell 4 rfl;have xHAB5:=HAB.out.cell 5 rfl;have xHBB4:=HBB.out.cell 4 rfl;have xHBB5:=HBB.out.cell 5 rfl;cases sm with
 | false =>
  go_wp2_with fail
  go_ret
  exact ⟨by first | rfl | exact retB (by simp),HQ.out⟩
 | true =>
  by_cases h1:c = e
  ·subst h1
   have q1:(c == c) = true:=by simp
   by_cases h2:a = k
   ·subst h2
    have q2:(a == a) = true:=by simp
    go_wp2_with fail
    go_ret
    exact ⟨retB (by simp),HQ.out⟩
   ·have q2:(a == k) = false:=beq_eq_false_iff_ne.2 h2
    go_wp2_with fail
    go_ret
    exact ⟨retB (by simp [h2]),HQ.out⟩
  ·have q1:(c == e) = false:=beq_eq_false_iff_ne.2 h1
   go_wp2_with fail
   go_ret
   exact ⟨retB (by simp [h1]),HQ.out⟩
end Re
end
end Go.Proofs.Ytnehhbobhnmbcaa
