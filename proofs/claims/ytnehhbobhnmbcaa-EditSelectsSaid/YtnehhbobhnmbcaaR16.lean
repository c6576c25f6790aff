/- What package draft's Atoms, Len, Dec and Text come to, by a walk through each. (and more) -/
import Derived.Test.YtnehhbobhnmbcaaR15
set_option linter.all false
set_option maxRecDepth 100000
set_option maxHeartbeats 8000000
namespace Go.Proofs.Ytnehhbobhnmbcaa
section
open Go.RowKit
namespace Tm
theorem Qeq {u v:World} (h:u = v):Q u v:=by subst h;exact Q.refl u
theorem wrapN (x:Int) (m:Nat) (h:x = (m:Int)) (hm:m < 9223372036854775808):IntKind.i64.wrap x = (m:Int):=by
 subst h;rw [IntKind.wrap_i64];omega
end Tm
namespace Tp
open Tm
theorem atoms_any (g s:Bool) (a1 a2:Option Addr) (n1 n2 c1 c2:Nat) (I F:List Int) (w:World) (hi:Lst w (.slice a1 n1 c1) I) (hf:Lst w (.slice a2 n2 c2) F) (k1:I.length = n1) (k2:F.length = n2) (l1:n1 <= 100000) (l2:n2 <= 100000) :
  Calls Try.prog 57 #[.agg #[.bool g,.slice a1 n1 c1,.bool s,.slice a2 n2 c2]] w fun e w'=>∃ a c,e = .returned (.slice a (n1 + (sep s).length + n2) c) /\ Own w' (w.heap.size + 1) (.slice a (n1 + (sep s).length + n2) c) (I ++ sep s ++ F) /\ Q w w':=by
 obtain ⟨k,hk⟩:∃ k,k = (sep s).length:=⟨_,rfl⟩;have hk1:k <= 1:=by rw [hk];exact sep_len s
 have HSP:=Hd (fun u=>by have h:=separator_any g s a1 a2 n1 n2 c1 c2 u;rw [<- hk] at h;exact h);have HCT:=Hd (fun u b sa sc (q:Q w u) (hB:Bk u b 22 [.slice a1 n1 c1,.slice sa k sc,.slice a2 n2 c2]) (hl:Lst u (.slice sa k sc) (sep s))=>by
  have h:=Ts.concat3 u b _ _ _ I (sep s) F hB (hi.q q) hl (hf.q q) (by omega) (by omega) (by omega);rw [k1,k2,<- hk] at h;exact h)
 rw [<- hk];clear hi hf k1 k2 hk;obtain ⟨z,hz⟩:∃ y,y = w.alloc (.cells #[.bool g,.slice a1 n1 c1,.bool s,.slice a2 n2 c2] 37):=⟨_,rfl⟩;have HQ:=Hd (show Q w z by rw [hz];exact (Q.refl w).alloc _);have HB:=Hd (show Bk z w.heap.size 37 [.bool g,.slice a1 n1 c1,.bool s,.slice a2 n2 c2] by rw [hz];exact Bk.new _ _ _);have HZ:=Hd (show z.heap.size = w.heap.size + 1 by rw [hz];simp);go_enter Try.func57,Try.ntmps57
 go_upto_region 1 with fail
 rw [<- hz];clear hz;refine wp_region_held_drew (S:=fun u=>Q z u) (by kernel_rfl) (by exact (Q.refl z).drew) (fun hHeld=>?_);have hS:Q z z.drew:=hHeld;clear hHeld;have hq:Q z z.drew:=(Q.refl _).drew;clear hq;generalize z.drew = yR1x0 at *;change wpAnyH _ _ _ _ _ _ #[ff,ff,ff,ff,ff,ff,ff,ff,ff] _ _;refine tk 0 (by simp only [gA,gB,gC];rfl) (by first | kernel_rfl | rfl) (fun uz _=>by go_simp;try with_reducible rfl) pq hS ?_;try simp only [Act.put,sA,sB,sC]
 refine tk 1 (by simp only [gA,gB,gC];rfl) (by first | kernel_rfl | rfl) (fun uz hSw=>by (try dsimp only at hSw);have hxx:=HB.out.q hSw;have d0:=hxx.cell 1 rfl;clear hxx;go_simp;try with_reducible rfl) pq hS ?_;try simp only [Act.put,sA,sB,sC]
 refine tk 2 (by simp only [gA,gB,gC];rfl) (by first | kernel_rfl | rfl) (fun uz hSw=>by (try dsimp only at hSw);have hxx:=HB.out.q hSw;have d0:=hxx.cell 0 rfl;have d1:=hxx.cell 1 rfl;have d2:=hxx.cell 2 rfl;have d3:=hxx.cell 3 rfl;clear hxx;go_simp;try with_reducible rfl) pq hS ?_;try simp only [Act.put,sA,sB,sC]
 refine tk 4 (by simp only [gA,gB,gC];rfl) (by first | kernel_rfl | rfl) (fun uz _=>by go_simp;try with_reducible rfl) pq hS ?_;try simp only [Act.put,sA,sB,sC]
 refine tk 5 (by simp only [gA,gB,gC];rfl) (by first | kernel_rfl | rfl) (fun uz hSw=>by (try dsimp only at hSw);have hxx:=HB.out.q hSw;have d0:=hxx.cell 3 rfl;clear hxx;go_simp;try with_reducible rfl) pq hS ?_;try simp only [Act.put,sA,sB,sC]
 refine wpAnyH_ready (rs:=[3]) (by kernel_rfl) (by simp) ?_;refine ar (by (try simp only [gA,gB,gC]);rfl) fun K hK=>?_;go_simp
 refine (HSP.out _).mono ?_;rintro e yR1x6 ⟨sa,sc,rfl,hsl,hq⟩;have HSL:=Hd hsl;clear hsl;try (go_wp2_with fail)
 have hS2:=Q.trans hS hq;refine hK.out _ _ (by exact hS2) (fun hHeld=>?_);clear hK K hHeld hS hq;have hS:=hS2;clear hS2;try simp only [Act.put,sA,sB,sC]
 refine wpAnyH_ready (rs:=[6]) (by kernel_rfl) (by simp) ?_;refine ar (by (try simp only [gA,gB,gC]);rfl) fun K hK=>?_;go_simp
 have hq:=(Q.refl yR1x6).alloc (.cells #[.slice a1 n1 c1,.slice sa k sc,.slice a2 n2 c2] 22);have HX:=Hd (Bk.new yR1x6 22 [.slice a1 n1 c1,.slice sa k sc,.slice a2 n2 c2]);have HW_bx:=Hd (Q.le hS);have HSL:=Hd (Lst.q HSL.out hq);have hS2:=Q.trans hS hq;refine hK.out _ _ (by exact hS2) (fun hHeld=>?_);clear hK K hHeld hS hq;have hS:=hS2;clear hS2;generalize yR1x6.alloc (.cells #[.slice a1 n1 c1,.slice sa k sc,.slice a2 n2 c2] 22) = yR1x7 at *;generalize yR1x6.heap.size = bx at *;try simp only [Act.put,sA,sB,sC]
 refine wpAnyH_ready (rs:=[7]) (by kernel_rfl) (by simp) ?_;refine ar (by (try simp only [gA,gB,gC]);rfl) fun K hK=>?_;go_simp
 refine (HCT.out _ bx sa sc (HQ.out.trans hS) HX.out HSL.out).mono ?_;rintro e yR1x8 ⟨ra,rc,rfl,hro,hq⟩;have HRO:=Hd (hro.mono (Nat.le_trans (Nat.le_of_eq HZ.out.symm) hS.le));clear hro;try (go_wp2_with fail)
 have HSL:=Hd (Lst.q HSL.out hq);have HX:=Hd (Bk.q HX.out hq);have hS2:=Q.trans hS hq;refine hK.out _ _ (by exact hS2) (fun hHeld=>?_);clear hK K hHeld hS hq;have hS:=hS2;clear hS2;try simp only [Act.put,sA,sB,sC]
 refine tk 8 (by simp only [gA,gB,gC];rfl) (by first | kernel_rfl | rfl) (fun uz _=>by go_simp;try with_reducible rfl) pq hS ?_;try simp only [Act.put,sA,sB,sC]
 refine wpAnyH_done (by kernel_rfl) ?_ _;go_wp2_with fail
 go_ret
 exact ⟨_,_,rfl,HRO.out,HQ.out.trans hS⟩
theorem len_any (g s:Bool) (a1 a2:Option Addr) (n1 n2 c1 c2:Nat) (w:World) (l1:n1 <= 100000) (l2:n2 <= 100000) :
  Calls Try.prog 34 #[.agg #[.bool g,.slice a1 n1 c1,.bool s,.slice a2 n2 c2]] w fun e w'=>e = .returned (.int .i64 ((n1 + (sep s).length + n2:Nat):Int)) /\ Q w w':=by
 obtain ⟨k,hk⟩:∃ k,k = (sep s).length:=⟨_,rfl⟩;have hk1:k <= 1:=by rw [hk];exact sep_len s
 have HSP:=Hd (fun u=>by have h:=separator_any g s a1 a2 n1 n2 c1 c2 u;rw [<- hk] at h;exact h);rw [<- hk];have hw1:IntKind.i64.wrap ((n1:Int) + (k:Int)) = (n1:Int) + (k:Int):=by rw [IntKind.wrap_i64];omega
 have hw2:IntKind.i64.wrap ((n1:Int) + (k:Int) + (n2:Int)) = (n1:Int) + (k:Int) + (n2:Int):=by rw [IntKind.wrap_i64];omega
 clear hk;obtain ⟨z,hz⟩:∃ y,y = w.alloc (.cells #[.bool g,.slice a1 n1 c1,.bool s,.slice a2 n2 c2] 37):=⟨_,rfl⟩;have HQ:=Hd (show Q w z by rw [hz];exact (Q.refl w).alloc _);have HB:=Hd (show Bk z w.heap.size 37 [.bool g,.slice a1 n1 c1,.bool s,.slice a2 n2 c2] by rw [hz];exact Bk.new _ _ _);have HZ:=Hd (show z.heap.size = w.heap.size + 1 by rw [hz];simp);go_enter Try.func34,Try.ntmps34
 go_upto_region 1 with fail
 rw [<- hz];clear hz;refine wp_region_held_drew (S:=fun u=>Q z u) (by kernel_rfl) (by exact (Q.refl z).drew) (fun hHeld=>?_);have hS:Q z z.drew:=hHeld;clear hHeld;have hq:Q z z.drew:=(Q.refl _).drew;clear hq;generalize z.drew = yR2x0 at *;change wpAnyH _ _ _ _ _ _ #[ff,ff,ff,ff,ff,ff,ff,ff,ff,ff,ff,ff] _ _;refine tk 0 (by simp only [gA,gB,gC];rfl) (by first | kernel_rfl | rfl) (fun uz _=>by go_simp;try with_reducible rfl) pq hS ?_;try simp only [Act.put,sA,sB,sC]
 refine tk 1 (by simp only [gA,gB,gC];rfl) (by first | kernel_rfl | rfl) (fun uz hSw=>by (try dsimp only at hSw);have hxx:=HB.out.q hSw;have d0:=hxx.cell 1 rfl;clear hxx;go_simp;try with_reducible rfl) pq hS ?_;try simp only [Act.put,sA,sB,sC]
 refine tk 2 (by simp only [gA,gB,gC];rfl) (by first | kernel_rfl | rfl) (fun uz _=>by go_simp;try with_reducible rfl) pq hS ?_;try simp only [Act.put,sA,sB,sC]
 refine tk 3 (by simp only [gA,gB,gC];rfl) (by first | kernel_rfl | rfl) (fun uz hSw=>by (try dsimp only at hSw);have hxx:=HB.out.q hSw;have d0:=hxx.cell 0 rfl;have d1:=hxx.cell 1 rfl;have d2:=hxx.cell 2 rfl;have d3:=hxx.cell 3 rfl;clear hxx;go_simp;try with_reducible rfl) pq hS ?_;try simp only [Act.put,sA,sB,sC]
 refine tk 7 (by simp only [gA,gB,gC];rfl) (by first | kernel_rfl | rfl) (fun uz _=>by go_simp;try with_reducible rfl) pq hS ?_;try simp only [Act.put,sA,sB,sC]
 refine tk 8 (by simp only [gA,gB,gC];rfl) (by first | kernel_rfl | rfl) (fun uz hSw=>by (try dsimp only at hSw);have hxx:=HB.out.q hSw;have d0:=hxx.cell 3 rfl;clear hxx;go_simp;try with_reducible rfl) pq hS ?_;try simp only [Act.put,sA,sB,sC]
 refine tk 9 (by simp only [gA,gB,gC];rfl) (by first | kernel_rfl | rfl) (fun uz _=>by go_simp;try with_reducible rfl) pq hS ?_;try simp only [Act.put,sA,sB,sC]
 refine wpAnyH_ready (rs:=[4]) (by kernel_rfl) (by simp) ?_;refine ar (by (try simp only [gA,gB,gC]);rfl) fun K hK=>?_;go_simp
 refine (HSP.out _).mono ?_;rintro e yR2x8 ⟨sa,sc,rfl,hsl,hq⟩;have HSL:=Hd hsl;clear hsl;try (go_wp2_with fail)
 have hS2:=Q.trans hS hq;refine hK.out _ _ (by exact hS2) (fun hHeld=>?_);clear hK K hHeld hS hq;have hS:=hS2;clear hS2;try simp only [Act.put,sA,sB,sC]
 refine tk 5 (by simp only [gA,gB,gC];rfl) (by first | kernel_rfl | rfl) (fun uz _=>by go_simp;try with_reducible rfl) pq hS ?_;try simp only [Act.put,sA,sB,sC]
 refine tk 6 (by simp only [gA,gB,gC];rfl) (by first | kernel_rfl | rfl) (fun uz _=>by go_simp;try with_reducible rfl) pq hS ?_;try simp only [Act.put,sA,sB,sC]
 refine tk 10 (by simp only [gA,gB,gC];rfl) (by first | kernel_rfl | rfl) (fun uz _=>by go_simp;try with_reducible rfl) pq hS ?_;try simp only [Act.put,sA,sB,sC]
 refine tk 11 (by simp only [gA,gB,gC];rfl) (by first | kernel_rfl | rfl) (fun uz _=>by go_simp;try with_reducible rfl) pq hS ?_;try simp only [Act.put,sA,sB,sC]
 refine wpAnyH_done (by kernel_rfl) ?_ _;go_wp2_with fail
 go_ret
 exact ⟨retI (by omega),HQ.out.trans hS⟩
end Tp
end
end Go.Proofs.Ytnehhbobhnmbcaa
