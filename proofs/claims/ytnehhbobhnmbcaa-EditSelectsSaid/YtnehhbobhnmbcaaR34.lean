/- The program's edit: what each erasing takes, if nothing is selected. (and more) -/
import Derived.Test.YtnehhbobhnmbcaaR32
import Derived.Laws.EntriesVeiled
set_option linter.all false
set_option maxRecDepth 100000
set_option maxHeartbeats 8000000
namespace Go.Proofs.Ytnehhbobhnmbcaa
section
open Go.RowKit
namespace Pe
open Ed Tm
open Re hiding ret_st infoS infoD may_any way_any sel_any tog_any mov_any ins_any word_right word_left
theorem erasings_any (w:World) :
  Calls Try.prog 43 #[] w fun e w'=>e = .returned (.slice (some ⟨w.heap.size,0,none⟩) 6 6) /\ Bk w' w.heap.size 81 [.func (.func 58) #[] #[],.func (.func 59) #[] #[],.func (.func 60) #[] #[],.func (.func 61) #[] #[],.func (.func 62) #[] #[],.func (.func 63) #[] #[]] /\ Q w w':=by
 have HB:=Hd (Bk.new w 81 [.func (.func 58) #[] #[],.func (.func 59) #[] #[],.func (.func 60) #[] #[],.func (.func 61) #[] #[],.func (.func 62) #[] #[],.func (.func 63) #[] #[]]);have HQ:=Hd ((Q.refl w).alloc (.cells #[.func (.func 58) #[] #[],.func (.func 59) #[] #[],.func (.func 60) #[] #[],.func (.func 61) #[] #[],.func (.func 62) #[] #[],.func (.func 63) #[] #[]] 81));go_enter Try.func43,Try.ntmps43
 go_wp2_with fail
 go_ret
 exact ⟨rfl,HB.out,HQ.out⟩
theorem taken_0 (g s:Bool) (a1 a2:Option Addr) (n1 n2 c1 c2:Nat) (I F:List Int) (c:Nat) (a:Int) (w:World) (hi:Lst w (.slice a1 n1 c1) I) (hf:Lst w (.slice a2 n2 c2) F) (k1:I.length = n1) (k2:F.length = n2) (l1:n1 <= 100000) (l2:n2 <= 100000) (hc:c <= (ats ⟨g,I,s,F⟩).length) :
  Calls Try.prog 42 #[.agg #[.bool g,.slice a1 n1 c1,.bool s,.slice a2 n2 c2,.int .i64 c,.int .i64 a],.agg #[.func (.func 58) #[] #[]]] w fun e w'=>e = .returned (.tuple #[.int .i64 (min (c:Int) (way ⟨⟨g,I,s,F⟩,c,a⟩ 0)),.int .i64 (max (c:Int) (way ⟨⟨g,I,s,F⟩,c,a⟩ 0))]) /\ Q w w':=by
 have HA:=Hd (fun u (q:Q w u)=>Tp.atoms_any g s a1 a2 n1 n2 c1 c2 I F u (hi.q q) (hf.q q) k1 k2 l1 l2);have hn:(ats ⟨g,I,s,F⟩).length = n1 + (sep s).length + n2:=by rw [ats_len,k1,k2]
 have hsl:=sep_len s;have hAT:I ++ sep s ++ F = ats ⟨g,I,s,F⟩:=rfl;rw [hAT] at HA;have hln:len ⟨⟨g,I,s,F⟩,c,a⟩ = ((n1 + (sep s).length + n2:Nat):Int):=by
  unfold len;dsimp only;rw [hn]
 have hwy:way ⟨⟨g,I,s,F⟩,c,a⟩ 0 = max ((c:Int) - 1) 0:=by first | rfl | (rw [<- hln];rfl)
 have hnb:n1 + (sep s).length + n2 <= 200001:=by omega
 generalize way ⟨⟨g,I,s,F⟩,c,a⟩ 0 = T at *;generalize ats ⟨g,I,s,F⟩ = AT at *;generalize n1 + (sep s).length + n2 = n at *;have HC:=Hd (fun va vc u (h:Lst u (.slice va n vc) AT)=>show Calls Try.prog 58 #[.slice va n vc,.int .i64 c] u fun e w'=>e = .returned (.int .i64 T) /\ Q u w' from by
  refine (left_any va n vc c u (by omega) (by omega)).mono ?_;rintro e w' ⟨rfl,rfl⟩;exact ⟨by rw [hwy] <;> rfl,Q.refl _⟩)
 have hmn:(if T < (c:Int) then T else (c:Int)) = min (c:Int) T:=by split <;> omega
 have hmx:(if (c:Int) < T then T else (c:Int)) = max (c:Int) T:=by split <;> omega
 generalize min (c:Int) T = MN at *;generalize max (c:Int) T = MX at *;clear hi hf k1 k2 hn hAT hwy hln hc;obtain ⟨y0,hy0⟩:∃ z,z = w.alloc (.cells #[.bool g,.slice a1 n1 c1,.bool s,.slice a2 n2 c2,.int .i64 c,.int .i64 a] 39):=⟨_,rfl⟩;have hq0:Q w y0:=by rw [hy0];exact (Q.refl _).alloc _
 have hs0:y0.heap.size = w.heap.size + 1:=by rw [hy0];simp
 have hc0:Bk y0 w.heap.size 39 [.bool g,.slice a1 n1 c1,.bool s,.slice a2 n2 c2,.int .i64 c,.int .i64 a]:=by rw [hy0];exact Bk.new _ _ _
 obtain ⟨y1,hy1⟩:∃ z,z = y0.alloc (.cells #[.func (.func 58) #[] #[]] 81):=⟨_,rfl⟩;have hq1:Q y0 y1:=by rw [hy1];exact (Q.refl _).alloc _
 have hs1:y1.heap.size = w.heap.size + 2:=by rw [hy1];simp;omega
 have hc1:Bk y1 y0.heap.size 81 [.func (.func 58) #[] #[]]:=by rw [hy1];exact Bk.new _ _ _
 rw [hs0] at hc1;have HQ:=Hd (hq0.trans hq1);have HSB:=Hd (hc0.q hq1);have HEB:=Hd hc1;have hz2:y1 = (w.alloc (.cells #[.bool g,.slice a1 n1 c1,.bool s,.slice a2 n2 c2,.int .i64 c,.int .i64 a] 39)).alloc (.cells #[.func (.func 58) #[] #[]] 81):=by rw [hy1,hy0]
 obtain ⟨bS,hbbS⟩:∃ k,k = w.heap.size:=⟨_,rfl⟩;have HWbS:=Hd (show w.heap.size <= bS by omega);obtain ⟨bE,hbbE⟩:∃ k,k = w.heap.size + 1:=⟨_,rfl⟩;have HWbE:=Hd (show w.heap.size <= bE by omega);clear hq0 hs0 hc0 hy0 hq1 hs1 hc1 hy1;go_enter Try.func42,Try.ntmps42
 go_upto_region 1 with fail
 rw [<- hz2,<- hbbE,<- hbbS];rw [<- hbbS] at HSB;rw [<- hbbE] at HEB;clear hz2 hbbS hbbE;refine wp_region_held_drew (S:=fun u=>Q y1 u) (by kernel_rfl) (by exact (Q.refl y1).drew) (fun hHeld=>?_);have hS:Q y1 y1.drew:=hHeld;clear hHeld;have hq:Q y1 y1.drew:=(Q.refl _).drew;clear hq;generalize y1.drew = yR1x0 at *;change wpAnyH _ _ _ _ _ _ #[ff,ff,ff,ff,ff,ff,ff,ff,ff] _ _;refine tk 0 (by simp only [gA,gB,gC];rfl) (by first | kernel_rfl | rfl) (fun uz _=>by go_simp;try with_reducible rfl) pq hS ?_;try simp only [Act.put,sA,sB,sC]
 refine tk 1 (by simp only [gA,gB,gC];rfl) (by first | kernel_rfl | rfl) (fun uz hSw=>by (try dsimp only at hSw);have x0:=(HEB.out.q hSw).cell 0 rfl;go_simp;try with_reducible rfl) pq hS ?_;try simp only [Act.put,sA,sB,sC]
 refine tk 2 (by simp only [gA,gB,gC];rfl) (by first | kernel_rfl | rfl) (fun uz _=>by go_simp;try with_reducible rfl) pq hS ?_;try simp only [Act.put,sA,sB,sC]
 refine tk 3 (by simp only [gA,gB,gC];rfl) (by first | kernel_rfl | rfl) (fun uz hSw=>by (try dsimp only at hSw);have hxx:=HSB.out.q hSw;have x0:=hxx.cell 0 rfl;have x1:=hxx.cell 1 rfl;have x2:=hxx.cell 2 rfl;have x3:=hxx.cell 3 rfl;clear hxx;go_simp;try with_reducible rfl) pq hS ?_;try simp only [Act.put,sA,sB,sC]
 refine tk 5 (by simp only [gA,gB,gC];rfl) (by first | kernel_rfl | rfl) (fun uz _=>by go_simp;try with_reducible rfl) pq hS ?_;try simp only [Act.put,sA,sB,sC]
 refine tk 6 (by simp only [gA,gB,gC];rfl) (by first | kernel_rfl | rfl) (fun uz hSw=>by (try dsimp only at hSw);have x4:=(HSB.out.q hSw).cell 4 rfl;go_simp;try with_reducible rfl) pq hS ?_;try simp only [Act.put,sA,sB,sC]
 refine wpAnyH_ready (rs:=[4]) (by kernel_rfl) (by simp) ?_;refine ar (by (try simp only [gA,gB,gC]);rfl) fun K hK=>?_;go_simp
 refine (HA.out _ (HQ.out.trans hS)).mono ?_;rintro e yR1x7 ⟨av,ac,rfl,ho,hq⟩;have HL:=Hd ho.lst;clear ho;try (go_wp2_with fail)
 have hS2:=Q.trans hS hq;refine hK.out _ _ (by exact hS2) (fun hHeld=>?_);clear hK K hHeld hS hq;have hS:=hS2;clear hS2;try simp only [Act.put,sA,sB,sC]
 refine wpAnyH_ready (rs:=[7]) (by kernel_rfl) (by simp) ?_;refine ar (by (try simp only [gA,gB,gC]);rfl) fun K hK=>?_;go_simp
 refine (HC.out _ _ _ HL.out).mono ?_;rintro e yR1x8 ⟨rfl,hq⟩;try (go_wp2_with fail)
 have HL:=Hd (Lst.q HL.out hq);have hS2:=Q.trans hS hq;refine hK.out _ _ (by exact hS2) (fun hHeld=>?_);clear hK K hHeld hS hq;have hS:=hS2;clear hS2;try simp only [Act.put,sA,sB,sC]
 refine tk 8 (by simp only [gA,gB,gC];rfl) (by first | kernel_rfl | rfl) (fun uz _=>by go_simp;try with_reducible rfl) pq hS ?_;try simp only [Act.put,sA,sB,sC]
 refine wpAnyH_done (by kernel_rfl) ?_ _;have hb9:=HSB.out.q hS;have HQ9:=Hd (HQ.out.trans hS);have x4:=hb9.cell 4 rfl;clear HA HC hb9 hS;go_wp2_with fail
 go_quiet (fail)
 go_wp2_with fail
 go_ret2
 exact ⟨rfl,HQ9.out.drewN _⟩
theorem taken_1 (g s:Bool) (a1 a2:Option Addr) (n1 n2 c1 c2:Nat) (I F:List Int) (c:Nat) (a:Int) (w:World) (hi:Lst w (.slice a1 n1 c1) I) (hf:Lst w (.slice a2 n2 c2) F) (k1:I.length = n1) (k2:F.length = n2) (l1:n1 <= 100000) (l2:n2 <= 100000) (hc:c <= (ats ⟨g,I,s,F⟩).length) :
  Calls Try.prog 42 #[.agg #[.bool g,.slice a1 n1 c1,.bool s,.slice a2 n2 c2,.int .i64 c,.int .i64 a],.agg #[.func (.func 59) #[] #[]]] w fun e w'=>e = .returned (.tuple #[.int .i64 (min (c:Int) (way ⟨⟨g,I,s,F⟩,c,a⟩ 1)),.int .i64 (max (c:Int) (way ⟨⟨g,I,s,F⟩,c,a⟩ 1))]) /\ Q w w':=by
 have HA:=Hd (fun u (q:Q w u)=>Tp.atoms_any g s a1 a2 n1 n2 c1 c2 I F u (hi.q q) (hf.q q) k1 k2 l1 l2);have hn:(ats ⟨g,I,s,F⟩).length = n1 + (sep s).length + n2:=by rw [ats_len,k1,k2]
 have hsl:=sep_len s;have hAT:I ++ sep s ++ F = ats ⟨g,I,s,F⟩:=rfl;rw [hAT] at HA;have hln:len ⟨⟨g,I,s,F⟩,c,a⟩ = ((n1 + (sep s).length + n2:Nat):Int):=by
  unfold len;dsimp only;rw [hn]
 have hwy:way ⟨⟨g,I,s,F⟩,c,a⟩ 1 = min ((c:Int) + 1) ((n1 + (sep s).length + n2:Nat):Int):=by first | rfl | (rw [<- hln];rfl)
 have hnb:n1 + (sep s).length + n2 <= 200001:=by omega
 generalize way ⟨⟨g,I,s,F⟩,c,a⟩ 1 = T at *;generalize ats ⟨g,I,s,F⟩ = AT at *;generalize n1 + (sep s).length + n2 = n at *;have HC:=Hd (fun va vc u (h:Lst u (.slice va n vc) AT)=>show Calls Try.prog 59 #[.slice va n vc,.int .i64 c] u fun e w'=>e = .returned (.int .i64 T) /\ Q u w' from by
  refine (right_any va n vc c u (by omega) (by omega)).mono ?_;rintro e w' ⟨rfl,rfl⟩;exact ⟨by rw [hwy] <;> rfl,Q.refl _⟩)
 have hmn:(if T < (c:Int) then T else (c:Int)) = min (c:Int) T:=by split <;> omega
 have hmx:(if (c:Int) < T then T else (c:Int)) = max (c:Int) T:=by split <;> omega
 generalize min (c:Int) T = MN at *;generalize max (c:Int) T = MX at *;clear hi hf k1 k2 hn hAT hwy hln hc;obtain ⟨y0,hy0⟩:∃ z,z = w.alloc (.cells #[.bool g,.slice a1 n1 c1,.bool s,.slice a2 n2 c2,.int .i64 c,.int .i64 a] 39):=⟨_,rfl⟩;have hq0:Q w y0:=by rw [hy0];exact (Q.refl _).alloc _
 have hs0:y0.heap.size = w.heap.size + 1:=by rw [hy0];simp
 have hc0:Bk y0 w.heap.size 39 [.bool g,.slice a1 n1 c1,.bool s,.slice a2 n2 c2,.int .i64 c,.int .i64 a]:=by rw [hy0];exact Bk.new _ _ _
 obtain ⟨y1,hy1⟩:∃ z,z = y0.alloc (.cells #[.func (.func 59) #[] #[]] 81):=⟨_,rfl⟩;have hq1:Q y0 y1:=by rw [hy1];exact (Q.refl _).alloc _
 have hs1:y1.heap.size = w.heap.size + 2:=by rw [hy1];simp;omega
 have hc1:Bk y1 y0.heap.size 81 [.func (.func 59) #[] #[]]:=by rw [hy1];exact Bk.new _ _ _
 rw [hs0] at hc1;have HQ:=Hd (hq0.trans hq1);have HSB:=Hd (hc0.q hq1);have HEB:=Hd hc1;have hz2:y1 = (w.alloc (.cells #[.bool g,.slice a1 n1 c1,.bool s,.slice a2 n2 c2,.int .i64 c,.int .i64 a] 39)).alloc (.cells #[.func (.func 59) #[] #[]] 81):=by rw [hy1,hy0]
 obtain ⟨bS,hbbS⟩:∃ k,k = w.heap.size:=⟨_,rfl⟩;have HWbS:=Hd (show w.heap.size <= bS by omega);obtain ⟨bE,hbbE⟩:∃ k,k = w.heap.size + 1:=⟨_,rfl⟩;have HWbE:=Hd (show w.heap.size <= bE by omega);clear hq0 hs0 hc0 hy0 hq1 hs1 hc1 hy1;go_enter Try.func42,Try.ntmps42
 go_upto_region 1 with fail
 rw [<- hz2,<- hbbE,<- hbbS];rw [<- hbbS] at HSB;rw [<- hbbE] at HEB;clear hz2 hbbS hbbE;refine wp_region_held_drew (S:=fun u=>Q y1 u) (by kernel_rfl) (by exact (Q.refl y1).drew) (fun hHeld=>?_);have hS:Q y1 y1.drew:=hHeld;clear hHeld;have hq:Q y1 y1.drew:=(Q.refl _).drew;clear hq;generalize y1.drew = yR2x0 at *;change wpAnyH _ _ _ _ _ _ #[ff,ff,ff,ff,ff,ff,ff,ff,ff] _ _;refine tk 0 (by simp only [gA,gB,gC];rfl) (by first | kernel_rfl | rfl) (fun uz _=>by go_simp;try with_reducible rfl) pq hS ?_;try simp only [Act.put,sA,sB,sC]
 refine tk 1 (by simp only [gA,gB,gC];rfl) (by first | kernel_rfl | rfl) (fun uz hSw=>by (try dsimp only at hSw);have x0:=(HEB.out.q hSw).cell 0 rfl;go_simp;try with_reducible rfl) pq hS ?_;try simp only [Act.put,sA,sB,sC]
 refine tk 2 (by simp only [gA,gB,gC];rfl) (by first | kernel_rfl | rfl) (fun uz _=>by go_simp;try with_reducible rfl) pq hS ?_;try simp only [Act.put,sA,sB,sC]
 refine tk 3 (by simp only [gA,gB,gC];rfl) (by first | kernel_rfl | rfl) (fun uz hSw=>by (try dsimp only at hSw);have hxx:=HSB.out.q hSw;have x0:=hxx.cell 0 rfl;have x1:=hxx.cell 1 rfl;have x2:=hxx.cell 2 rfl;have x3:=hxx.cell 3 rfl;clear hxx;go_simp;try with_reducible rfl) pq hS ?_;try simp only [Act.put,sA,sB,sC]
 refine tk 5 (by simp only [gA,gB,gC];rfl) (by first | kernel_rfl | rfl) (fun uz _=>by go_simp;try with_reducible rfl) pq hS ?_;try simp only [Act.put,sA,sB,sC]
 refine tk 6 (by simp only [gA,gB,gC];rfl) (by first | kernel_rfl | rfl) (fun uz hSw=>by (try dsimp only at hSw);have x4:=(HSB.out.q hSw).cell 4 rfl;go_simp;try with_reducible rfl) pq hS ?_;try simp only [Act.put,sA,sB,sC]
 refine wpAnyH_ready (rs:=[4]) (by kernel_rfl) (by simp) ?_;refine ar (by (try simp only [gA,gB,gC]);rfl) fun K hK=>?_;go_simp
 refine (HA.out _ (HQ.out.trans hS)).mono ?_;rintro e yR2x7 ⟨av,ac,rfl,ho,hq⟩;have HL:=Hd ho.lst;clear ho;try (go_wp2_with fail)
 have hS2:=Q.trans hS hq;refine hK.out _ _ (by exact hS2) (fun hHeld=>?_);clear hK K hHeld hS hq;have hS:=hS2;clear hS2;try simp only [Act.put,sA,sB,sC]
 refine wpAnyH_ready (rs:=[7]) (by kernel_rfl) (by simp) ?_;refine ar (by (try simp only [gA,gB,gC]);rfl) fun K hK=>?_;go_simp
 refine (HC.out _ _ _ HL.out).mono ?_;rintro e yR2x8 ⟨rfl,hq⟩;try (go_wp2_with fail)
 have HL:=Hd (Lst.q HL.out hq);have hS2:=Q.trans hS hq;refine hK.out _ _ (by exact hS2) (fun hHeld=>?_);clear hK K hHeld hS hq;have hS:=hS2;clear hS2;try simp only [Act.put,sA,sB,sC]
 refine tk 8 (by simp only [gA,gB,gC];rfl) (by first | kernel_rfl | rfl) (fun uz _=>by go_simp;try with_reducible rfl) pq hS ?_;try simp only [Act.put,sA,sB,sC]
 refine wpAnyH_done (by kernel_rfl) ?_ _;have hb9:=HSB.out.q hS;have HQ9:=Hd (HQ.out.trans hS);have x4:=hb9.cell 4 rfl;clear HA HC hb9 hS;go_wp2_with fail
 go_quiet (fail)
 go_wp2_with fail
 go_ret2
 exact ⟨rfl,HQ9.out.drewN _⟩
theorem taken_2 (g s:Bool) (a1 a2:Option Addr) (n1 n2 c1 c2:Nat) (I F:List Int) (c:Nat) (a:Int) (w:World) (hi:Lst w (.slice a1 n1 c1) I) (hf:Lst w (.slice a2 n2 c2) F) (k1:I.length = n1) (k2:F.length = n2) (l1:n1 <= 100000) (l2:n2 <= 100000) (hc:c <= (ats ⟨g,I,s,F⟩).length) :
  Calls Try.prog 42 #[.agg #[.bool g,.slice a1 n1 c1,.bool s,.slice a2 n2 c2,.int .i64 c,.int .i64 a],.agg #[.func (.func 60) #[] #[]]] w fun e w'=>e = .returned (.tuple #[.int .i64 (min (c:Int) (way ⟨⟨g,I,s,F⟩,c,a⟩ 2)),.int .i64 (max (c:Int) (way ⟨⟨g,I,s,F⟩,c,a⟩ 2))]) /\ Q w w':=by
 have HA:=Hd (fun u (q:Q w u)=>Tp.atoms_any g s a1 a2 n1 n2 c1 c2 I F u (hi.q q) (hf.q q) k1 k2 l1 l2);have hn:(ats ⟨g,I,s,F⟩).length = n1 + (sep s).length + n2:=by rw [ats_len,k1,k2]
 have hsl:=sep_len s;have hAT:I ++ sep s ++ F = ats ⟨g,I,s,F⟩:=rfl;rw [hAT] at HA;have hln:len ⟨⟨g,I,s,F⟩,c,a⟩ = ((n1 + (sep s).length + n2:Nat):Int):=by
  unfold len;dsimp only;rw [hn]
 have hwy:way ⟨⟨g,I,s,F⟩,c,a⟩ 2 = (wordL (ats ⟨g,I,s,F⟩) c:Nat):=by first | rfl | (rw [<- hln];rfl)
 have hnb:n1 + (sep s).length + n2 <= 200001:=by omega
 generalize way ⟨⟨g,I,s,F⟩,c,a⟩ 2 = T at *;generalize ats ⟨g,I,s,F⟩ = AT at *;generalize n1 + (sep s).length + n2 = n at *;have HC:=Hd (fun va vc u (h:Lst u (.slice va n vc) AT)=>show Calls Try.prog 60 #[.slice va n vc,.int .i64 c] u fun e w'=>e = .returned (.int .i64 T) /\ Q u w' from by
  refine (word_left _ AT c u h (by omega) (by omega)).mono ?_;rintro e w' ⟨rfl,rfl⟩;exact ⟨by rw [hwy] <;> rfl,Q.refl _⟩)
 have hmn:(if T < (c:Int) then T else (c:Int)) = min (c:Int) T:=by split <;> omega
 have hmx:(if (c:Int) < T then T else (c:Int)) = max (c:Int) T:=by split <;> omega
 generalize min (c:Int) T = MN at *;generalize max (c:Int) T = MX at *;clear hi hf k1 k2 hn hAT hwy hln hc;obtain ⟨y0,hy0⟩:∃ z,z = w.alloc (.cells #[.bool g,.slice a1 n1 c1,.bool s,.slice a2 n2 c2,.int .i64 c,.int .i64 a] 39):=⟨_,rfl⟩;have hq0:Q w y0:=by rw [hy0];exact (Q.refl _).alloc _
 have hs0:y0.heap.size = w.heap.size + 1:=by rw [hy0];simp
 have hc0:Bk y0 w.heap.size 39 [.bool g,.slice a1 n1 c1,.bool s,.slice a2 n2 c2,.int .i64 c,.int .i64 a]:=by rw [hy0];exact Bk.new _ _ _
 obtain ⟨y1,hy1⟩:∃ z,z = y0.alloc (.cells #[.func (.func 60) #[] #[]] 81):=⟨_,rfl⟩;have hq1:Q y0 y1:=by rw [hy1];exact (Q.refl _).alloc _
 have hs1:y1.heap.size = w.heap.size + 2:=by rw [hy1];simp;omega
 have hc1:Bk y1 y0.heap.size 81 [.func (.func 60) #[] #[]]:=by rw [hy1];exact Bk.new _ _ _
 rw [hs0] at hc1;have HQ:=Hd (hq0.trans hq1);have HSB:=Hd (hc0.q hq1);have HEB:=Hd hc1;have hz2:y1 = (w.alloc (.cells #[.bool g,.slice a1 n1 c1,.bool s,.slice a2 n2 c2,.int .i64 c,.int .i64 a] 39)).alloc (.cells #[.func (.func 60) #[] #[]] 81):=by rw [hy1,hy0]
 obtain ⟨bS,hbbS⟩:∃ k,k = w.heap.size:=⟨_,rfl⟩;have HWbS:=Hd (show w.heap.size <= bS by omega);obtain ⟨bE,hbbE⟩:∃ k,k = w.heap.size + 1:=⟨_,rfl⟩;have HWbE:=Hd (show w.heap.size <= bE by omega);clear hq0 hs0 hc0 hy0 hq1 hs1 hc1 hy1;go_enter Try.func42,Try.ntmps42
 go_upto_region 1 with fail
 rw [<- hz2,<- hbbE,<- hbbS];rw [<- hbbS] at HSB;rw [<- hbbE] at HEB;clear hz2 hbbS hbbE;refine wp_region_held_drew (S:=fun u=>Q y1 u) (by kernel_rfl) (by exact (Q.refl y1).drew) (fun hHeld=>?_);have hS:Q y1 y1.drew:=hHeld;clear hHeld;have hq:Q y1 y1.drew:=(Q.refl _).drew;clear hq;generalize y1.drew = yR3x0 at *;change wpAnyH _ _ _ _ _ _ #[ff,ff,ff,ff,ff,ff,ff,ff,ff] _ _;refine tk 0 (by simp only [gA,gB,gC];rfl) (by first | kernel_rfl | rfl) (fun uz _=>by go_simp;try with_reducible rfl) pq hS ?_;try simp only [Act.put,sA,sB,sC]
 refine tk 1 (by simp only [gA,gB,gC];rfl) (by first | kernel_rfl | rfl) (fun uz hSw=>by (try dsimp only at hSw);have x0:=(HEB.out.q hSw).cell 0 rfl;go_simp;try with_reducible rfl) pq hS ?_;try simp only [Act.put,sA,sB,sC]
 refine tk 2 (by simp only [gA,gB,gC];rfl) (by first | kernel_rfl | rfl) (fun uz _=>by go_simp;try with_reducible rfl) pq hS ?_;try simp only [Act.put,sA,sB,sC]
 refine tk 3 (by simp only [gA,gB,gC];rfl) (by first | kernel_rfl | rfl) (fun uz hSw=>by (try dsimp only at hSw);have hxx:=HSB.out.q hSw;have x0:=hxx.cell 0 rfl;have x1:=hxx.cell 1 rfl;have x2:=hxx.cell 2 rfl;have x3:=hxx.cell 3 rfl;clear hxx;go_simp;try with_reducible rfl) pq hS ?_;try simp only [Act.put,sA,sB,sC]
 refine tk 5 (by simp only [gA,gB,gC];rfl) (by first | kernel_rfl | rfl) (fun uz _=>by go_simp;try with_reducible rfl) pq hS ?_;try simp only [Act.put,sA,sB,sC]
 refine tk 6 (by simp only [gA,gB,gC];rfl) (by first | kernel_rfl | rfl) (fun uz hSw=>by (try dsimp only at hSw);have x4:=(HSB.out.q hSw).cell 4 rfl;go_simp;try with_reducible rfl) pq hS ?_;try simp only [Act.put,sA,sB,sC]
 refine wpAnyH_ready (rs:=[4]) (by kernel_rfl) (by simp) ?_;refine ar (by (try simp only [gA,gB,gC]);rfl) fun K hK=>?_;go_simp
 refine (HA.out _ (HQ.out.trans hS)).mono ?_;rintro e yR3x7 ⟨av,ac,rfl,ho,hq⟩;have HL:=Hd ho.lst;clear ho;try (go_wp2_with fail)
 have hS2:=Q.trans hS hq;refine hK.out _ _ (by exact hS2) (fun hHeld=>?_);clear hK K hHeld hS hq;have hS:=hS2;clear hS2;try simp only [Act.put,sA,sB,sC]
 refine wpAnyH_ready (rs:=[7]) (by kernel_rfl) (by simp) ?_;refine ar (by (try simp only [gA,gB,gC]);rfl) fun K hK=>?_;go_simp
 refine (HC.out _ _ _ HL.out).mono ?_;rintro e yR3x8 ⟨rfl,hq⟩;try (go_wp2_with fail)
 have HL:=Hd (Lst.q HL.out hq);have hS2:=Q.trans hS hq;refine hK.out _ _ (by exact hS2) (fun hHeld=>?_);clear hK K hHeld hS hq;have hS:=hS2;clear hS2;try simp only [Act.put,sA,sB,sC]
 refine tk 8 (by simp only [gA,gB,gC];rfl) (by first | kernel_rfl | rfl) (fun uz _=>by go_simp;try with_reducible rfl) pq hS ?_;try simp only [Act.put,sA,sB,sC]
 refine wpAnyH_done (by kernel_rfl) ?_ _;have hb9:=HSB.out.q hS;have HQ9:=Hd (HQ.out.trans hS);have x4:=hb9.cell 4 rfl;clear HA HC hb9 hS;go_wp2_with fail
 go_quiet (fail)
 go_wp2_with fail
 go_ret2
 exact ⟨rfl,HQ9.out.drewN _⟩
theorem taken_3 (g s:Bool) (a1 a2:Option Addr) (n1 n2 c1 c2:Nat) (I F:List Int) (c:Nat) (a:Int) (w:World) (hi:Lst w (.slice a1 n1 c1) I) (hf:Lst w (.slice a2 n2 c2) F) (k1:I.length = n1) (k2:F.length = n2) (l1:n1 <= 100000) (l2:n2 <= 100000) (hc:c <= (ats ⟨g,I,s,F⟩).length) :
  Calls Try.prog 42 #[.agg #[.bool g,.slice a1 n1 c1,.bool s,.slice a2 n2 c2,.int .i64 c,.int .i64 a],.agg #[.func (.func 61) #[] #[]]] w fun e w'=>e = .returned (.tuple #[.int .i64 (min (c:Int) (way ⟨⟨g,I,s,F⟩,c,a⟩ 3)),.int .i64 (max (c:Int) (way ⟨⟨g,I,s,F⟩,c,a⟩ 3))]) /\ Q w w':=by
 have HA:=Hd (fun u (q:Q w u)=>Tp.atoms_any g s a1 a2 n1 n2 c1 c2 I F u (hi.q q) (hf.q q) k1 k2 l1 l2);have hn:(ats ⟨g,I,s,F⟩).length = n1 + (sep s).length + n2:=by rw [ats_len,k1,k2]
 have hsl:=sep_len s;have hAT:I ++ sep s ++ F = ats ⟨g,I,s,F⟩:=rfl;rw [hAT] at HA;have hln:len ⟨⟨g,I,s,F⟩,c,a⟩ = ((n1 + (sep s).length + n2:Nat):Int):=by
  unfold len;dsimp only;rw [hn]
 have hwy:way ⟨⟨g,I,s,F⟩,c,a⟩ 3 = (wordR (ats ⟨g,I,s,F⟩) c:Nat):=by first | rfl | (rw [<- hln];rfl)
 have hnb:n1 + (sep s).length + n2 <= 200001:=by omega
 generalize way ⟨⟨g,I,s,F⟩,c,a⟩ 3 = T at *;generalize ats ⟨g,I,s,F⟩ = AT at *;generalize n1 + (sep s).length + n2 = n at *;have HC:=Hd (fun va vc u (h:Lst u (.slice va n vc) AT)=>show Calls Try.prog 61 #[.slice va n vc,.int .i64 c] u fun e w'=>e = .returned (.int .i64 T) /\ Q u w' from by
  refine (word_right _ AT c u h (by omega) (by omega)).mono ?_;rintro e w' ⟨rfl,rfl⟩;exact ⟨by rw [hwy] <;> rfl,Q.refl _⟩)
 have hmn:(if T < (c:Int) then T else (c:Int)) = min (c:Int) T:=by split <;> omega
 have hmx:(if (c:Int) < T then T else (c:Int)) = max (c:Int) T:=by split <;> omega
 generalize min (c:Int) T = MN at *;generalize max (c:Int) T = MX at *;clear hi hf k1 k2 hn hAT hwy hln hc;obtain ⟨y0,hy0⟩:∃ z,z = w.alloc (.cells #[.bool g,.slice a1 n1 c1,.bool s,.slice a2 n2 c2,.int .i64 c,.int .i64 a] 39):=⟨_,rfl⟩;have hq0:Q w y0:=by rw [hy0];exact (Q.refl _).alloc _
 have hs0:y0.heap.size = w.heap.size + 1:=by rw [hy0];simp
 have hc0:Bk y0 w.heap.size 39 [.bool g,.slice a1 n1 c1,.bool s,.slice a2 n2 c2,.int .i64 c,.int .i64 a]:=by rw [hy0];exact Bk.new _ _ _
 obtain ⟨y1,hy1⟩:∃ z,z = y0.alloc (.cells #[.func (.func 61) #[] #[]] 81):=⟨_,rfl⟩;have hq1:Q y0 y1:=by rw [hy1];exact (Q.refl _).alloc _
 have hs1:y1.heap.size = w.heap.size + 2:=by rw [hy1];simp;omega
 have hc1:Bk y1 y0.heap.size 81 [.func (.func 61) #[] #[]]:=by rw [hy1];exact Bk.new _ _ _
 rw [hs0] at hc1;have HQ:=Hd (hq0.trans hq1);have HSB:=Hd (hc0.q hq1);have HEB:=Hd hc1;have hz2:y1 = (w.alloc (.cells #[.bool g,.slice a1 n1 c1,.bool s,.slice a2 n2 c2,.int .i64 c,.int .i64 a] 39)).alloc (.cells #[.func (.func 61) #[] #[]] 81):=by rw [hy1,hy0]
 obtain ⟨bS,hbbS⟩:∃ k,k = w.heap.size:=⟨_,rfl⟩;have HWbS:=Hd (show w.heap.size <= bS by omega);obtain ⟨bE,hbbE⟩:∃ k,k = w.heap.size + 1:=⟨_,rfl⟩;have HWbE:=Hd (show w.heap.size <= bE by omega);clear hq0 hs0 hc0 hy0 hq1 hs1 hc1 hy1;go_enter Try.func42,Try.ntmps42
 go_upto_region 1 with fail
 rw [<- hz2,<- hbbE,<- hbbS];rw [<- hbbS] at HSB;rw [<- hbbE] at HEB;clear hz2 hbbS hbbE;refine wp_region_held_drew (S:=fun u=>Q y1 u) (by kernel_rfl) (by exact (Q.refl y1).drew) (fun hHeld=>?_);have hS:Q y1 y1.drew:=hHeld;clear hHeld;have hq:Q y1 y1.drew:=(Q.refl _).drew;clear hq;generalize y1.drew = yR4x0 at *;change wpAnyH _ _ _ _ _ _ #[ff,ff,ff,ff,ff,ff,ff,ff,ff] _ _;refine tk 0 (by simp only [gA,gB,gC];rfl) (by first | kernel_rfl | rfl) (fun uz _=>by go_simp;try with_reducible rfl) pq hS ?_;try simp only [Act.put,sA,sB,sC]
 refine tk 1 (by simp only [gA,gB,gC];rfl) (by first | kernel_rfl | rfl) (fun uz hSw=>by (try dsimp only at hSw);have x0:=(HEB.out.q hSw).cell 0 rfl;go_simp;try with_reducible rfl) pq hS ?_;try simp only [Act.put,sA,sB,sC]
 refine tk 2 (by simp only [gA,gB,gC];rfl) (by first | kernel_rfl | rfl) (fun uz _=>by go_simp;try with_reducible rfl) pq hS ?_;try simp only [Act.put,sA,sB,sC]
 refine tk 3 (by simp only [gA,gB,gC];rfl) (by first | kernel_rfl | rfl) (fun uz hSw=>by (try dsimp only at hSw);have hxx:=HSB.out.q hSw;have x0:=hxx.cell 0 rfl;have x1:=hxx.cell 1 rfl;have x2:=hxx.cell 2 rfl;have x3:=hxx.cell 3 rfl;clear hxx;go_simp;try with_reducible rfl) pq hS ?_;try simp only [Act.put,sA,sB,sC]
 refine tk 5 (by simp only [gA,gB,gC];rfl) (by first | kernel_rfl | rfl) (fun uz _=>by go_simp;try with_reducible rfl) pq hS ?_;try simp only [Act.put,sA,sB,sC]
 refine tk 6 (by simp only [gA,gB,gC];rfl) (by first | kernel_rfl | rfl) (fun uz hSw=>by (try dsimp only at hSw);have x4:=(HSB.out.q hSw).cell 4 rfl;go_simp;try with_reducible rfl) pq hS ?_;try simp only [Act.put,sA,sB,sC]
 refine wpAnyH_ready (rs:=[4]) (by kernel_rfl) (by simp) ?_;refine ar (by (try simp only [gA,gB,gC]);rfl) fun K hK=>?_;go_simp
 refine (HA.out _ (HQ.out.trans hS)).mono ?_;rintro e yR4x7 ⟨av,ac,rfl,ho,hq⟩;have HL:=Hd ho.lst;clear ho;try (go_wp2_with fail)
 have hS2:=Q.trans hS hq;refine hK.out _ _ (by exact hS2) (fun hHeld=>?_);clear hK K hHeld hS hq;have hS:=hS2;clear hS2;try simp only [Act.put,sA,sB,sC]
 refine wpAnyH_ready (rs:=[7]) (by kernel_rfl) (by simp) ?_;refine ar (by (try simp only [gA,gB,gC]);rfl) fun K hK=>?_;go_simp
 refine (HC.out _ _ _ HL.out).mono ?_;rintro e yR4x8 ⟨rfl,hq⟩;try (go_wp2_with fail)
 have HL:=Hd (Lst.q HL.out hq);have hS2:=Q.trans hS hq;refine hK.out _ _ (by exact hS2) (fun hHeld=>?_);clear hK K hHeld hS hq;have hS:=hS2;clear hS2;try simp only [Act.put,sA,sB,sC]
 refine tk 8 (by simp only [gA,gB,gC];rfl) (by first | kernel_rfl | rfl) (fun uz _=>by go_simp;try with_reducible rfl) pq hS ?_;try simp only [Act.put,sA,sB,sC]
 refine wpAnyH_done (by kernel_rfl) ?_ _;have hb9:=HSB.out.q hS;have HQ9:=Hd (HQ.out.trans hS);have x4:=hb9.cell 4 rfl;clear HA HC hb9 hS;go_wp2_with fail
 go_quiet (fail)
 go_wp2_with fail
 go_ret2
 exact ⟨rfl,HQ9.out.drewN _⟩
theorem taken_4 (g s:Bool) (a1 a2:Option Addr) (n1 n2 c1 c2:Nat) (I F:List Int) (c:Nat) (a:Int) (w:World) (hi:Lst w (.slice a1 n1 c1) I) (hf:Lst w (.slice a2 n2 c2) F) (k1:I.length = n1) (k2:F.length = n2) (l1:n1 <= 100000) (l2:n2 <= 100000) (hc:c <= (ats ⟨g,I,s,F⟩).length) :
  Calls Try.prog 42 #[.agg #[.bool g,.slice a1 n1 c1,.bool s,.slice a2 n2 c2,.int .i64 c,.int .i64 a],.agg #[.func (.func 62) #[] #[]]] w fun e w'=>e = .returned (.tuple #[.int .i64 (min (c:Int) (way ⟨⟨g,I,s,F⟩,c,a⟩ 4)),.int .i64 (max (c:Int) (way ⟨⟨g,I,s,F⟩,c,a⟩ 4))]) /\ Q w w':=by
 have HA:=Hd (fun u (q:Q w u)=>Tp.atoms_any g s a1 a2 n1 n2 c1 c2 I F u (hi.q q) (hf.q q) k1 k2 l1 l2);have hn:(ats ⟨g,I,s,F⟩).length = n1 + (sep s).length + n2:=by rw [ats_len,k1,k2]
 have hsl:=sep_len s;have hAT:I ++ sep s ++ F = ats ⟨g,I,s,F⟩:=rfl;rw [hAT] at HA;have hln:len ⟨⟨g,I,s,F⟩,c,a⟩ = ((n1 + (sep s).length + n2:Nat):Int):=by
  unfold len;dsimp only;rw [hn]
 have hwy:way ⟨⟨g,I,s,F⟩,c,a⟩ 4 = 0:=by first | rfl | (rw [<- hln];rfl)
 have hnb:n1 + (sep s).length + n2 <= 200001:=by omega
 generalize way ⟨⟨g,I,s,F⟩,c,a⟩ 4 = T at *;generalize ats ⟨g,I,s,F⟩ = AT at *;generalize n1 + (sep s).length + n2 = n at *;have HC:=Hd (fun va vc u (h:Lst u (.slice va n vc) AT)=>show Calls Try.prog 62 #[.slice va n vc,.int .i64 c] u fun e w'=>e = .returned (.int .i64 T) /\ Q u w' from by
  refine (home_any va n vc c u (by omega) (by omega)).mono ?_;rintro e w' ⟨rfl,rfl⟩;exact ⟨by rw [hwy] <;> rfl,Q.refl _⟩)
 have hmn:(if T < (c:Int) then T else (c:Int)) = min (c:Int) T:=by split <;> omega
 have hmx:(if (c:Int) < T then T else (c:Int)) = max (c:Int) T:=by split <;> omega
 generalize min (c:Int) T = MN at *;generalize max (c:Int) T = MX at *;clear hi hf k1 k2 hn hAT hwy hln hc;obtain ⟨y0,hy0⟩:∃ z,z = w.alloc (.cells #[.bool g,.slice a1 n1 c1,.bool s,.slice a2 n2 c2,.int .i64 c,.int .i64 a] 39):=⟨_,rfl⟩;have hq0:Q w y0:=by rw [hy0];exact (Q.refl _).alloc _
 have hs0:y0.heap.size = w.heap.size + 1:=by rw [hy0];simp
 have hc0:Bk y0 w.heap.size 39 [.bool g,.slice a1 n1 c1,.bool s,.slice a2 n2 c2,.int .i64 c,.int .i64 a]:=by rw [hy0];exact Bk.new _ _ _
 obtain ⟨y1,hy1⟩:∃ z,z = y0.alloc (.cells #[.func (.func 62) #[] #[]] 81):=⟨_,rfl⟩;have hq1:Q y0 y1:=by rw [hy1];exact (Q.refl _).alloc _
 have hs1:y1.heap.size = w.heap.size + 2:=by rw [hy1];simp;omega
 have hc1:Bk y1 y0.heap.size 81 [.func (.func 62) #[] #[]]:=by rw [hy1];exact Bk.new _ _ _
 rw [hs0] at hc1;have HQ:=Hd (hq0.trans hq1);have HSB:=Hd (hc0.q hq1);have HEB:=Hd hc1;have hz2:y1 = (w.alloc (.cells #[.bool g,.slice a1 n1 c1,.bool s,.slice a2 n2 c2,.int .i64 c,.int .i64 a] 39)).alloc (.cells #[.func (.func 62) #[] #[]] 81):=by rw [hy1,hy0]
 obtain ⟨bS,hbbS⟩:∃ k,k = w.heap.size:=⟨_,rfl⟩;have HWbS:=Hd (show w.heap.size <= bS by omega);obtain ⟨bE,hbbE⟩:∃ k,k = w.heap.size + 1:=⟨_,rfl⟩;have HWbE:=Hd (show w.heap.size <= bE by omega);clear hq0 hs0 hc0 hy0 hq1 hs1 hc1 hy1;go_enter Try.func42,Try.ntmps42
 go_upto_region 1 with fail
 rw [<- hz2,<- hbbE,<- hbbS];rw [<- hbbS] at HSB;rw [<- hbbE] at HEB;clear hz2 hbbS hbbE;refine wp_region_held_drew (S:=fun u=>Q y1 u) (by kernel_rfl) (by exact (Q.refl y1).drew) (fun hHeld=>?_);have hS:Q y1 y1.drew:=hHeld;clear hHeld;have hq:Q y1 y1.drew:=(Q.refl _).drew;clear hq;generalize y1.drew = yR5x0 at *;change wpAnyH _ _ _ _ _ _ #[ff,ff,ff,ff,ff,ff,ff,ff,ff] _ _;refine tk 0 (by simp only [gA,gB,gC];rfl) (by first | kernel_rfl | rfl) (fun uz _=>by go_simp;try with_reducible rfl) pq hS ?_;try simp only [Act.put,sA,sB,sC]
 refine tk 1 (by simp only [gA,gB,gC];rfl) (by first | kernel_rfl | rfl) (fun uz hSw=>by (try dsimp only at hSw);have x0:=(HEB.out.q hSw).cell 0 rfl;go_simp;try with_reducible rfl) pq hS ?_;try simp only [Act.put,sA,sB,sC]
 refine tk 2 (by simp only [gA,gB,gC];rfl) (by first | kernel_rfl | rfl) (fun uz _=>by go_simp;try with_reducible rfl) pq hS ?_;try simp only [Act.put,sA,sB,sC]
 refine tk 3 (by simp only [gA,gB,gC];rfl) (by first | kernel_rfl | rfl) (fun uz hSw=>by (try dsimp only at hSw);have hxx:=HSB.out.q hSw;have x0:=hxx.cell 0 rfl;have x1:=hxx.cell 1 rfl;have x2:=hxx.cell 2 rfl;have x3:=hxx.cell 3 rfl;clear hxx;go_simp;try with_reducible rfl) pq hS ?_;try simp only [Act.put,sA,sB,sC]
 refine tk 5 (by simp only [gA,gB,gC];rfl) (by first | kernel_rfl | rfl) (fun uz _=>by go_simp;try with_reducible rfl) pq hS ?_;try simp only [Act.put,sA,sB,sC]
 refine tk 6 (by simp only [gA,gB,gC];rfl) (by first | kernel_rfl | rfl) (fun uz hSw=>by (try dsimp only at hSw);have x4:=(HSB.out.q hSw).cell 4 rfl;go_simp;try with_reducible rfl) pq hS ?_;try simp only [Act.put,sA,sB,sC]
 refine wpAnyH_ready (rs:=[4]) (by kernel_rfl) (by simp) ?_;refine ar (by (try simp only [gA,gB,gC]);rfl) fun K hK=>?_;go_simp
 refine (HA.out _ (HQ.out.trans hS)).mono ?_;rintro e yR5x7 ⟨av,ac,rfl,ho,hq⟩;have HL:=Hd ho.lst;clear ho;try (go_wp2_with fail)
 have hS2:=Q.trans hS hq;refine hK.out _ _ (by exact hS2) (fun hHeld=>?_);clear hK K hHeld hS hq;have hS:=hS2;clear hS2;try simp only [Act.put,sA,sB,sC]
 refine wpAnyH_ready (rs:=[7]) (by kernel_rfl) (by simp) ?_;refine ar (by (try simp only [gA,gB,gC]);rfl) fun K hK=>?_;go_simp
 refine (HC.out _ _ _ HL.out).mono ?_;rintro e yR5x8 ⟨rfl,hq⟩;try (go_wp2_with fail)
 have HL:=Hd (Lst.q HL.out hq);have hS2:=Q.trans hS hq;refine hK.out _ _ (by exact hS2) (fun hHeld=>?_);clear hK K hHeld hS hq;have hS:=hS2;clear hS2;try simp only [Act.put,sA,sB,sC]
 refine tk 8 (by simp only [gA,gB,gC];rfl) (by first | kernel_rfl | rfl) (fun uz _=>by go_simp;try with_reducible rfl) pq hS ?_;try simp only [Act.put,sA,sB,sC]
 refine wpAnyH_done (by kernel_rfl) ?_ _;have hb9:=HSB.out.q hS;have HQ9:=Hd (HQ.out.trans hS);have x4:=hb9.cell 4 rfl;clear HA HC hb9 hS;go_wp2_with fail
 go_quiet (fail)
 go_wp2_with fail
 go_ret2
 exact ⟨rfl,HQ9.out.drewN _⟩
theorem taken_5 (g s:Bool) (a1 a2:Option Addr) (n1 n2 c1 c2:Nat) (I F:List Int) (c:Nat) (a:Int) (w:World) (hi:Lst w (.slice a1 n1 c1) I) (hf:Lst w (.slice a2 n2 c2) F) (k1:I.length = n1) (k2:F.length = n2) (l1:n1 <= 100000) (l2:n2 <= 100000) (hc:c <= (ats ⟨g,I,s,F⟩).length) :
  Calls Try.prog 42 #[.agg #[.bool g,.slice a1 n1 c1,.bool s,.slice a2 n2 c2,.int .i64 c,.int .i64 a],.agg #[.func (.func 63) #[] #[]]] w fun e w'=>e = .returned (.tuple #[.int .i64 (min (c:Int) (way ⟨⟨g,I,s,F⟩,c,a⟩ 5)),.int .i64 (max (c:Int) (way ⟨⟨g,I,s,F⟩,c,a⟩ 5))]) /\ Q w w':=by
 have HA:=Hd (fun u (q:Q w u)=>Tp.atoms_any g s a1 a2 n1 n2 c1 c2 I F u (hi.q q) (hf.q q) k1 k2 l1 l2);have hn:(ats ⟨g,I,s,F⟩).length = n1 + (sep s).length + n2:=by rw [ats_len,k1,k2]
 have hsl:=sep_len s;have hAT:I ++ sep s ++ F = ats ⟨g,I,s,F⟩:=rfl;rw [hAT] at HA;have hln:len ⟨⟨g,I,s,F⟩,c,a⟩ = ((n1 + (sep s).length + n2:Nat):Int):=by
  unfold len;dsimp only;rw [hn]
 have hwy:way ⟨⟨g,I,s,F⟩,c,a⟩ 5 = ((n1 + (sep s).length + n2:Nat):Int):=by first | rfl | (rw [<- hln];rfl)
 have hnb:n1 + (sep s).length + n2 <= 200001:=by omega
 generalize way ⟨⟨g,I,s,F⟩,c,a⟩ 5 = T at *;generalize ats ⟨g,I,s,F⟩ = AT at *;generalize n1 + (sep s).length + n2 = n at *;have HC:=Hd (fun va vc u (h:Lst u (.slice va n vc) AT)=>show Calls Try.prog 63 #[.slice va n vc,.int .i64 c] u fun e w'=>e = .returned (.int .i64 T) /\ Q u w' from by
  refine (end_any va n vc c u (by omega) (by omega)).mono ?_;rintro e w' ⟨rfl,rfl⟩;exact ⟨by rw [hwy] <;> rfl,Q.refl _⟩)
 have hmn:(if T < (c:Int) then T else (c:Int)) = min (c:Int) T:=by split <;> omega
 have hmx:(if (c:Int) < T then T else (c:Int)) = max (c:Int) T:=by split <;> omega
 generalize min (c:Int) T = MN at *;generalize max (c:Int) T = MX at *;clear hi hf k1 k2 hn hAT hwy hln hc;obtain ⟨y0,hy0⟩:∃ z,z = w.alloc (.cells #[.bool g,.slice a1 n1 c1,.bool s,.slice a2 n2 c2,.int .i64 c,.int .i64 a] 39):=⟨_,rfl⟩;have hq0:Q w y0:=by rw [hy0];exact (Q.refl _).alloc _
 have hs0:y0.heap.size = w.heap.size + 1:=by rw [hy0];simp
 have hc0:Bk y0 w.heap.size 39 [.bool g,.slice a1 n1 c1,.bool s,.slice a2 n2 c2,.int .i64 c,.int .i64 a]:=by rw [hy0];exact Bk.new _ _ _
 obtain ⟨y1,hy1⟩:∃ z,z = y0.alloc (.cells #[.func (.func 63) #[] #[]] 81):=⟨_,rfl⟩;have hq1:Q y0 y1:=by rw [hy1];exact (Q.refl _).alloc _
 have hs1:y1.heap.size = w.heap.size + 2:=by rw [hy1];simp;omega
 have hc1:Bk y1 y0.heap.size 81 [.func (.func 63) #[] #[]]:=by rw [hy1];exact Bk.new _ _ _
 rw [hs0] at hc1;have HQ:=Hd (hq0.trans hq1);have HSB:=Hd (hc0.q hq1);have HEB:=Hd hc1;have hz2:y1 = (w.alloc (.cells #[.bool g,.slice a1 n1 c1,.bool s,.slice a2 n2 c2,.int .i64 c,.int .i64 a] 39)).alloc (.cells #[.func (.func 63) #[] #[]] 81):=by rw [hy1,hy0]
 obtain ⟨bS,hbbS⟩:∃ k,k = w.heap.size:=⟨_,rfl⟩;have HWbS:=Hd (show w.heap.size <= bS by omega);obtain ⟨bE,hbbE⟩:∃ k,k = w.heap.size + 1:=⟨_,rfl⟩;have HWbE:=Hd (show w.heap.size <= bE by omega);clear hq0 hs0 hc0 hy0 hq1 hs1 hc1 hy1;go_enter Try.func42,Try.ntmps42
 go_upto_region 1 with fail
 rw [<- hz2,<- hbbE,<- hbbS];rw [<- hbbS] at HSB;rw [<- hbbE] at HEB;clear hz2 hbbS hbbE;refine wp_region_held_drew (S:=fun u=>Q y1 u) (by kernel_rfl) (by exact (Q.refl y1).drew) (fun hHeld=>?_);have hS:Q y1 y1.drew:=hHeld;clear hHeld;have hq:Q y1 y1.drew:=(Q.refl _).drew;clear hq;generalize y1.drew = yR6x0 at *;change wpAnyH _ _ _ _ _ _ #[ff,ff,ff,ff,ff,ff,ff,ff,ff] _ _;refine tk 0 (by simp only [gA,gB,gC];rfl) (by first | kernel_rfl | rfl) (fun uz _=>by go_simp;try with_reducible rfl) pq hS ?_;try simp only [Act.put,sA,sB,sC]
 refine tk 1 (by simp only [gA,gB,gC];rfl) (by first | kernel_rfl | rfl) (fun uz hSw=>by (try dsimp only at hSw);have x0:=(HEB.out.q hSw).cell 0 rfl;go_simp;try with_reducible rfl) pq hS ?_;try simp only [Act.put,sA,sB,sC]
 refine tk 2 (by simp only [gA,gB,gC];rfl) (by first | kernel_rfl | rfl) (fun uz _=>by go_simp;try with_reducible rfl) pq hS ?_;try simp only [Act.put,sA,sB,sC]
 refine tk 3 (by simp only [gA,gB,gC];rfl) (by first | kernel_rfl | rfl) (fun uz hSw=>by (try dsimp only at hSw);have hxx:=HSB.out.q hSw;have x0:=hxx.cell 0 rfl;have x1:=hxx.cell 1 rfl;have x2:=hxx.cell 2 rfl;have x3:=hxx.cell 3 rfl;clear hxx;go_simp;try with_reducible rfl) pq hS ?_;try simp only [Act.put,sA,sB,sC]
 refine tk 5 (by simp only [gA,gB,gC];rfl) (by first | kernel_rfl | rfl) (fun uz _=>by go_simp;try with_reducible rfl) pq hS ?_;try simp only [Act.put,sA,sB,sC]
 refine tk 6 (by simp only [gA,gB,gC];rfl) (by first | kernel_rfl | rfl) (fun uz hSw=>by (try dsimp only at hSw);have x4:=(HSB.out.q hSw).cell 4 rfl;go_simp;try with_reducible rfl) pq hS ?_;try simp only [Act.put,sA,sB,sC]
 refine wpAnyH_ready (rs:=[4]) (by kernel_rfl) (by simp) ?_;refine ar (by (try simp only [gA,gB,gC]);rfl) fun K hK=>?_;go_simp
 refine (HA.out _ (HQ.out.trans hS)).mono ?_;rintro e yR6x7 ⟨av,ac,rfl,ho,hq⟩;have HL:=Hd ho.lst;clear ho;try (go_wp2_with fail)
 have hS2:=Q.trans hS hq;refine hK.out _ _ (by exact hS2) (fun hHeld=>?_);clear hK K hHeld hS hq;have hS:=hS2;clear hS2;try simp only [Act.put,sA,sB,sC]
 refine wpAnyH_ready (rs:=[7]) (by kernel_rfl) (by simp) ?_;refine ar (by (try simp only [gA,gB,gC]);rfl) fun K hK=>?_;go_simp
 refine (HC.out _ _ _ HL.out).mono ?_;rintro e yR6x8 ⟨rfl,hq⟩;try (go_wp2_with fail)
 have HL:=Hd (Lst.q HL.out hq);have hS2:=Q.trans hS hq;refine hK.out _ _ (by exact hS2) (fun hHeld=>?_);clear hK K hHeld hS hq;have hS:=hS2;clear hS2;try simp only [Act.put,sA,sB,sC]
 refine tk 8 (by simp only [gA,gB,gC];rfl) (by first | kernel_rfl | rfl) (fun uz _=>by go_simp;try with_reducible rfl) pq hS ?_;try simp only [Act.put,sA,sB,sC]
 refine wpAnyH_done (by kernel_rfl) ?_ _;have hb9:=HSB.out.q hS;have HQ9:=Hd (HQ.out.trans hS);have x4:=hb9.cell 4 rfl;clear HA HC hb9 hS;go_wp2_with fail
 go_quiet (fail)
 go_wp2_with fail
 go_ret2
 exact ⟨rfl,HQ9.out.drewN _⟩
theorem eraseAll_any (g s:Bool) (a1 a2:Option Addr) (n1 n2 c1 c2:Nat) (I F:List Int) (c a:Int) (li lf:Int) (lg:Bool) (w:World) (hi:Lst w (.slice a1 n1 c1) I) (hf:Lst w (.slice a2 n2 c2) F) (k1:I.length = n1) (k2:F.length = n2) (l1:n1 <= 100000) (l2:n2 <= 100000) :
  Calls Try.prog 41 #[.agg #[.bool g,.slice a1 n1 c1,.bool s,.slice a2 n2 c2,.int .i64 c,.int .i64 a],.agg #[.int .i64 li,.int .i64 lf,.bool lg]] w fun e w'=>∃ v,e = .returned (.tuple #[v,.int .i64 (era ⟨⟨g,I,s,F⟩,c,a⟩ ⟨li,lf,lg⟩).2]) /\ SO w' w.heap.size v (era ⟨⟨g,I,s,F⟩,c,a⟩ ⟨li,lf,lg⟩).1 /\ Q w w':=by
 have HLN:=Hd (fun u=>Tp.len_any g s a1 a2 n1 n2 c1 c2 u l1 l2);have hln:len ⟨⟨g,I,s,F⟩,c,a⟩ = ((n1 + (sep s).length + n2:Nat):Int):=by
  unfold len;dsimp only;rw [ats_len];dsimp only;rw [k1,k2]
 have HRP:=Hd (fun u=>rep_any false false none none 0 0 0 0 [] [] li lf lg 0 0 (.slice none 0 0) [] u (Lst.nil _ _ _ (by unfold maxLen;omega) (fun _=>rfl)) (Lst.nil _ _ _ (by unfold maxLen;omega) (fun _=>rfl)) rfl rfl (by omega) (by omega) (Lst.nil _ _ _ (by unfold maxLen;omega) (fun _=>rfl)) (by simp));have HR:=Hd (show era ⟨⟨g,I,s,F⟩,c,a⟩ ⟨li,lf,lg⟩ = if ((n1 + (sep s).length + n2:Nat):Int) = 0 /\ g = false then (S0,7) else rep ⟨false,[],false,[]⟩ ⟨li,lf,lg⟩ 0 0 [] from by rw [<- hln];rfl)
 generalize era ⟨⟨g,I,s,F⟩,c,a⟩ ⟨li,lf,lg⟩ = RR at *;generalize rep ⟨false,[],false,[]⟩ ⟨li,lf,lg⟩ 0 0 [] = RP at *;have hnb:n1 + (sep s).length + n2 <= 200001:=by have:=sep_len s;omega
 generalize n1 + (sep s).length + n2 = N at *;obtain ⟨⟨⟨og,oI,os_,oF⟩,oc,oa⟩,er⟩:=RP;dsimp only at HRP;clear hi hf k1 k2 hln;obtain ⟨y0,hy0⟩:∃ z,z = w.alloc (.cells #[.bool g,.slice a1 n1 c1,.bool s,.slice a2 n2 c2,.int .i64 c,.int .i64 a] 39):=⟨_,rfl⟩;have hq0:Q w y0:=by rw [hy0];exact (Q.refl _).alloc _
 have hs0:y0.heap.size = w.heap.size + 1:=by rw [hy0];simp
 have hc0:Bk y0 w.heap.size 39 [.bool g,.slice a1 n1 c1,.bool s,.slice a2 n2 c2,.int .i64 c,.int .i64 a]:=by rw [hy0];exact Bk.new _ _ _
 obtain ⟨y1,hy1⟩:∃ z,z = y0.alloc (.cells #[.int .i64 li,.int .i64 lf,.bool lg] 44):=⟨_,rfl⟩;have hq1:Q y0 y1:=by rw [hy1];exact (Q.refl _).alloc _
 have hs1:y1.heap.size = w.heap.size + 2:=by rw [hy1];simp;omega
 have hc1:Bk y1 y0.heap.size 44 [.int .i64 li,.int .i64 lf,.bool lg]:=by rw [hy1];exact Bk.new _ _ _
 rw [hs0] at hc1;obtain ⟨y2,hy2⟩:∃ z,z = y1.alloc (.cells #[.bool false,.slice none 0 0,.bool false,.slice none 0 0,.int .i64 0,.int .i64 0] 39):=⟨_,rfl⟩;have hq2:Q y1 y2:=by rw [hy2];exact (Q.refl _).alloc _
 have hs2:y2.heap.size = w.heap.size + 3:=by rw [hy2];simp;omega
 have hc2:Bk y2 y1.heap.size 39 [.bool false,.slice none 0 0,.bool false,.slice none 0 0,.int .i64 0,.int .i64 0]:=by rw [hy2];exact Bk.new _ _ _
 rw [hs1] at hc2;have HQ:=Hd (hq0.trans (hq1.trans hq2));have HSB:=Hd (hc0.q (hq1.trans hq2));have HLB:=Hd (hc1.q hq2);have HRB:=Hd hc2;have hz2:y2 = ((w.alloc (.cells #[.bool g,.slice a1 n1 c1,.bool s,.slice a2 n2 c2,.int .i64 c,.int .i64 a] 39)).alloc (.cells #[.int .i64 li,.int .i64 lf,.bool lg] 44)).alloc (.cells #[.bool false,.slice none 0 0,.bool false,.slice none 0 0,.int .i64 0,.int .i64 0] 39):=by rw [hy2,hy1,hy0]
 obtain ⟨bS,hbbS⟩:∃ k,k = w.heap.size:=⟨_,rfl⟩;have HWbS:=Hd (show w.heap.size <= bS by omega);obtain ⟨bL,hbbL⟩:∃ k,k = w.heap.size + 1:=⟨_,rfl⟩;have HWbL:=Hd (show w.heap.size <= bL by omega);obtain ⟨bR,hbbR⟩:∃ k,k = w.heap.size + 2:=⟨_,rfl⟩;have HWbR:=Hd (show w.heap.size <= bR by omega);clear hq0 hs0 hc0 hy0 hq1 hs1 hc1 hy1 hq2 hs2 hc2 hy2;go_enter Try.func41,Try.ntmps41
 go_upto_region 1 with fail
 try rw [show w.heap.size + 1 + 1 = w.heap.size + 2 from rfl]
 rw [<- hz2,<- hbbR,<- hbbL,<- hbbS];rw [<- hbbS] at HSB;rw [<- hbbL] at HLB;rw [<- hbbR] at HRB;clear hz2 hbbS hbbL hbbR;have xHSB0:=HSB.out.cell 0 rfl;have xHSB1:=HSB.out.cell 1 rfl;have xHSB2:=HSB.out.cell 2 rfl;have xHSB3:=HSB.out.cell 3 rfl;go_wp2_with fail
 refine (HLN.out _).mono ?_;rintro e u1 ⟨rfl,hq⟩;replace HQ:=Hd (Q.trans HQ.out hq);replace HSB:=Hd (Bk.q HSB.out hq);replace HLB:=Hd (Bk.q HLB.out hq);replace HRB:=Hd (Bk.q HRB.out hq);clear hq;clear xHSB0 xHSB1 xHSB2 xHSB3;have xHSB0:=HSB.out.cell 0 rfl;by_cases hz:(N:Int) = 0
 ·have hzb:((N:Int) == 0) = true:=beq_iff_eq.2 hz
  cases g with
  | false =>
   replace HR:=Hd (HR.out.trans (if_pos ⟨hz,rfl⟩));go_wp2_with (refine wpList_store_row (by rfl) 39 _ _ (by rfl) bR #[.bool false,.slice none 0 0,.bool false,.slice none 0 0,.int .i64 0,.int .i64 0] (by rfl) (by rfl) 39 _ HRB.out (by exact infoS) rfl (Rw.all1 (by rfl)) ?_)
   exact ret_st rfl rfl rfl rfl (Rw.Bk_row HRB.out [.bool false,.slice none 0 0,.bool false,.slice none 0 0,.int .i64 0,.int .i64 0]) rfl ⟨_,by rw [HR.out] <;> rfl,by rw [HR.out];exact SO.zero _ _,Rw.Q_row HQ.out HWbR.out _⟩
  | true =>
   replace HR:=Hd (HR.out.trans (if_neg (fun h=>by cases h.2)));go_wp2_with (refine wpList_load_row (by rfl) 44 _ (by rfl) bL (by rfl) 44 #[.int .i64 li,.int .i64 lf,.bool lg] (0,0) _ HLB.out Try.underlying44 rfl (by exact infoL) ?_)
   have HBW:=Hd (show bR < u1.heap.size from HRB.out.lt);have HBM:=Hd (show w.heap.size <= u1.heap.size from HQ.out.le);refine (HRP.out _).mono ?_;rintro e u41 ⟨x,rfl,hso,hq⟩;obtain ⟨p1,r1,p2,r2,rfl,ho1,ho2⟩:=hso;dsimp only at ho1 ho2 |-;obtain ⟨m1,hm1⟩:∃ m,m = oI.length:=⟨_,rfl⟩;obtain ⟨m2,hm2⟩:∃ m,m = oF.length:=⟨_,rfl⟩;rw [<- hm1] at ho1;rw [<- hm2] at ho2;rw [<- hm1,<- hm2];have HO1L:=Hd ho1;have HO2L:=Hd ho2;have HM1L:=Hd hm1.symm;have HM2L:=Hd hm2.symm;clear ho1 ho2 hm1 hm2;replace HQ:=Hd (Q.trans HQ.out hq);replace HSB:=Hd (Bk.q HSB.out hq);replace HLB:=Hd (Bk.q HLB.out hq);replace HRB:=Hd (Bk.q HRB.out hq);clear hq;go_wp2_with (refine wpList_store_row (by rfl) 39 _ _ (by rfl) bR #[.bool og,.slice p1 m1 r1,.bool os_,.slice p2 m2 r2,.int .i64 oc,.int .i64 oa] (by rfl) (by rfl) 39 _ HRB.out (by exact infoS) rfl (Rw.all1 (by rfl)) ?_)
   exact ret_st rfl rfl rfl rfl (Rw.Bk_row HRB.out [.bool og,.slice p1 m1 r1,.bool os_,.slice p2 m2 r2,.int .i64 oc,.int .i64 oa]) rfl ⟨_,by rw [HR.out] <;> rfl,by rw [HR.out];exact SO.of ((own_rowE HO1L.out HBW.out _).mono HBM.out) ((own_rowE HO2L.out HBW.out _).mono HBM.out) HM1L.out HM2L.out,Rw.Q_row HQ.out HWbR.out _⟩
 ·have hzb:((N:Int) == 0) = false:=beq_eq_false_iff_ne.2 hz
  replace HR:=Hd (HR.out.trans (if_neg (fun h=>hz h.1)));go_wp2_with (refine wpList_load_row (by rfl) 44 _ (by rfl) bL (by rfl) 44 #[.int .i64 li,.int .i64 lf,.bool lg] (0,0) _ HLB.out Try.underlying44 rfl (by exact infoL) ?_)
  have HBW:=Hd (show bR < u1.heap.size from HRB.out.lt);have HBM:=Hd (show w.heap.size <= u1.heap.size from HQ.out.le);refine (HRP.out _).mono ?_;rintro e u41 ⟨x,rfl,hso,hq⟩;obtain ⟨p1,r1,p2,r2,rfl,ho1,ho2⟩:=hso;dsimp only at ho1 ho2 |-;obtain ⟨m1,hm1⟩:∃ m,m = oI.length:=⟨_,rfl⟩;obtain ⟨m2,hm2⟩:∃ m,m = oF.length:=⟨_,rfl⟩;rw [<- hm1] at ho1;rw [<- hm2] at ho2;rw [<- hm1,<- hm2];have HO1L:=Hd ho1;have HO2L:=Hd ho2;have HM1L:=Hd hm1.symm;have HM2L:=Hd hm2.symm;clear ho1 ho2 hm1 hm2;replace HQ:=Hd (Q.trans HQ.out hq);replace HSB:=Hd (Bk.q HSB.out hq);replace HLB:=Hd (Bk.q HLB.out hq);replace HRB:=Hd (Bk.q HRB.out hq);clear hq;go_wp2_with (refine wpList_store_row (by rfl) 39 _ _ (by rfl) bR #[.bool og,.slice p1 m1 r1,.bool os_,.slice p2 m2 r2,.int .i64 oc,.int .i64 oa] (by rfl) (by rfl) 39 _ HRB.out (by exact infoS) rfl (Rw.all1 (by rfl)) ?_)
  exact ret_st rfl rfl rfl rfl (Rw.Bk_row HRB.out [.bool og,.slice p1 m1 r1,.bool os_,.slice p2 m2 r2,.int .i64 oc,.int .i64 oa]) rfl ⟨_,by rw [HR.out] <;> rfl,by rw [HR.out];exact SO.of ((own_rowE HO1L.out HBW.out _).mono HBM.out) ((own_rowE HO2L.out HBW.out _).mono HBM.out) HM1L.out HM2L.out,Rw.Q_row HQ.out HWbR.out _⟩
end Pe
end
end Go.Proofs.Ytnehhbobhnmbcaa
