/- The law's own as, of; the document's Few, Limits, Good on states. (and more) -/
import Derived.Test.YtnehhbobhnmbcaaR32
set_option linter.all false
set_option maxRecDepth 100000
set_option maxHeartbeats 8000000
namespace Go.Proofs.Ytnehhbobhnmbcaa
section
open Go.RowKit
namespace El
open Ed Tm
open Re hiding ret_st may_any way_any sel_any tog_any mov_any ins_any word_right word_left
theorem infoP:(Try.prog.info? 39).map (·.size) = some 6:=by kernel_rfl
theorem infoL:(Try.prog.info? 28).map (·.size) = some 3:=by kernel_rfl
theorem ret_s {fn:Func} {p:Tmp} (h:fn.results = #[.cell p 26]) {R:Ending -> World -> Prop} {a:Act} {w:World} {g:Nat} {l:List Value}
  (hl:l.length = 6) (hp:a.tmps.getD p undef = .pointer (some ⟨g,0,none⟩)) (hg:Bk w g 26 l) (hd:a.defers = []) (hR:R (.returned (.agg l.toArray)) w):bodyPost Try.prog fn R .ret a w :=
 bodyPost_ret (results_cell_row h a.tmps w g 26 l.toArray (0,0) _ hp hg Try.underlying26 rfl (by rw [infoS];simp [hl])) hd hR
theorem ret_l {fn:Func} {p:Tmp} (h:fn.results = #[.cell p 28]) {R:Ending -> World -> Prop} {a:Act} {w:World} {g:Nat} {l:List Value}
  (hl:l.length = 3) (hp:a.tmps.getD p undef = .pointer (some ⟨g,0,none⟩)) (hg:Bk w g 28 l) (hd:a.defers = []) (hR:R (.returned (.agg l.toArray)) w):bodyPost Try.prog fn R .ret a w :=
 bodyPost_ret (results_cell_row h a.tmps w g 28 l.toArray (0,0) _ hp hg Try.underlying28 rfl (by rw [infoL];simp [hl])) hd hR
def SY (w Y:World) (b:Nat) (u:World):Prop:=Q w u /\ (∀ k,k ≠ b -> k < Y.heap.size -> u.heap[k]? = Y.heap[k]?) /\ Y.heap.size <= u.heap.size
theorem SY.of {w Y:World} (b:Nat) (h:Q w Y):SY w Y b Y.drew:=⟨h.drew,fun _ _ _=>rfl,Nat.le_refl _⟩
theorem SY.q {w Y u v:World} {b:Nat} (h:SY w Y b u) (hq:Q u v):SY w Y b v:=⟨h.1.trans hq,fun k hk hl=>(hq.block (Nat.lt_of_lt_of_le hl h.2.2)).trans (h.2.1 k hk hl),Nat.le_trans h.2.2 hq.le⟩
theorem SY.bk {w Y u:World} {b k:Nat} {T:TypeId} {l:List Value} (h:SY w Y b u) (hk:Bk Y k T l) (hne:k ≠ b):Bk u k T l:=(h.2.1 k hne hk.lt).trans hk
theorem SY.row {w Y u:World} {b:Nat} (h:SY w Y b u) (hb:w.heap.size <= b) (cs:Array Value):SY w Y b (u.setRow b cs) :=
 ⟨Rw.Q_row h.1 hb cs,fun k hk hl=>(setRow_other u b k cs hk).trans (h.2.1 k hk hl),by simpa using h.2.2⟩
theorem of_any (g s:Bool) (a1 a2:Option Addr) (n1 n2 c1 c2:Nat) (c a:Int) (w:World) :
  Calls Try.prog 15 #[.agg #[.bool g,.slice a1 n1 c1,.bool s,.slice a2 n2 c2,.int .i64 c,.int .i64 a]] w fun e w'=>e = .returned (.agg #[.bool g,.slice a1 n1 c1,.bool s,.slice a2 n2 c2,.int .i64 c,.int .i64 a]) /\ Q w w':=by
 obtain ⟨y0,hy0⟩:∃ z,z = w.alloc (.cells #[.bool g,.slice a1 n1 c1,.bool s,.slice a2 n2 c2,.int .i64 c,.int .i64 a] 26):=⟨_,rfl⟩;have hq0:Q w y0:=by rw [hy0];exact (Q.refl _).alloc _
 have hs0:y0.heap.size = w.heap.size + 1:=by rw [hy0];simp
 have hc0:Bk y0 w.heap.size 26 [.bool g,.slice a1 n1 c1,.bool s,.slice a2 n2 c2,.int .i64 c,.int .i64 a]:=by rw [hy0];exact Bk.new _ _ _
 obtain ⟨y1,hy1⟩:∃ z,z = y0.alloc (.cells #[.bool false,.slice none 0 0,.bool false,.slice none 0 0,.int .i64 0,.int .i64 0] 39):=⟨_,rfl⟩;have hq1:Q y0 y1:=by rw [hy1];exact (Q.refl _).alloc _
 have hs1:y1.heap.size = w.heap.size + 2:=by rw [hy1];simp;omega
 have hc1:Bk y1 y0.heap.size 39 [.bool false,.slice none 0 0,.bool false,.slice none 0 0,.int .i64 0,.int .i64 0]:=by rw [hy1];exact Bk.new _ _ _
 rw [hs0] at hc1;have HQ:=Hd (hq0.trans hq1);have HSB:=Hd (hc0.q hq1);have HRB:=Hd hc1;have hz2:y1 = (w.alloc (.cells #[.bool g,.slice a1 n1 c1,.bool s,.slice a2 n2 c2,.int .i64 c,.int .i64 a] 26)).alloc (.cells #[.bool false,.slice none 0 0,.bool false,.slice none 0 0,.int .i64 0,.int .i64 0] 39):=by rw [hy1,hy0]
 obtain ⟨bS,hbbS⟩:∃ k,k = w.heap.size:=⟨_,rfl⟩;have HWbS:=Hd (show w.heap.size <= bS by omega);obtain ⟨bR,hbbR⟩:∃ k,k = w.heap.size + 1:=⟨_,rfl⟩;have HWbR:=Hd (show w.heap.size <= bR by omega);clear hq0 hs0 hc0 hy0 hq1 hs1 hc1 hy1;go_enter Try.func15,Try.ntmps15
 go_upto_region 1 with fail
 rw [<- hz2,<- hbbR,<- hbbS];rw [<- hbbS] at HSB;rw [<- hbbR] at HRB;clear hz2 hbbS hbbR;have xHSB0:=HSB.out.cell 0 rfl;have xHSB1:=HSB.out.cell 1 rfl;have xHSB2:=HSB.out.cell 2 rfl;have xHSB3:=HSB.out.cell 3 rfl;have xHSB4:=HSB.out.cell 4 rfl;have xHSB5:=HSB.out.cell 5 rfl;go_wp2_with (refine wpList_store_row (by rfl) 39 _ _ (by rfl) bR #[.bool g,.slice a1 n1 c1,.bool s,.slice a2 n2 c2,.int .i64 c,.int .i64 a] (by rfl) (by rfl) 39 _ HRB.out (by exact infoP) rfl (Rw.all1 (by rfl)) ?_)
 exact Pe.ret_s rfl rfl rfl (Rw.Bk_row HRB.out [.bool g,.slice a1 n1 c1,.bool s,.slice a2 n2 c2,.int .i64 c,.int .i64 a]) rfl ⟨rfl,Rw.Q_row HQ.out HWbR.out _⟩
theorem as_any (g s:Bool) (a1 a2:Option Addr) (n1 n2 c1 c2:Nat) (c a:Int) (w:World) :
  Calls Try.prog 18 #[.agg #[.bool g,.slice a1 n1 c1,.bool s,.slice a2 n2 c2,.int .i64 c,.int .i64 a]] w fun e w'=>e = .returned (.agg #[.bool g,.slice a1 n1 c1,.bool s,.slice a2 n2 c2,.int .i64 c,.int .i64 a]) /\ Q w w':=by
 obtain ⟨y0,hy0⟩:∃ z,z = w.alloc (.cells #[.bool g,.slice a1 n1 c1,.bool s,.slice a2 n2 c2,.int .i64 c,.int .i64 a] 39):=⟨_,rfl⟩;have hq0:Q w y0:=by rw [hy0];exact (Q.refl _).alloc _
 have hs0:y0.heap.size = w.heap.size + 1:=by rw [hy0];simp
 have hc0:Bk y0 w.heap.size 39 [.bool g,.slice a1 n1 c1,.bool s,.slice a2 n2 c2,.int .i64 c,.int .i64 a]:=by rw [hy0];exact Bk.new _ _ _
 obtain ⟨y1,hy1⟩:∃ z,z = y0.alloc (.cells #[.bool false,.slice none 0 0,.bool false,.slice none 0 0,.int .i64 0,.int .i64 0] 26):=⟨_,rfl⟩;have hq1:Q y0 y1:=by rw [hy1];exact (Q.refl _).alloc _
 have hs1:y1.heap.size = w.heap.size + 2:=by rw [hy1];simp;omega
 have hc1:Bk y1 y0.heap.size 26 [.bool false,.slice none 0 0,.bool false,.slice none 0 0,.int .i64 0,.int .i64 0]:=by rw [hy1];exact Bk.new _ _ _
 rw [hs0] at hc1;have HQ:=Hd (hq0.trans hq1);have HSB:=Hd (hc0.q hq1);have HRB:=Hd hc1;have hz2:y1 = (w.alloc (.cells #[.bool g,.slice a1 n1 c1,.bool s,.slice a2 n2 c2,.int .i64 c,.int .i64 a] 39)).alloc (.cells #[.bool false,.slice none 0 0,.bool false,.slice none 0 0,.int .i64 0,.int .i64 0] 26):=by rw [hy1,hy0]
 obtain ⟨bS,hbbS⟩:∃ k,k = w.heap.size:=⟨_,rfl⟩;have HWbS:=Hd (show w.heap.size <= bS by omega);obtain ⟨bR,hbbR⟩:∃ k,k = w.heap.size + 1:=⟨_,rfl⟩;have HWbR:=Hd (show w.heap.size <= bR by omega);clear hq0 hs0 hc0 hy0 hq1 hs1 hc1 hy1;go_enter Try.func18,Try.ntmps18
 go_upto_region 1 with fail
 rw [<- hz2,<- hbbR,<- hbbS];rw [<- hbbS] at HSB;rw [<- hbbR] at HRB;clear hz2 hbbS hbbR;have xHSB0:=HSB.out.cell 0 rfl;have xHSB1:=HSB.out.cell 1 rfl;have xHSB2:=HSB.out.cell 2 rfl;have xHSB3:=HSB.out.cell 3 rfl;have xHSB4:=HSB.out.cell 4 rfl;have xHSB5:=HSB.out.cell 5 rfl;go_wp2_with (refine wpList_store_row (by rfl) 26 _ _ (by rfl) bR #[.bool g,.slice a1 n1 c1,.bool s,.slice a2 n2 c2,.int .i64 c,.int .i64 a] (by rfl) (by rfl) 26 _ HRB.out (by exact infoS) rfl (Rw.all1 (by rfl)) ?_)
 exact ret_s rfl rfl rfl (Rw.Bk_row HRB.out [.bool g,.slice a1 n1 c1,.bool s,.slice a2 n2 c2,.int .i64 c,.int .i64 a]) rfl ⟨rfl,Rw.Q_row HQ.out HWbR.out _⟩
theorem lim_any (li lf:Int) (lg:Bool) (w:World) (h1:-9223372036854775808 <= li /\ li <= 9223372036854775807) (h2:-9223372036854775808 <= lf /\ lf <= 9223372036854775807) :
  Calls Try.prog 11 #[.agg #[.int .i64 li,.int .i64 lf,.bool lg]] w fun e w'=>e = .returned (.agg #[.int .i64 (Um.around li 10),.int .i64 (Um.around lf 7),.bool lg]) /\ Q w w':=by
 have HA1:=Hd (fun u=>(by
  refine (Ur.around_any li 10 u h1.1 h1.2 (by omega) (by omega)).mono ?_;rintro e w' ⟨rfl,rfl⟩;exact ⟨rfl,Q.refl _⟩:Calls Try.prog 24 #[.int .i64 li,.int .i64 10] u fun e w'=>e = .returned (.int .i64 (Um.around li 10)) /\ Q u w'))
 have HA2:=Hd (fun u=>(by
  refine (Ur.around_any lf 7 u h2.1 h2.2 (by omega) (by omega)).mono ?_;rintro e w' ⟨rfl,rfl⟩;exact ⟨rfl,Q.refl _⟩:Calls Try.prog 24 #[.int .i64 lf,.int .i64 7] u fun e w'=>e = .returned (.int .i64 (Um.around lf 7)) /\ Q u w'))
 generalize Um.around li 10 = A1 at *;generalize Um.around lf 7 = A2 at *;clear h1 h2;obtain ⟨y0,hy0⟩:∃ z,z = w.alloc (.cells #[.int .i64 li,.int .i64 lf,.bool lg] 28):=⟨_,rfl⟩;have hq0:Q w y0:=by rw [hy0];exact (Q.refl _).alloc _
 have hs0:y0.heap.size = w.heap.size + 1:=by rw [hy0];simp
 have hc0:Bk y0 w.heap.size 28 [.int .i64 li,.int .i64 lf,.bool lg]:=by rw [hy0];exact Bk.new _ _ _
 obtain ⟨y1,hy1⟩:∃ z,z = y0.alloc (.cells #[.int .i64 0,.int .i64 0,.bool false] 28):=⟨_,rfl⟩;have hq1:Q y0 y1:=by rw [hy1];exact (Q.refl _).alloc _
 have hs1:y1.heap.size = w.heap.size + 2:=by rw [hy1];simp;omega
 have hc1:Bk y1 y0.heap.size 28 [.int .i64 0,.int .i64 0,.bool false]:=by rw [hy1];exact Bk.new _ _ _
 rw [hs0] at hc1;have HQ:=Hd (hq0.trans hq1);have HLB:=Hd (hc0.q hq1);have HRB:=Hd hc1;have hz2:y1 = (w.alloc (.cells #[.int .i64 li,.int .i64 lf,.bool lg] 28)).alloc (.cells #[.int .i64 0,.int .i64 0,.bool false] 28):=by rw [hy1,hy0]
 obtain ⟨bL,hbbL⟩:∃ k,k = w.heap.size:=⟨_,rfl⟩;have HWbL:=Hd (show w.heap.size <= bL by omega);obtain ⟨bR,hbbR⟩:∃ k,k = w.heap.size + 1:=⟨_,rfl⟩;have HWbR:=Hd (show w.heap.size <= bR by omega);clear hq0 hs0 hc0 hy0 hq1 hs1 hc1 hy1;go_enter Try.func11,Try.ntmps11
 go_upto_region 1 with fail
 rw [<- hz2,<- hbbR,<- hbbL];rw [<- hbbL] at HLB;rw [<- hbbR] at HRB;have HNE:=Hd (show bL ≠ bR by omega);clear hz2 hbbL hbbR;refine wp_region_held_drew (S:=fun u=>El.SY w y1 bR u) (by kernel_rfl) (by exact El.SY.of _ (HQ.out)) (fun hHeld=>?_);have hS:El.SY w y1 bR y1.drew:=hHeld;clear hHeld;have hq:Q y1 y1.drew:=(Q.refl _).drew;have HRB:=Hd (Bk.q HRB.out hq);clear hq;generalize y1.drew = yR1x0 at *;change wpAnyH _ _ _ _ _ _ #[ff,ff,ff,ff,ff,ff,ff,ff,ff,ff] _ _;refine tk 0 (by simp only [gA,gB,gC];rfl) (by first | kernel_rfl | rfl) (fun uz _=>by go_simp;try with_reducible rfl) pq hS ?_;try simp only [Act.put,sA,sB,sC]
 refine tk 1 (by simp only [gA,gB,gC];rfl) (by first | kernel_rfl | rfl) (fun uz hSw=>by (try dsimp only at hSw);have hxx:=hSw.bk HLB.out HNE.out;have x0:=hxx.cell 0 rfl;clear hxx;go_simp;try with_reducible rfl) pq hS ?_;try simp only [Act.put,sA,sB,sC]
 refine tk 3 (by simp only [gA,gB,gC];rfl) (by first | kernel_rfl | rfl) (fun uz _=>by go_simp;try with_reducible rfl) pq hS ?_;try simp only [Act.put,sA,sB,sC]
 refine tk 4 (by simp only [gA,gB,gC];rfl) (by first | kernel_rfl | rfl) (fun uz hSw=>by (try dsimp only at hSw);have hxx:=hSw.bk HLB.out HNE.out;have x1:=hxx.cell 1 rfl;clear hxx;go_simp;try with_reducible rfl) pq hS ?_;try simp only [Act.put,sA,sB,sC]
 refine tk 6 (by simp only [gA,gB,gC];rfl) (by first | kernel_rfl | rfl) (fun uz _=>by go_simp;try with_reducible rfl) pq hS ?_;try simp only [Act.put,sA,sB,sC]
 refine tk 7 (by simp only [gA,gB,gC];rfl) (by first | kernel_rfl | rfl) (fun uz hSw=>by (try dsimp only at hSw);have hxx:=hSw.bk HLB.out HNE.out;have x2:=hxx.cell 2 rfl;clear hxx;go_simp;try with_reducible rfl) pq hS ?_;try simp only [Act.put,sA,sB,sC]
 refine wpAnyH_ready (rs:=[2]) (by kernel_rfl) (by simp) ?_;refine ar (by (try simp only [gA,gB,gC]);rfl) fun K hK=>?_;go_simp
 refine (HA1.out _).mono ?_;rintro e yR1x7 ⟨rfl,hq⟩;try (go_wp2_with fail)
 have HRB:=Hd (Bk.q HRB.out hq);have hS2:=El.SY.q hS hq;refine hK.out _ _ (by exact hS2) (fun hHeld=>?_);clear hK K hHeld hS hq;have hS:=hS2;clear hS2;try simp only [Act.put,sA,sB,sC]
 refine wpAnyH_ready (rs:=[5]) (by kernel_rfl) (by simp) ?_;refine ar (by (try simp only [gA,gB,gC]);rfl) fun K hK=>?_;go_simp
 refine (HA2.out _).mono ?_;rintro e yR1x8 ⟨rfl,hq⟩;try (go_wp2_with fail)
 have HRB:=Hd (Bk.q HRB.out hq);have hS2:=El.SY.q hS hq;refine hK.out _ _ (by exact hS2) (fun hHeld=>?_);clear hK K hHeld hS hq;have hS:=hS2;clear hS2;try simp only [Act.put,sA,sB,sC]
 refine tk 8 (by simp only [gA,gB,gC];rfl) (by first | kernel_rfl | rfl) (fun uz _=>by go_simp;try with_reducible rfl) pq hS ?_;try simp only [Act.put,sA,sB,sC]
 refine wpAnyH_ready (rs:=[9]) (by kernel_rfl) (by simp) ?_;refine ar (by (try simp only [gA,gB,gC]);rfl) fun K hK=>?_;rw [if_pos (by rfl)];refine wp_store_row 28 _ _ rfl (bR) #[.int .i64 A1,.int .i64 A2,.bool lg] (by rfl) (by rfl) 28 _ HRB.out (by exact infoL) rfl (Rw.all1 (by rfl)) ?_;have hS2:=El.SY.row hS HWbR.out #[.int .i64 A1,.int .i64 A2,.bool lg];replace HRB:=Hd (Rw.Bk_row HRB.out [.int .i64 A1,.int .i64 A2,.bool lg]);refine hK.out _ _ (by exact hS2) (fun hHeld=>?_);clear hK K hHeld hS;have hS:=hS2;clear hS2;generalize yR1x8.setRow (bR) #[.int .i64 A1,.int .i64 A2,.bool lg] = yR1x10 at *;try simp only [Act.put,sA,sB,sC]
 refine wpAnyH_done (by kernel_rfl) ?_ _;go_wp2_with fail
 exact ret_l rfl rfl rfl HRB.out rfl ⟨rfl,hS.1⟩
theorem few_any (g s:Bool) (a1 a2:Option Addr) (n1 n2 c1 c2:Nat) (c a:Int) (m:Nat) (w:World) (h1:n1 <= c1) (h2:n2 <= c2) (m1:c1 <= maxLen) (m2:c2 <= maxLen) (hm:m < 1000000) (p1 p2:Nat) (e1:p1 = min n1 m) (e2:p2 = min n2 m) :
  Calls Try.prog 13 #[.agg #[.bool g,.slice a1 n1 c1,.bool s,.slice a2 n2 c2,.int .i64 c,.int .i64 a],.int .i64 m] w fun e w'=>e = .returned (.agg #[.bool g,.slice a1 p1 c1,.bool s,.slice a2 p2 c2,.int .i64 c,.int .i64 a]) /\ Q w w':=by
 have HF:=Hd (fun u=>Tr.few_any g s a1 a2 n1 n2 c1 c2 m u h1 h2 m1 m2 hm p1 p2 e1 e2);clear h1 h2 m1 m2 hm e1 e2;obtain ⟨y0,hy0⟩:∃ z,z = w.alloc (.cells #[.bool g,.slice a1 n1 c1,.bool s,.slice a2 n2 c2,.int .i64 c,.int .i64 a] 26):=⟨_,rfl⟩;have hq0:Q w y0:=by rw [hy0];exact (Q.refl _).alloc _
 have hs0:y0.heap.size = w.heap.size + 1:=by rw [hy0];simp
 have hc0:Bk y0 w.heap.size 26 [.bool g,.slice a1 n1 c1,.bool s,.slice a2 n2 c2,.int .i64 c,.int .i64 a]:=by rw [hy0];exact Bk.new _ _ _
 obtain ⟨y1,hy1⟩:∃ z,z = y0.alloc (.cells #[.bool false,.slice none 0 0,.bool false,.slice none 0 0,.int .i64 0,.int .i64 0] 26):=⟨_,rfl⟩;have hq1:Q y0 y1:=by rw [hy1];exact (Q.refl _).alloc _
 have hs1:y1.heap.size = w.heap.size + 2:=by rw [hy1];simp;omega
 have hc1:Bk y1 y0.heap.size 26 [.bool false,.slice none 0 0,.bool false,.slice none 0 0,.int .i64 0,.int .i64 0]:=by rw [hy1];exact Bk.new _ _ _
 rw [hs0] at hc1;have HQ:=Hd (hq0.trans hq1);have HSB:=Hd (hc0.q hq1);have HRB:=Hd hc1;have hz2:y1 = (w.alloc (.cells #[.bool g,.slice a1 n1 c1,.bool s,.slice a2 n2 c2,.int .i64 c,.int .i64 a] 26)).alloc (.cells #[.bool false,.slice none 0 0,.bool false,.slice none 0 0,.int .i64 0,.int .i64 0] 26):=by rw [hy1,hy0]
 obtain ⟨bS,hbbS⟩:∃ k,k = w.heap.size:=⟨_,rfl⟩;have HWbS:=Hd (show w.heap.size <= bS by omega);obtain ⟨bR,hbbR⟩:∃ k,k = w.heap.size + 1:=⟨_,rfl⟩;have HWbR:=Hd (show w.heap.size <= bR by omega);clear hq0 hs0 hc0 hy0 hq1 hs1 hc1 hy1;go_enter Try.func13,Try.ntmps13
 go_upto_region 1 with fail
 rw [<- hz2,<- hbbR,<- hbbS];rw [<- hbbS] at HSB;rw [<- hbbR] at HRB;have HNE:=Hd (show bS ≠ bR by omega);clear hz2 hbbS hbbR;have xHSB0:=HSB.out.cell 0 rfl;have xHSB1:=HSB.out.cell 1 rfl;have xHSB2:=HSB.out.cell 2 rfl;have xHSB3:=HSB.out.cell 3 rfl;go_wp2_with fail
 refine (HF.out _).mono ?_;rintro e u1 ⟨rfl,hq⟩;replace HQ:=Hd (Q.trans HQ.out hq);replace HSB:=Hd (Bk.q HSB.out hq);replace HRB:=Hd (Bk.q HRB.out hq);clear hq;clear xHSB0 xHSB1 xHSB2 xHSB3;have y0:=HSB.out.cell 0 rfl;have f0:=HSB.out.free 0;have y1:=HSB.out.cell 1 rfl;have f1:=HSB.out.free 1;have y2:=HSB.out.cell 2 rfl;have f2:=HSB.out.free 2;have y3:=HSB.out.cell 3 rfl;have f3:=HSB.out.free 3;obtain ⟨v9,hv9⟩:∃ z,z = (((u1.setCell ⟨bS,0,none⟩ (.bool g)).setCell ⟨bS,1,none⟩ (.slice a1 p1 c1)).setCell ⟨bS,2,none⟩ (.bool s)).setCell ⟨bS,3,none⟩ (.slice a2 p2 c2):=⟨_,rfl⟩;replace HQ:=Hd (show Q w v9 by rw [hv9];exact (Q.setCell (Q.setCell (Q.setCell (Q.setCell HQ.out (ad:=⟨bS,0,none⟩) HWbS.out _) (ad:=⟨bS,1,none⟩) HWbS.out _) (ad:=⟨bS,2,none⟩) HWbS.out _) (ad:=⟨bS,3,none⟩) HWbS.out _));have HS9:=Hd (show Bk v9 bS 26 [.bool g,.slice a1 p1 c1,.bool s,.slice a2 p2 c2,.int .i64 c,.int .i64 a] by rw [hv9];exact ((((HSB.out.set 0 _).set 1 _).set 2 _).set 3 _));replace HRB:=Hd (show Bk v9 bR 26 [.bool false,.slice none 0 0,.bool false,.slice none 0 0,.int .i64 0,.int .i64 0] by rw [hv9];exact ((((HRB.out.past HNE.out _).past HNE.out _).past HNE.out _).past HNE.out _));clear HSB;go_upto_region 2 with fail
 rw [<- hv9];clear hv9 y0 y1 y2 y3 f0 f1 f2 f3;go_wp2_with (first | (refine wpList_load_row (by rfl) 26 _ (by rfl) bS (by rfl) 26 #[.bool g,.slice a1 p1 c1,.bool s,.slice a2 p2 c2,.int .i64 c,.int .i64 a] (0,0) _ HS9.out Try.underlying26 rfl (by exact infoS) ?_) | (refine wpList_store_row (by rfl) 26 _ _ (by rfl) bR #[.bool g,.slice a1 p1 c1,.bool s,.slice a2 p2 c2,.int .i64 c,.int .i64 a] (by rfl) (by rfl) 26 _ HRB.out (by exact infoS) rfl (Rw.all1 (by rfl)) ?_))
 exact ret_s rfl rfl rfl (Rw.Bk_row HRB.out [.bool g,.slice a1 p1 c1,.bool s,.slice a2 p2 c2,.int .i64 c,.int .i64 a]) rfl ⟨rfl,Rw.Q_row HQ.out HWbR.out _⟩
end El
end
end Go.Proofs.Ytnehhbobhnmbcaa
