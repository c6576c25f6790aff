/- The program's edit: a list of the call's own, a state of it, where a move leads. (and more) -/
import Derived.Test.YtnehhbobhnmbcaaR29
set_option linter.all false
set_option maxRecDepth 100000
set_option maxHeartbeats 8000000
namespace Go.Proofs.Ytnehhbobhnmbcaa
section
open Go.RowKit
namespace Pe
open Ed Tm
open Re hiding ret_st infoS infoD may_any way_any sel_any tog_any mov_any ins_any word_right word_left
theorem own_any (v:Value) (xs:List Int) (w:World) (hv:Lst w v xs) (hl:xs.length < 1000000) :
  Calls Try.prog 67 #[v] w fun e w'=>∃ u,e = .returned u /\ Own w' w.heap.size u xs /\ Q w w':=by
 obtain ⟨n,hn⟩:∃ n,n = xs.length:=⟨_,rfl⟩;obtain ⟨a,c,rfl,_,_⟩:=hv.form0 hn.symm;have HV:=Hd hv;have hol:=Own.nil w w.heap.size;have HW:=Hd (show ([]:List Int).length + xs.length < 1099511627776 from by show 0 + _ < _;omega);clear hv hl hn;go_enter Try.func67,Try.ntmps67
 go_wp2_with (at_builtin;refine push_list hol HV.out rfl _ _ rfl (by rfl) (by rfl) HW.out (Nat.le_refl _) ?_)
 intro u w2 hu hg2 hat2;have HU:=Hd hu;have HQ:=Hd ((Q.refl w).grown hg2 (fun k h=>by cases h));clear hu hg2 hat2;go_wp2_with fail
 go_ret
 exact ⟨_,rfl,HU.out,HQ.out⟩
theorem ret_s {fn:Func} {p:Tmp} (h:fn.results = #[.cell p 39]) {R:Ending -> World -> Prop} {a:Act} {w:World} {g:Nat} {l:List Value}
  (hl:l.length = 6) (hp:a.tmps.getD p undef = .pointer (some ⟨g,0,none⟩)) (hg:Bk w g 39 l) (hd:a.defers = []) (hR:R (.returned (.agg l.toArray)) w):bodyPost Try.prog fn R .ret a w :=
 bodyPost_ret (results_cell_row h a.tmps w g 39 l.toArray (0,0) _ hp hg Try.underlying39 rfl (by rw [infoS];simp [hl])) hd hR
theorem standing_any (g s:Bool) (a1 a2:Option Addr) (n1 n2 c1 c2:Nat) (I F:List Int) (an ca:Int) (w:World) (hi:Lst w (.slice a1 n1 c1) I) (hf:Lst w (.slice a2 n2 c2) F) (k1:I.length = n1) (k2:F.length = n2) (l1:n1 <= 100000) (l2:n2 <= 100000) :
  Calls Try.prog 47 #[.agg #[.bool g,.slice a1 n1 c1,.bool s,.slice a2 n2 c2],.int .i64 an,.int .i64 ca] w fun e w'=>∃ v,e = .returned v /\ SO w' w.heap.size v ⟨⟨g,I,s,F⟩,ca,an⟩ /\ Q w w':=by
 have HO1:=Hd (fun u (q:Q w u)=>own_any _ I u (hi.q q) (by omega));have HO2:=Hd (fun u (q:Q w u)=>own_any _ F u (hf.q q) (by omega));have HK1:=Hd k1;have HK2:=Hd k2;clear hi hf k1 k2;obtain ⟨y0,hy0⟩:∃ z,z = w.alloc (.cells #[.bool g,.slice a1 n1 c1,.bool s,.slice a2 n2 c2] 37):=⟨_,rfl⟩;have hq0:Q w y0:=by rw [hy0];exact (Q.refl _).alloc _
 have hs0:y0.heap.size = w.heap.size + 1:=by rw [hy0];simp
 have hc0:Bk y0 w.heap.size 37 [.bool g,.slice a1 n1 c1,.bool s,.slice a2 n2 c2]:=by rw [hy0];exact Bk.new _ _ _
 obtain ⟨y1,hy1⟩:∃ z,z = y0.alloc (.cells #[.bool false,.slice none 0 0,.bool false,.slice none 0 0,.int .i64 0,.int .i64 0] 39):=⟨_,rfl⟩;have hq1:Q y0 y1:=by rw [hy1];exact (Q.refl _).alloc _
 have hs1:y1.heap.size = w.heap.size + 2:=by rw [hy1];simp;omega
 have hc1:Bk y1 y0.heap.size 39 [.bool false,.slice none 0 0,.bool false,.slice none 0 0,.int .i64 0,.int .i64 0]:=by rw [hy1];exact Bk.new _ _ _
 rw [hs0] at hc1;have HQ:=Hd (hq0.trans hq1);have HDB:=Hd (hc0.q hq1);have HRB:=Hd hc1;have hz2:y1 = (w.alloc (.cells #[.bool g,.slice a1 n1 c1,.bool s,.slice a2 n2 c2] 37)).alloc (.cells #[.bool false,.slice none 0 0,.bool false,.slice none 0 0,.int .i64 0,.int .i64 0] 39):=by rw [hy1,hy0]
 obtain ⟨bD,hbbD⟩:∃ k,k = w.heap.size:=⟨_,rfl⟩;have HWbD:=Hd (show w.heap.size <= bD by omega);obtain ⟨bR,hbbR⟩:∃ k,k = w.heap.size + 1:=⟨_,rfl⟩;have HWbR:=Hd (show w.heap.size <= bR by omega);clear hq0 hs0 hc0 hy0 hq1 hs1 hc1 hy1;go_enter Try.func47,Try.ntmps47
 go_upto_region 1 with fail
 rw [<- hz2,<- hbbR,<- hbbD];rw [<- hbbD] at HDB;rw [<- hbbR] at HRB;have HNE:=Hd (show bR ≠ bD by omega);clear hz2 hbbD hbbR;refine wp_region_held_drew (S:=fun u=>Q w u) (by kernel_rfl) (by exact HQ.out.drew) (fun hHeld=>?_);have hS:Q w y1.drew:=hHeld;clear hHeld;have hq:Q y1 y1.drew:=(Q.refl _).drew;have HDB:=Hd (Bk.q HDB.out hq);have HRB:=Hd (Bk.q HRB.out hq);clear hq;generalize y1.drew = yR1x0 at *;change wpAnyH _ _ _ _ _ _ #[ff,ff,ff,ff,ff,ff,ff,ff,ff,ff] _ _;refine tk 0 (by simp only [gA,gB,gC];rfl) (by first | kernel_rfl | rfl) (fun uz _=>by go_simp;try with_reducible rfl) pq hS ?_;try simp only [Act.put,sA,sB,sC]
 refine tk 3 (by simp only [gA,gB,gC];rfl) (by first | kernel_rfl | rfl) (fun uz _=>by go_simp;try with_reducible rfl) pq hS ?_;try simp only [Act.put,sA,sB,sC]
 refine wpAnyH_ready (rs:=[1,4]) (by kernel_rfl) (by simp) ?_;refine (AllReadyH.cons (by (try simp only [gA,gB,gC]);rfl) (fun K hK=>?_) (AllReadyH.cons (by (try simp only [gA,gB,gC]);rfl) (fun K hK=>?_) AllReadyH.nil))
 ·have q9:=HDB.out.cell 1 rfl
  go_simp
  refine hK.out _ _ (by exact hS) (fun hHeld=>?_);clear hK K hHeld q9;try simp only [Act.put,sA,sB,sC]
  refine wpAnyH_ready (rs:=[2,4]) (by kernel_rfl) (by simp) ?_;refine (AllReadyH.cons (by (try simp only [gA,gB,gC]);rfl) (fun K hK=>?_) (AllReadyH.cons (by (try simp only [gA,gB,gC]);rfl) (fun K hK=>?_) AllReadyH.nil))
  ·go_simp
   refine (HO1.out _ hS).mono ?_;rintro e yR1x3 ⟨x,rfl,ho,hq⟩;have HBX:=Hd (show bR + 1 <= yR1x0.heap.size from HRB.out.lt);obtain ⟨p1,r1,rfl,_,_⟩:=ho.lst.form0 HK1.out;have HP1:=Hd (ho.mono HBX.out);clear ho HBX;try (go_wp2_with fail)
   have HDB:=Hd (Bk.q HDB.out hq);have HRB:=Hd (Bk.q HRB.out hq);have hS2:=Q.trans hS hq;refine hK.out _ _ (by exact hS2) (fun hHeld=>?_);clear hK K hHeld hS hq;have hS:=hS2;clear hS2;try simp only [Act.put,sA,sB,sC]
   refine wpAnyH_ready (rs:=[4]) (by kernel_rfl) (by simp) ?_;refine ar (by (try simp only [gA,gB,gC]);rfl) fun K hK=>?_;have q9:=HDB.out.cell 3 rfl;go_simp
   refine hK.out _ _ (by exact hS) (fun hHeld=>?_);clear hK K hHeld q9;try simp only [Act.put,sA,sB,sC]
   refine tk 6 (by simp only [gA,gB,gC];rfl) (by first | kernel_rfl | rfl) (fun uz _=>by go_simp;try with_reducible rfl) pq hS ?_;try simp only [Act.put,sA,sB,sC]
   refine wpAnyH_ready (rs:=[5]) (by kernel_rfl) (by simp) ?_;refine ar (by (try simp only [gA,gB,gC]);rfl) fun K hK=>?_;go_simp
   refine (HO2.out _ hS).mono ?_;rintro e yR1x5 ⟨x,rfl,ho,hq⟩;have HBX:=Hd (show bR + 1 <= yR1x3.heap.size from HRB.out.lt);obtain ⟨p2,r2,rfl,_,_⟩:=ho.lst.form0 HK2.out;have HP2:=Hd (ho.mono HBX.out);clear ho HBX;try (go_wp2_with fail)
   have HDB:=Hd (Bk.q HDB.out hq);have HRB:=Hd (Bk.q HRB.out hq);have HP1:=Hd (Own.q HP1.out hq);have hS2:=Q.trans hS hq;refine hK.out _ _ (by exact hS2) (fun hHeld=>?_);clear hK K hHeld hS hq;have hS:=hS2;clear hS2;try simp only [Act.put,sA,sB,sC]
   refine wpAnyH_ready (rs:=[7]) (by kernel_rfl) (by simp) ?_;refine ar (by (try simp only [gA,gB,gC]);rfl) fun K hK=>?_;have b9:=HDB.out.cell 1 rfl;have f9:=HDB.out.free 1;go_simp
   have hS2:=Q.setCell hS (ad:=⟨bD,1,none⟩) HWbD.out (.slice p1 n1 r1);replace HRB:=Hd (show Bk (yR1x5.setCell ⟨bD,1,none⟩ (.slice p1 n1 r1)) bR 39 [.bool false,.slice none 0 0,.bool false,.slice none 0 0,.int .i64 0,.int .i64 0] from HRB.out.past HNE.out.symm _);replace HP1:=Hd (show Own (yR1x5.setCell ⟨bD,1,none⟩ (.slice p1 n1 r1)) _ (.slice p1 n1 r1) I from Tm.Own_past HP1.out HDB.out (by decide) 1 _);replace HP2:=Hd (show Own (yR1x5.setCell ⟨bD,1,none⟩ (.slice p1 n1 r1)) _ (.slice p2 n2 r2) F from Tm.Own_past HP2.out HDB.out (by decide) 1 _);replace HDB:=Hd (show Bk (yR1x5.setCell ⟨bD,1,none⟩ (.slice p1 n1 r1)) bD 37 [.bool g,.slice p1 n1 r1,.bool s,.slice a2 n2 c2] from HDB.out.set 1 _);refine hK.out _ _ (by exact hS2) (fun hHeld=>?_);clear hK K hHeld hS b9 f9;have hS:=hS2;clear hS2;generalize yR1x5.setCell ⟨bD,1,none⟩ (.slice p1 n1 r1) = yR1x6 at *;try simp only [Act.put,sA,sB,sC]
   refine tk 8 (by simp only [gA,gB,gC];rfl) (by first | kernel_rfl | rfl) (fun uz _=>by go_simp;try with_reducible rfl) pq hS ?_;try simp only [Act.put,sA,sB,sC]
   refine wpAnyH_ready (rs:=[9]) (by kernel_rfl) (by simp) ?_;refine ar (by (try simp only [gA,gB,gC]);rfl) fun K hK=>?_;have b9:=HDB.out.cell 3 rfl;have f9:=HDB.out.free 3;go_simp
   have hS2:=Q.setCell hS (ad:=⟨bD,3,none⟩) HWbD.out (.slice p2 n2 r2);replace HRB:=Hd (show Bk (yR1x6.setCell ⟨bD,3,none⟩ (.slice p2 n2 r2)) bR 39 [.bool false,.slice none 0 0,.bool false,.slice none 0 0,.int .i64 0,.int .i64 0] from HRB.out.past HNE.out.symm _);replace HP1:=Hd (show Own (yR1x6.setCell ⟨bD,3,none⟩ (.slice p2 n2 r2)) _ (.slice p1 n1 r1) I from Tm.Own_past HP1.out HDB.out (by decide) 3 _);replace HP2:=Hd (show Own (yR1x6.setCell ⟨bD,3,none⟩ (.slice p2 n2 r2)) _ (.slice p2 n2 r2) F from Tm.Own_past HP2.out HDB.out (by decide) 3 _);replace HDB:=Hd (show Bk (yR1x6.setCell ⟨bD,3,none⟩ (.slice p2 n2 r2)) bD 37 [.bool g,.slice p1 n1 r1,.bool s,.slice p2 n2 r2] from HDB.out.set 3 _);refine hK.out _ _ (by exact hS2) (fun hHeld=>?_);clear hK K hHeld hS b9 f9;have hS:=hS2;clear hS2;generalize yR1x6.setCell ⟨bD,3,none⟩ (.slice p2 n2 r2) = yR1x8 at *;try simp only [Act.put,sA,sB,sC]
   refine wpAnyH_done (by kernel_rfl) ?_ _;clear HO1 HO2;go_wp2_with (first | (refine wpList_load_row (by rfl) 37 _ (by rfl) bD (by rfl) 37 #[.bool g,.slice p1 n1 r1,.bool s,.slice p2 n2 r2] (0,0) _ HDB.out Try.underlying37 rfl (by exact infoD) ?_) | (refine wpList_store_row (by rfl) 39 _ _ (by rfl) bR #[.bool g,.slice p1 n1 r1,.bool s,.slice p2 n2 r2,.int .i64 ca,.int .i64 an] (by rfl) (by rfl) 39 _ HRB.out (by exact infoS) rfl (Rw.all1 (by rfl)) ?_))
   exact ret_s rfl rfl rfl (Rw.Bk_row HRB.out [.bool g,.slice p1 n1 r1,.bool s,.slice p2 n2 r2,.int .i64 ca,.int .i64 an]) rfl ⟨_,rfl,SO.of ((own_rowE HP1.out (Nat.lt_succ_self _) _).mono (Nat.le_succ_of_le HWbR.out)) ((own_rowE HP2.out (Nat.lt_succ_self _) _).mono (Nat.le_succ_of_le HWbR.out)) HK1.out HK2.out,Rw.Q_row hS HWbR.out _⟩
  ·have q9:=HDB.out.cell 3 rfl
   go_simp
   refine hK.out _ _ (by exact hS) (fun hHeld=>?_);clear hK K hHeld q9;try simp only [Act.put,sA,sB,sC]
   refine wpAnyH_ready (rs:=[2]) (by kernel_rfl) (by simp) ?_;refine ar (by (try simp only [gA,gB,gC]);rfl) fun K hK=>?_;go_simp
   refine (HO1.out _ hS).mono ?_;rintro e yR1x9 ⟨x,rfl,ho,hq⟩;have HBX:=Hd (show bR + 1 <= yR1x0.heap.size from HRB.out.lt);obtain ⟨p1,r1,rfl,_,_⟩:=ho.lst.form0 HK1.out;have HP1:=Hd (ho.mono HBX.out);clear ho HBX;try (go_wp2_with fail)
   have HDB:=Hd (Bk.q HDB.out hq);have HRB:=Hd (Bk.q HRB.out hq);have hS2:=Q.trans hS hq;refine hK.out _ _ (by exact hS2) (fun hHeld=>?_);clear hK K hHeld hS hq;have hS:=hS2;clear hS2;try simp only [Act.put,sA,sB,sC]
   refine tk 6 (by simp only [gA,gB,gC];rfl) (by first | kernel_rfl | rfl) (fun uz _=>by go_simp;try with_reducible rfl) pq hS ?_;try simp only [Act.put,sA,sB,sC]
   refine wpAnyH_ready (rs:=[5]) (by kernel_rfl) (by simp) ?_;refine ar (by (try simp only [gA,gB,gC]);rfl) fun K hK=>?_;go_simp
   refine (HO2.out _ hS).mono ?_;rintro e yR1x11 ⟨x,rfl,ho,hq⟩;have HBX:=Hd (show bR + 1 <= yR1x9.heap.size from HRB.out.lt);obtain ⟨p2,r2,rfl,_,_⟩:=ho.lst.form0 HK2.out;have HP2:=Hd (ho.mono HBX.out);clear ho HBX;try (go_wp2_with fail)
   have HDB:=Hd (Bk.q HDB.out hq);have HRB:=Hd (Bk.q HRB.out hq);have HP1:=Hd (Own.q HP1.out hq);have hS2:=Q.trans hS hq;refine hK.out _ _ (by exact hS2) (fun hHeld=>?_);clear hK K hHeld hS hq;have hS:=hS2;clear hS2;try simp only [Act.put,sA,sB,sC]
   refine wpAnyH_ready (rs:=[7]) (by kernel_rfl) (by simp) ?_;refine ar (by (try simp only [gA,gB,gC]);rfl) fun K hK=>?_;have b9:=HDB.out.cell 1 rfl;have f9:=HDB.out.free 1;go_simp
   have hS2:=Q.setCell hS (ad:=⟨bD,1,none⟩) HWbD.out (.slice p1 n1 r1);replace HRB:=Hd (show Bk (yR1x11.setCell ⟨bD,1,none⟩ (.slice p1 n1 r1)) bR 39 [.bool false,.slice none 0 0,.bool false,.slice none 0 0,.int .i64 0,.int .i64 0] from HRB.out.past HNE.out.symm _);replace HP1:=Hd (show Own (yR1x11.setCell ⟨bD,1,none⟩ (.slice p1 n1 r1)) _ (.slice p1 n1 r1) I from Tm.Own_past HP1.out HDB.out (by decide) 1 _);replace HP2:=Hd (show Own (yR1x11.setCell ⟨bD,1,none⟩ (.slice p1 n1 r1)) _ (.slice p2 n2 r2) F from Tm.Own_past HP2.out HDB.out (by decide) 1 _);replace HDB:=Hd (show Bk (yR1x11.setCell ⟨bD,1,none⟩ (.slice p1 n1 r1)) bD 37 [.bool g,.slice p1 n1 r1,.bool s,.slice a2 n2 c2] from HDB.out.set 1 _);refine hK.out _ _ (by exact hS2) (fun hHeld=>?_);clear hK K hHeld hS b9 f9;have hS:=hS2;clear hS2;generalize yR1x11.setCell ⟨bD,1,none⟩ (.slice p1 n1 r1) = yR1x12 at *;try simp only [Act.put,sA,sB,sC]
   refine tk 8 (by simp only [gA,gB,gC];rfl) (by first | kernel_rfl | rfl) (fun uz _=>by go_simp;try with_reducible rfl) pq hS ?_;try simp only [Act.put,sA,sB,sC]
   refine wpAnyH_ready (rs:=[9]) (by kernel_rfl) (by simp) ?_;refine ar (by (try simp only [gA,gB,gC]);rfl) fun K hK=>?_;have b9:=HDB.out.cell 3 rfl;have f9:=HDB.out.free 3;go_simp
   have hS2:=Q.setCell hS (ad:=⟨bD,3,none⟩) HWbD.out (.slice p2 n2 r2);replace HRB:=Hd (show Bk (yR1x12.setCell ⟨bD,3,none⟩ (.slice p2 n2 r2)) bR 39 [.bool false,.slice none 0 0,.bool false,.slice none 0 0,.int .i64 0,.int .i64 0] from HRB.out.past HNE.out.symm _);replace HP1:=Hd (show Own (yR1x12.setCell ⟨bD,3,none⟩ (.slice p2 n2 r2)) _ (.slice p1 n1 r1) I from Tm.Own_past HP1.out HDB.out (by decide) 3 _);replace HP2:=Hd (show Own (yR1x12.setCell ⟨bD,3,none⟩ (.slice p2 n2 r2)) _ (.slice p2 n2 r2) F from Tm.Own_past HP2.out HDB.out (by decide) 3 _);replace HDB:=Hd (show Bk (yR1x12.setCell ⟨bD,3,none⟩ (.slice p2 n2 r2)) bD 37 [.bool g,.slice p1 n1 r1,.bool s,.slice p2 n2 r2] from HDB.out.set 3 _);refine hK.out _ _ (by exact hS2) (fun hHeld=>?_);clear hK K hHeld hS b9 f9;have hS:=hS2;clear hS2;generalize yR1x12.setCell ⟨bD,3,none⟩ (.slice p2 n2 r2) = yR1x14 at *;try simp only [Act.put,sA,sB,sC]
   refine wpAnyH_done (by kernel_rfl) ?_ _;clear HO1 HO2;go_wp2_with (first | (refine wpList_load_row (by rfl) 37 _ (by rfl) bD (by rfl) 37 #[.bool g,.slice p1 n1 r1,.bool s,.slice p2 n2 r2] (0,0) _ HDB.out Try.underlying37 rfl (by exact infoD) ?_) | (refine wpList_store_row (by rfl) 39 _ _ (by rfl) bR #[.bool g,.slice p1 n1 r1,.bool s,.slice p2 n2 r2,.int .i64 ca,.int .i64 an] (by rfl) (by rfl) 39 _ HRB.out (by exact infoS) rfl (Rw.all1 (by rfl)) ?_))
   exact ret_s rfl rfl rfl (Rw.Bk_row HRB.out [.bool g,.slice p1 n1 r1,.bool s,.slice p2 n2 r2,.int .i64 ca,.int .i64 an]) rfl ⟨_,rfl,SO.of ((own_rowE HP1.out (Nat.lt_succ_self _) _).mono (Nat.le_succ_of_le HWbR.out)) ((own_rowE HP2.out (Nat.lt_succ_self _) _).mono (Nat.le_succ_of_le HWbR.out)) HK1.out HK2.out,Rw.Q_row hS HWbR.out _⟩
 ·have q9:=HDB.out.cell 3 rfl
  go_simp
  refine hK.out _ _ (by exact hS) (fun hHeld=>?_);clear hK K hHeld q9;try simp only [Act.put,sA,sB,sC]
  refine wpAnyH_ready (rs:=[1]) (by kernel_rfl) (by simp) ?_;refine ar (by (try simp only [gA,gB,gC]);rfl) fun K hK=>?_;have q9:=HDB.out.cell 1 rfl;go_simp
  refine hK.out _ _ (by exact hS) (fun hHeld=>?_);clear hK K hHeld q9;try simp only [Act.put,sA,sB,sC]
  refine wpAnyH_ready (rs:=[2]) (by kernel_rfl) (by simp) ?_;refine ar (by (try simp only [gA,gB,gC]);rfl) fun K hK=>?_;go_simp
  refine (HO1.out _ hS).mono ?_;rintro e yR1x15 ⟨x,rfl,ho,hq⟩;have HBX:=Hd (show bR + 1 <= yR1x0.heap.size from HRB.out.lt);obtain ⟨p1,r1,rfl,_,_⟩:=ho.lst.form0 HK1.out;have HP1:=Hd (ho.mono HBX.out);clear ho HBX;try (go_wp2_with fail)
  have HDB:=Hd (Bk.q HDB.out hq);have HRB:=Hd (Bk.q HRB.out hq);have hS2:=Q.trans hS hq;refine hK.out _ _ (by exact hS2) (fun hHeld=>?_);clear hK K hHeld hS hq;have hS:=hS2;clear hS2;try simp only [Act.put,sA,sB,sC]
  refine tk 6 (by simp only [gA,gB,gC];rfl) (by first | kernel_rfl | rfl) (fun uz _=>by go_simp;try with_reducible rfl) pq hS ?_;try simp only [Act.put,sA,sB,sC]
  refine wpAnyH_ready (rs:=[5]) (by kernel_rfl) (by simp) ?_;refine ar (by (try simp only [gA,gB,gC]);rfl) fun K hK=>?_;go_simp
  refine (HO2.out _ hS).mono ?_;rintro e yR1x17 ⟨x,rfl,ho,hq⟩;have HBX:=Hd (show bR + 1 <= yR1x15.heap.size from HRB.out.lt);obtain ⟨p2,r2,rfl,_,_⟩:=ho.lst.form0 HK2.out;have HP2:=Hd (ho.mono HBX.out);clear ho HBX;try (go_wp2_with fail)
  have HDB:=Hd (Bk.q HDB.out hq);have HRB:=Hd (Bk.q HRB.out hq);have HP1:=Hd (Own.q HP1.out hq);have hS2:=Q.trans hS hq;refine hK.out _ _ (by exact hS2) (fun hHeld=>?_);clear hK K hHeld hS hq;have hS:=hS2;clear hS2;try simp only [Act.put,sA,sB,sC]
  refine wpAnyH_ready (rs:=[7]) (by kernel_rfl) (by simp) ?_;refine ar (by (try simp only [gA,gB,gC]);rfl) fun K hK=>?_;have b9:=HDB.out.cell 1 rfl;have f9:=HDB.out.free 1;go_simp
  have hS2:=Q.setCell hS (ad:=⟨bD,1,none⟩) HWbD.out (.slice p1 n1 r1);replace HRB:=Hd (show Bk (yR1x17.setCell ⟨bD,1,none⟩ (.slice p1 n1 r1)) bR 39 [.bool false,.slice none 0 0,.bool false,.slice none 0 0,.int .i64 0,.int .i64 0] from HRB.out.past HNE.out.symm _);replace HP1:=Hd (show Own (yR1x17.setCell ⟨bD,1,none⟩ (.slice p1 n1 r1)) _ (.slice p1 n1 r1) I from Tm.Own_past HP1.out HDB.out (by decide) 1 _);replace HP2:=Hd (show Own (yR1x17.setCell ⟨bD,1,none⟩ (.slice p1 n1 r1)) _ (.slice p2 n2 r2) F from Tm.Own_past HP2.out HDB.out (by decide) 1 _);replace HDB:=Hd (show Bk (yR1x17.setCell ⟨bD,1,none⟩ (.slice p1 n1 r1)) bD 37 [.bool g,.slice p1 n1 r1,.bool s,.slice a2 n2 c2] from HDB.out.set 1 _);refine hK.out _ _ (by exact hS2) (fun hHeld=>?_);clear hK K hHeld hS b9 f9;have hS:=hS2;clear hS2;generalize yR1x17.setCell ⟨bD,1,none⟩ (.slice p1 n1 r1) = yR1x18 at *;try simp only [Act.put,sA,sB,sC]
  refine tk 8 (by simp only [gA,gB,gC];rfl) (by first | kernel_rfl | rfl) (fun uz _=>by go_simp;try with_reducible rfl) pq hS ?_;try simp only [Act.put,sA,sB,sC]
  refine wpAnyH_ready (rs:=[9]) (by kernel_rfl) (by simp) ?_;refine ar (by (try simp only [gA,gB,gC]);rfl) fun K hK=>?_;have b9:=HDB.out.cell 3 rfl;have f9:=HDB.out.free 3;go_simp
  have hS2:=Q.setCell hS (ad:=⟨bD,3,none⟩) HWbD.out (.slice p2 n2 r2);replace HRB:=Hd (show Bk (yR1x18.setCell ⟨bD,3,none⟩ (.slice p2 n2 r2)) bR 39 [.bool false,.slice none 0 0,.bool false,.slice none 0 0,.int .i64 0,.int .i64 0] from HRB.out.past HNE.out.symm _);replace HP1:=Hd (show Own (yR1x18.setCell ⟨bD,3,none⟩ (.slice p2 n2 r2)) _ (.slice p1 n1 r1) I from Tm.Own_past HP1.out HDB.out (by decide) 3 _);replace HP2:=Hd (show Own (yR1x18.setCell ⟨bD,3,none⟩ (.slice p2 n2 r2)) _ (.slice p2 n2 r2) F from Tm.Own_past HP2.out HDB.out (by decide) 3 _);replace HDB:=Hd (show Bk (yR1x18.setCell ⟨bD,3,none⟩ (.slice p2 n2 r2)) bD 37 [.bool g,.slice p1 n1 r1,.bool s,.slice p2 n2 r2] from HDB.out.set 3 _);refine hK.out _ _ (by exact hS2) (fun hHeld=>?_);clear hK K hHeld hS b9 f9;have hS:=hS2;clear hS2;generalize yR1x18.setCell ⟨bD,3,none⟩ (.slice p2 n2 r2) = yR1x20 at *;try simp only [Act.put,sA,sB,sC]
  refine wpAnyH_done (by kernel_rfl) ?_ _;clear HO1 HO2;go_wp2_with (first | (refine wpList_load_row (by rfl) 37 _ (by rfl) bD (by rfl) 37 #[.bool g,.slice p1 n1 r1,.bool s,.slice p2 n2 r2] (0,0) _ HDB.out Try.underlying37 rfl (by exact infoD) ?_) | (refine wpList_store_row (by rfl) 39 _ _ (by rfl) bR #[.bool g,.slice p1 n1 r1,.bool s,.slice p2 n2 r2,.int .i64 ca,.int .i64 an] (by rfl) (by rfl) 39 _ HRB.out (by exact infoS) rfl (Rw.all1 (by rfl)) ?_))
  exact ret_s rfl rfl rfl (Rw.Bk_row HRB.out [.bool g,.slice p1 n1 r1,.bool s,.slice p2 n2 r2,.int .i64 ca,.int .i64 an]) rfl ⟨_,rfl,SO.of ((own_rowE HP1.out (Nat.lt_succ_self _) _).mono (Nat.le_succ_of_le HWbR.out)) ((own_rowE HP2.out (Nat.lt_succ_self _) _).mono (Nat.le_succ_of_le HWbR.out)) HK1.out HK2.out,Rw.Q_row hS HWbR.out _⟩
theorem moved_any (g s:Bool) (a1 a2:Option Addr) (n1 n2 c1 c2:Nat) (I F:List Int) (c:Nat) (a wh:Int) (w:World) (hi:Lst w (.slice a1 n1 c1) I) (hf:Lst w (.slice a2 n2 c2) F) (k1:I.length = n1) (k2:F.length = n2) (l1:n1 <= 100000) (l2:n2 <= 100000) (hc:c <= (ats ⟨g,I,s,F⟩).length) :
  Calls Try.prog 48 #[.agg #[.bool g,.slice a1 n1 c1,.bool s,.slice a2 n2 c2,.int .i64 c,.int .i64 a],.int .i64 wh] w fun e w'=>e = .returned (.int .i64 (way ⟨⟨g,I,s,F⟩,c,a⟩ wh)) /\ Q w w':=by
 have HA:=Hd (fun u (q:Q w u)=>Tp.atoms_any g s a1 a2 n1 n2 c1 c2 I F u (hi.q q) (hf.q q) k1 k2 l1 l2);have hn:(ats ⟨g,I,s,F⟩).length = n1 + (sep s).length + n2:=by rw [ats_len,k1,k2]
 have hsl:=sep_len s;have hAT:I ++ sep s ++ F = ats ⟨g,I,s,F⟩:=rfl;rw [hAT] at HA;have HR:=Hd (show way ⟨⟨g,I,s,F⟩,c,a⟩ wh = if wh = 0 then max ((c:Int) - 1) 0 else if wh = 1 then min ((c:Int) + 1) ((n1 + (sep s).length + n2:Nat):Int) else if wh = 2 then (wordL (ats ⟨g,I,s,F⟩) c:Nat)
   else if wh = 3 then (wordR (ats ⟨g,I,s,F⟩) c:Nat) else if wh = 4 then 0 else ((n1 + (sep s).length + n2:Nat):Int) from by
  unfold way len;dsimp only;rw [hn];rfl)
 generalize way ⟨⟨g,I,s,F⟩,c,a⟩ wh = RR at *;generalize ats ⟨g,I,s,F⟩ = AT at *;have hnb:n1 + (sep s).length + n2 <= 200001:=by omega
 generalize n1 + (sep s).length + n2 = n at *;have HWR:=Hd (fun v u (h:Lst u v AT)=>word_right v AT c u h hc (by omega));have HWL:=Hd (fun v u (h:Lst u v AT)=>word_left v AT c u h hc (by omega));rw [hn] at hc;have HC0:=Hd (fun va vc u=>left_any va n vc c u hc (by omega));have HC1:=Hd (fun va vc u=>right_any va n vc c u hc (by omega));have HC4:=Hd (fun va vc u=>home_any va n vc c u hc (by omega));have HC5:=Hd (fun va vc u=>end_any va n vc c u hc (by omega));generalize max ((c:Int) - 1) 0 = W0 at *;generalize min ((c:Int) + 1) (n:Int) = W1 at *;generalize wordL AT c = W2 at *;generalize wordR AT c = W3 at *;clear hi hf k1 k2 hn hAT;obtain ⟨y,hy⟩:∃ z,z = w.alloc (.cells #[.bool g,.slice a1 n1 c1,.bool s,.slice a2 n2 c2,.int .i64 c,.int .i64 a] 39):=⟨_,rfl⟩;have HQY:=Hd (show Q w y by rw [hy];exact (Q.refl w).alloc _);obtain ⟨bS,hbS⟩:∃ b,b = w.heap.size:=⟨_,rfl⟩;have HBY:=Hd (show Bk y bS 39 [.bool g,.slice a1 n1 c1,.bool s,.slice a2 n2 c2,.int .i64 c,.int .i64 a] by rw [hy,hbS];exact Bk.new _ _ _);have x0:=HBY.out.cell 0 rfl;have x1:=HBY.out.cell 1 rfl;have x2:=HBY.out.cell 2 rfl;have x3:=HBY.out.cell 3 rfl;go_enter Try.func48,Try.ntmps48
 go_upto_region 1 with fail
 rw [<- hy,<- hbS];clear hy hbS;go_wp2_with fail
 refine (HA.out _ HQY.out).mono ?_;rintro e y1 ⟨av,ac,rfl,ho,hq⟩;have HQ1:=Hd (HQY.out.trans hq);have HL:=Hd ho.lst;have HB1:=Hd (HBY.out.q hq);clear hq x0 x1 x2 x3 ho;have x4:=HB1.out.cell 4 rfl;by_cases h0:wh = 0
 ·replace HR:=Hd (HR.out.trans (if_pos h0))
  subst h0;go_wp2_with fail
  refine (HC0.out _ _ _).mono ?_;rintro e _ ⟨rfl,rfl⟩;go_wp2_with fail
  go_ret
  exact ⟨by rw [HR.out] <;> rfl,HQ1.out⟩
 ·have hb0:(wh == 0) = false:=beq_eq_false_iff_ne.2 h0
  replace HR:=Hd (HR.out.trans (if_neg h0));by_cases h1:wh = 1
  ·replace HR:=Hd (HR.out.trans (if_pos h1))
   subst h1;go_wp2_with fail
   refine (HC1.out _ _ _).mono ?_;rintro e _ ⟨rfl,rfl⟩;go_wp2_with fail
   go_ret
   exact ⟨by rw [HR.out] <;> rfl,HQ1.out⟩
  ·have hb1:(wh == 1) = false:=beq_eq_false_iff_ne.2 h1
   replace HR:=Hd (HR.out.trans (if_neg h1));by_cases h2:wh = 2
   ·replace HR:=Hd (HR.out.trans (if_pos h2))
    subst h2;go_wp2_with fail
    refine (HWL.out _ _ HL.out).mono ?_;rintro e _ ⟨rfl,rfl⟩;go_wp2_with fail
    go_ret
    exact ⟨by rw [HR.out] <;> rfl,HQ1.out⟩
   ·have hb2:(wh == 2) = false:=beq_eq_false_iff_ne.2 h2
    replace HR:=Hd (HR.out.trans (if_neg h2));by_cases h3:wh = 3
    ·replace HR:=Hd (HR.out.trans (if_pos h3))
     subst h3;go_wp2_with fail
     refine (HWR.out _ _ HL.out).mono ?_;rintro e _ ⟨rfl,rfl⟩;go_wp2_with fail
     go_ret
     exact ⟨by rw [HR.out] <;> rfl,HQ1.out⟩
    ·have hb3:(wh == 3) = false:=beq_eq_false_iff_ne.2 h3
     replace HR:=Hd (HR.out.trans (if_neg h3));by_cases h4:wh = 4
     ·replace HR:=Hd (HR.out.trans (if_pos h4))
      subst h4;go_wp2_with fail
      refine (HC4.out _ _ _).mono ?_;rintro e _ ⟨rfl,rfl⟩;go_wp2_with fail
      go_ret
      exact ⟨by rw [HR.out] <;> rfl,HQ1.out⟩
     ·have hb4:(wh == 4) = false:=beq_eq_false_iff_ne.2 h4
      replace HR:=Hd (HR.out.trans (if_neg h4));go_wp2_with fail
      refine (HC5.out _ _ _).mono ?_;rintro e _ ⟨rfl,rfl⟩;go_wp2_with fail
      go_ret
      exact ⟨by rw [HR.out] <;> rfl,HQ1.out⟩
theorem let_any (g s:Bool) (a1 a2:Option Addr) (n1 n2 c1 c2:Nat) (I F:List Int) (c:Nat) (a wh:Int) (w:World) (hi:Lst w (.slice a1 n1 c1) I) (hf:Lst w (.slice a2 n2 c2) F) (k1:I.length = n1) (k2:F.length = n2) (l1:n1 <= 100000) (l2:n2 <= 100000) (hm:mayS ⟨⟨g,I,s,F⟩,c,a⟩ = true) :
  Calls Try.prog 49 #[.agg #[.bool g,.slice a1 n1 c1,.bool s,.slice a2 n2 c2,.int .i64 c,.int .i64 a],.int .i64 wh] w fun e w'=>e = .returned (.int .i64 (movT ⟨⟨g,I,s,F⟩,c,a⟩ wh false)) /\ Q w w':=by
 have HSN:=Hd (fun u (q:Q w u)=>span_any g s a1 a2 n1 n2 c1 c2 I F c a u (hi.q q) (hf.q q) k1 k2 l1 l2);rw [spF_ok hm,spB_ok hm] at HSN;have hc:=((mayS_iff _).1 hm).2.1;unfold len at hc;dsimp only at hc;have HMV:=Hd (fun u (q:Q w u)=>moved_any g s a1 a2 n1 n2 c1 c2 I F c a wh u (hi.q q) (hf.q q) k1 k2 l1 l2 (by omega));have HR:=Hd (show movT ⟨⟨g,I,s,F⟩,c,a⟩ wh false = if ¬ (c:Int) = a /\ wh = 0 then fr ⟨⟨g,I,s,F⟩,c,a⟩ else if ¬ (c:Int) = a /\ wh = 1 then bk ⟨⟨g,I,s,F⟩,c,a⟩ else way ⟨⟨g,I,s,F⟩,c,a⟩ wh from by unfold movT;simp only [true_and])
 have hlt:fr ⟨⟨g,I,s,F⟩,c,a⟩ < bk ⟨⟨g,I,s,F⟩,c,a⟩ ↔ ¬ (c:Int) = a:=by
  show min (c:Int) a < max (c:Int) a ↔ _;constructor <;> intro h <;> omega
 generalize movT ⟨⟨g,I,s,F⟩,c,a⟩ wh false = RR at *;generalize way ⟨⟨g,I,s,F⟩,c,a⟩ wh = WY at *;generalize fr ⟨⟨g,I,s,F⟩,c,a⟩ = FR at *;generalize bk ⟨⟨g,I,s,F⟩,c,a⟩ = BK at *;clear hi hf k1 k2 hm hc;obtain ⟨y,hy⟩:∃ z,z = w.alloc (.cells #[.bool g,.slice a1 n1 c1,.bool s,.slice a2 n2 c2,.int .i64 c,.int .i64 a] 39):=⟨_,rfl⟩;have HQY:=Hd (show Q w y by rw [hy];exact (Q.refl w).alloc _);obtain ⟨bS,hbS⟩:∃ b,b = w.heap.size:=⟨_,rfl⟩;have HBY:=Hd (show Bk y bS 39 [.bool g,.slice a1 n1 c1,.bool s,.slice a2 n2 c2,.int .i64 c,.int .i64 a] by rw [hy,hbS];exact Bk.new _ _ _);go_enter Try.func49,Try.ntmps49
 go_upto_region 1 with fail
 rw [<- hy,<- hbS];clear hy hbS;go_wp2_with (refine wpList_load_row (by rfl) 39 _ (by rfl) bS (by rfl) 39 #[.bool g,.slice a1 n1 c1,.bool s,.slice a2 n2 c2,.int .i64 c,.int .i64 a] (0,0) _ HBY.out Try.underlying39 rfl (by exact infoS) ?_)
 refine (HSN.out _ HQY.out).mono ?_;rintro e u1 ⟨rfl,hq⟩;replace HQY:=Hd (Q.trans HQY.out hq);replace HBY:=Hd (Bk.q HBY.out hq);clear hq;by_cases hca:(c:Int) = a
 ·have hl:¬ FR < BK:=fun h=>hlt.1 h hca
  replace HR:=Hd (HR.out.trans ((if_neg (fun h=>h.1 hca)).trans (if_neg (fun h=>h.1 hca))));clear hlt hca;go_wp2_with (refine wpList_load_row (by rfl) 39 _ (by rfl) bS (by rfl) 39 #[.bool g,.slice a1 n1 c1,.bool s,.slice a2 n2 c2,.int .i64 c,.int .i64 a] (0,0) _ HBY.out Try.underlying39 rfl (by exact infoS) ?_)
  refine (HMV.out _ HQY.out).mono ?_;rintro e y9 ⟨rfl,hq⟩;replace HQY:=Hd (HQY.out.trans hq);clear hq;go_wp2_with fail
  go_ret
  exact ⟨by rw [HR.out] <;> rfl,HQY.out⟩
 ·have hl:FR < BK:=hlt.2 hca
  by_cases h0:wh = 0
  ·replace HR:=Hd (HR.out.trans (if_pos ⟨hca,h0⟩))
   clear hlt hca;subst h0;go_wp2_with fail
   go_ret
   exact ⟨by rw [HR.out] <;> rfl,HQY.out⟩
  ·have hb0:(wh == 0) = false:=beq_eq_false_iff_ne.2 h0
   replace HR:=Hd (HR.out.trans (if_neg (fun h=>h0 h.2)));by_cases h1:wh = 1
   ·replace HR:=Hd (HR.out.trans (if_pos ⟨hca,h1⟩))
    clear hlt hca;subst h1;go_wp2_with fail
    go_ret
    exact ⟨by rw [HR.out] <;> rfl,HQY.out⟩
   ·have hb1:(wh == 1) = false:=beq_eq_false_iff_ne.2 h1
    replace HR:=Hd (HR.out.trans (if_neg (fun h=>h1 h.2)));clear hlt hca;go_wp2_with (refine wpList_load_row (by rfl) 39 _ (by rfl) bS (by rfl) 39 #[.bool g,.slice a1 n1 c1,.bool s,.slice a2 n2 c2,.int .i64 c,.int .i64 a] (0,0) _ HBY.out Try.underlying39 rfl (by exact infoS) ?_)
    refine (HMV.out _ HQY.out).mono ?_;rintro e y9 ⟨rfl,hq⟩;replace HQY:=Hd (HQY.out.trans hq);clear hq;go_wp2_with fail
    go_ret
    exact ⟨by rw [HR.out] <;> rfl,HQY.out⟩
end Pe
end
end Go.Proofs.Ytnehhbobhnmbcaa
