/- What the document's own answers on drafts come to, by a walk through each: May, Same, Fits, Few, Points, Atoms, Dec, Text. (and more) -/
import Derived.Test.YtnehhbobhnmbcaaR17
set_option linter.all false
set_option maxRecDepth 100000
set_option maxHeartbeats 8000000
namespace Go.Proofs.Ytnehhbobhnmbcaa
section
open Go.RowKit
namespace Tm
def ptL (xs:List Int) (m:Nat):List Int:=(xs.take m).map fun x=>Um.around x 11
theorem ptL_len (xs:List Int) (m:Nat):(ptL xs m).length = min m xs.length:=by unfold ptL;rw [List.length_map,List.length_take]
theorem ptL_ok (xs:List Int) (m:Nat):okA (ptL xs m) = true:=by
 rw [okA_iff];intro d hd;obtain ⟨x,hx,rfl⟩:=List.mem_map.1 hd;have:=Um.around_bd x 11 (by omega);omega
theorem ptL_snoc (xs:List Int) (k:Nat) (hk:k < xs.length):ptL xs (k + 1) = ptL xs k ++ [Um.around (xs.getD k 0) 11]:=by
 unfold ptL;rw [List.take_succ_eq_append_getElem hk,List.map_append,List.getD_eq_getElem?_getD,List.getElem?_eq_getElem hk];rfl
theorem ptL_min (xs:List Int) (m:Nat):ptL xs (min m xs.length) = ptL xs m:=by
 unfold ptL;rcases Nat.le_total m xs.length with h | h
 ·rw [Nat.min_eq_left h]
 ·rw [Nat.min_eq_right h,List.take_length,List.take_of_length_le h]
end Tm
namespace Tr
open Tm
theorem ret_d2 {fn:Func} {p q:Tmp} (h:fn.results = #[.cell p 24,.tmp q]) {R:Ending -> World -> Prop} {a:Act} {w:World} {g:Nat} {l:List Value} {x:Value}
  (hl:l.length = 4) (hp:a.tmps.getD p undef = .pointer (some ⟨g,0,none⟩)) (hx:a.tmps.getD q undef = x) (hg:Bk w g 24 l) (hd:a.defers = []) (hR:R (.returned (.tuple #[.agg l.toArray,x])) w):bodyPost Try.prog fn R .ret a w:=by
 refine bodyPost_ret (v:=.tuple #[.agg l.toArray,x]) ?_ hd hR;rw [results_cell_tmp h,hp,hx];simp [asAddr,Result.andThen,run_loadVar_row w g 24 24 l.toArray (0,0) _ hg Try.underlying24 rfl (by rw [infoR];simp [hl])]
theorem may_any (g s:Bool) (vi vf:Value) (I F:List Int) (w:World) (hi:Lst w vi I) (hf:Lst w vf F) (l1:I.length < 1000000) (l2:F.length < 1000000) :
  Calls Try.prog 51 #[.agg #[.bool g,vi,.bool s,vf]] w fun e w'=>e = .returned (.bool (Tm.may ⟨g,I,s,F⟩)) /\ Q w w':=by
 obtain ⟨a1,c1,rfl⟩:=hi.shape;obtain ⟨a2,c2,rfl⟩:=hf.shape;have H1:=Hd (fun u (q:Q w u)=>Dr.may_any _ I u (hi.q q) (by omega));have H2:=Hd (fun u (q:Q w u)=>Dr.may_any _ F u (hf.q q) (by omega));have HR:=Hd (show Tm.may ⟨g,I,s,F⟩ = (Dm.okB I && Dm.okB F && (s || decide (F.length = 0))) from by unfold Tm.may;dsimp only;cases F <;> simp)
 rw [HR.out];have HQ:=Hd (show Q w (w.alloc (.cells #[.bool g,.slice a1 I.length c1,.bool s,.slice a2 F.length c2] 24)) from (Q.refl w).alloc _);clear HR;generalize I.length = n1 at *;generalize F.length = n2 at *;generalize Dm.okB I = r1 at *;generalize Dm.okB F = r2 at *;clear hi hf l1;go_enter Try.func51,Try.ntmps51
 go_wp2_with fail
 refine (H1.out _ HQ.out).mono ?_;rintro e w1 ⟨rfl,rfl⟩;go_wp2_with fail
 refine (H2.out _ HQ.out).mono ?_;rintro e w1 ⟨rfl,rfl⟩;cases r1
 ·go_wp2_with fail
  go_ret
  exact ⟨rfl,HQ.out⟩
 ·cases r2
  ·go_wp2_with fail
   go_ret
   exact ⟨rfl,HQ.out⟩
  ·cases s
   ·by_cases h0:n2 = 0
    ·subst h0
     go_wp2_with fail
     go_ret
     exact ⟨rfl,HQ.out⟩
    ·have e0:((n2:Int) == 0) = false:=by rw [beq_eq_false_iff_ne];omega
     have HD:=Hd (decide_eq_false h0);go_wp2_with fail
     go_ret
     rw [HD.out];exact ⟨rfl,HQ.out⟩
   ·go_wp2_with fail
    go_ret
    exact ⟨rfl,HQ.out⟩
theorem same_any (g s h t:Bool) (vi vf ui uf:Value) (I F J G:List Int) (w:World) (hi:Lst w vi I) (hf:Lst w vf F) (ki:Lst w ui J) (kf:Lst w uf G) (l1:I.length < 1000000) (l2:F.length < 1000000) (l3:J.length < 1000000) (l4:G.length < 1000000) :
  Calls Try.prog 39 #[.agg #[.bool g,vi,.bool s,vf],.agg #[.bool h,ui,.bool t,uf]] w fun e w'=>e = .returned (.bool (Tm.same ⟨g,I,s,F⟩ ⟨h,J,t,G⟩)) /\ Q w w':=by
 obtain ⟨a1,c1,rfl⟩:=hi.shape;obtain ⟨a2,c2,rfl⟩:=hf.shape;obtain ⟨b1,d1,rfl⟩:=ki.shape;obtain ⟨b2,d2,rfl⟩:=kf.shape;have H1:=Hd (fun u (q:Q w u)=>Ur.same_any _ _ I J u (hi.q q) (ki.q q) (by omega) (by omega));have H2:=Hd (fun u (q:Q w u)=>Ur.same_any _ _ F G u (hf.q q) (kf.q q) (by omega) (by omega));have HR:=Hd (show Tm.same ⟨g,I,s,F⟩ ⟨h,J,t,G⟩ = (decide (I = J) && decide (F = G) && (g == h) && (s == t)) from by
  unfold Tm.same;dsimp only;generalize (g == h) = x;generalize (s == t) = y;generalize decide (I = J) = z;generalize decide (F = G) = u;cases x <;> cases y <;> cases z <;> cases u <;> rfl)
 rw [HR.out];generalize I.length = n1 at *;generalize F.length = n2 at *;generalize J.length = m1 at *;generalize G.length = m2 at *;generalize decide (I = J) = r1 at *;generalize decide (F = G) = r2 at *;clear hi hf ki kf l1 l2 l3 l4 HR;have hq:=(((Q.refl w).alloc (.cells #[.bool g,.slice a1 n1 c1,.bool s,.slice a2 n2 c2] 24)).alloc (.cells #[.bool h,.slice b1 m1 d1,.bool t,.slice b2 m2 d2] 24));have HB:=Hd (show Bk ((w.alloc (.cells #[.bool g,.slice a1 n1 c1,.bool s,.slice a2 n2 c2] 24)).alloc (.cells #[.bool h,.slice b1 m1 d1,.bool t,.slice b2 m2 d2] 24)) w.heap.size 24 [.bool g,.slice a1 n1 c1,.bool s,.slice a2 n2 c2] from heap_alloc2_old _ _ _);have HC:=Hd (show Bk ((w.alloc (.cells #[.bool g,.slice a1 n1 c1,.bool s,.slice a2 n2 c2] 24)).alloc (.cells #[.bool h,.slice b1 m1 d1,.bool t,.slice b2 m2 d2] 24)) (w.heap.size + 1) 24 [.bool h,.slice b1 m1 d1,.bool t,.slice b2 m2 d2] from heap_alloc2_new _ _ _);have HQ:=Hd hq;clear hq;go_enter Try.func39,Try.ntmps39
 go_wp2_with fail
 refine (H1.out _ HQ.out).mono ?_;rintro e w1 ⟨rfl,hq⟩;have x3:=(HB.out.q hq).cell 3 rfl;have y3:=(HC.out.q hq).cell 3 rfl;have HQ1:=Hd (HQ.out.trans hq);go_wp2_with fail
 refine (H2.out _ HQ1.out).mono ?_;rintro e w2 ⟨rfl,hq2⟩;have HQ2:=Hd (HQ1.out.trans hq2);have x0:=((HB.out.q hq).q hq2).cell 0 rfl;have y0:=((HC.out.q hq).q hq2).cell 0 rfl;have x2:=((HB.out.q hq).q hq2).cell 2 rfl;have y2:=((HC.out.q hq).q hq2).cell 2 rfl;clear hq hq2 x3 y3;cases r1
 ·go_wp2_with fail
  go_ret
  exact ⟨retB (by simp),HQ2.out⟩
 ·cases r2
  ·go_wp2_with fail
   go_ret
   exact ⟨retB (by simp),HQ2.out⟩
  ·by_cases hg:g = h
   ·subst hg
    go_wp2_with fail
    go_ret
    exact ⟨retB (by simp),HQ2.out⟩
   ·have e1:(g == h) = false:=beq_eq_false_iff_ne.2 hg
    go_wp2_with fail
    go_ret
    exact ⟨retB (by rw [e1];rfl),HQ2.out⟩
theorem few_any (g s:Bool) (a1 a2:Option Addr) (n1 n2 c1 c2:Nat) (m:Nat) (w:World) (h1:n1 <= c1) (h2:n2 <= c2) (m1:c1 <= maxLen) (m2:c2 <= maxLen) (hm:m < 1000000) (p1 p2:Nat) (e1:p1 = min n1 m) (e2:p2 = min n2 m) :
  Calls Try.prog 36 #[.agg #[.bool g,.slice a1 n1 c1,.bool s,.slice a2 n2 c2],.int .i64 m] w fun e w'=>e = .returned (.agg #[.bool g,.slice a1 p1 c1,.bool s,.slice a2 p2 c2]) /\ Q w w':=by
 unfold maxLen at m1 m2;have hm1:(p1:Int) <= (c1:Int):=by omega
 have hm2:(p2:Int) <= (c2:Int):=by omega
 obtain ⟨y,hy⟩:∃ y,y = w.alloc (.cells #[.bool g,.slice a1 n1 c1,.bool s,.slice a2 n2 c2] 24):=⟨_,rfl⟩;have hqy:Q w y:=by rw [hy];exact (Q.refl w).alloc _
 have hby:Bk y w.heap.size 24 [.bool g,.slice a1 n1 c1,.bool s,.slice a2 n2 c2]:=by rw [hy];exact Bk.new _ _ _
 have hsy:y.heap.size = w.heap.size + 1:=by rw [hy];simp
 obtain ⟨z,hz⟩:∃ z,z = y.alloc (.cells #[.bool false,.slice none 0 0,.bool false,.slice none 0 0] 24):=⟨_,rfl⟩;have hqz:Q y z:=by rw [hz];exact (Q.refl y).alloc _
 have HQ:=Hd (hqy.trans hqz);have HB:=Hd (hby.q hqz);have HD:=Hd (show Bk z (w.heap.size + 1) 24 [.bool false,.slice none 0 0,.bool false,.slice none 0 0] by rw [hz,<- hsy];exact Bk.new _ _ _);have HWD:=Hd (Nat.le_succ w.heap.size);have HWB:=Hd (Nat.le_refl w.heap.size);have HNE:=Hd (show w.heap.size ≠ w.heap.size + 1 by omega);have hz2:z = (w.alloc (.cells #[.bool g,.slice a1 n1 c1,.bool s,.slice a2 n2 c2] 24)).alloc (.cells #[.bool false,.slice none 0 0,.bool false,.slice none 0 0] 24):=by rw [hz,hy]
 clear hqy hby hsy hqz hz hy;have HP:=Hd (⟨e1,e2⟩:_ /\ _);clear e1 e2;have b1:=HB.out.cell 1 rfl;have f1:=HB.out.free 1;have hb2:=HB.out.set 1 (.slice a1 p1 c1);have hd2:=HD.out.past (g:=w.heap.size) (i:=1) HNE.out (.slice a1 p1 c1);have hq2:=Q.setCell HQ.out (ad:=⟨w.heap.size,1,none⟩) HWB.out (.slice a1 p1 c1);obtain ⟨z2,hz3⟩:∃ z2,z2 = z.setCell ⟨w.heap.size,1,none⟩ (.slice a1 p1 c1):=⟨_,rfl⟩;rw [<- hz3] at hb2 hd2 hq2;have HB2:=Hd hb2;have hb3:=hb2.set 3 (.slice a2 p2 c2);have hd3:=hd2.past (g:=w.heap.size) (i:=3) HNE.out (.slice a2 p2 c2);have hq3:=Q.setCell hq2 (ad:=⟨w.heap.size,3,none⟩) HWB.out (.slice a2 p2 c2);obtain ⟨z4,hz5⟩:∃ z4,z4 = z2.setCell ⟨w.heap.size,3,none⟩ (.slice a2 p2 c2):=⟨_,rfl⟩;rw [<- hz5] at hb3 hd3 hq3;have HB3:=Hd hb3;have HD3:=Hd hd3;have HQ3:=Hd hq3;clear hb2 hd2 hq2 hb3 hd3 hq3;by_cases h3:m < n1
 ·obtain rfl:p1 = m:=by have:=HP.out.1;omega
  by_cases h4:p1 < n2
  ·obtain rfl:p2 = p1:=by have:=HP.out.2;omega
   go_enter Try.func36,Try.ntmps36
   go_upto_region 1 with fail
   rw [<- hz2];clear hz2;go_upto_region 2 with fail
   rw [<- hz3];clear hz3 b1 f1;have b3:=HB2.out.cell 3 rfl;have f3:=HB2.out.free 3;go_upto_region 3 with fail
   rw [<- hz5];clear hz5 b3 f3;have y0:=HB3.out.cell 0 rfl;have y1:=HB3.out.cell 1 rfl;have y2:=HB3.out.cell 2 rfl;have y3:=HB3.out.cell 3 rfl;have b0:=HD3.out.cell 0 rfl;have f0:=HD3.out.free 0;have b1:=HD3.out.cell 1 rfl;have f1:=HD3.out.free 1;have b2:=HD3.out.cell 2 rfl;have f2:=HD3.out.free 2;have b3:=HD3.out.cell 3 rfl;have f3:=HD3.out.free 3;go_wp2_with fail
   exact ret_d rfl rfl rfl ((((HD3.out.set 0 _).set 1 _).set 2 _).set 3 _) rfl ⟨rfl,Q.setCell (Q.setCell (Q.setCell (Q.setCell HQ3.out HWD.out _) HWD.out _) HWD.out _) HWD.out _⟩
  ·obtain rfl:p2 = n2:=by have:=HP.out.2;omega
   go_enter Try.func36,Try.ntmps36
   go_upto_region 1 with fail
   rw [<- hz2];clear hz2;go_upto_region 2 with fail
   rw [<- hz3];clear hz3 b1 f1;have b3:=HB2.out.cell 3 rfl;have f3:=HB2.out.free 3;go_upto_region 3 with fail
   rw [<- hz5];clear hz5 b3 f3;have y0:=HB3.out.cell 0 rfl;have y1:=HB3.out.cell 1 rfl;have y2:=HB3.out.cell 2 rfl;have y3:=HB3.out.cell 3 rfl;have b0:=HD3.out.cell 0 rfl;have f0:=HD3.out.free 0;have b1:=HD3.out.cell 1 rfl;have f1:=HD3.out.free 1;have b2:=HD3.out.cell 2 rfl;have f2:=HD3.out.free 2;have b3:=HD3.out.cell 3 rfl;have f3:=HD3.out.free 3;go_wp2_with fail
   exact ret_d rfl rfl rfl ((((HD3.out.set 0 _).set 1 _).set 2 _).set 3 _) rfl ⟨rfl,Q.setCell (Q.setCell (Q.setCell (Q.setCell HQ3.out HWD.out _) HWD.out _) HWD.out _) HWD.out _⟩
 ·obtain rfl:p1 = n1:=by have:=HP.out.1;omega
  by_cases h4:m < n2
  ·obtain rfl:p2 = m:=by have:=HP.out.2;omega
   go_enter Try.func36,Try.ntmps36
   go_upto_region 1 with fail
   rw [<- hz2];clear hz2;go_upto_region 2 with fail
   rw [<- hz3];clear hz3 b1 f1;have b3:=HB2.out.cell 3 rfl;have f3:=HB2.out.free 3;go_upto_region 3 with fail
   rw [<- hz5];clear hz5 b3 f3;have y0:=HB3.out.cell 0 rfl;have y1:=HB3.out.cell 1 rfl;have y2:=HB3.out.cell 2 rfl;have y3:=HB3.out.cell 3 rfl;have b0:=HD3.out.cell 0 rfl;have f0:=HD3.out.free 0;have b1:=HD3.out.cell 1 rfl;have f1:=HD3.out.free 1;have b2:=HD3.out.cell 2 rfl;have f2:=HD3.out.free 2;have b3:=HD3.out.cell 3 rfl;have f3:=HD3.out.free 3;go_wp2_with fail
   exact ret_d rfl rfl rfl ((((HD3.out.set 0 _).set 1 _).set 2 _).set 3 _) rfl ⟨rfl,Q.setCell (Q.setCell (Q.setCell (Q.setCell HQ3.out HWD.out _) HWD.out _) HWD.out _) HWD.out _⟩
  ·obtain rfl:p2 = n2:=by have:=HP.out.2;omega
   go_enter Try.func36,Try.ntmps36
   go_upto_region 1 with fail
   rw [<- hz2];clear hz2;go_upto_region 2 with fail
   rw [<- hz3];clear hz3 b1 f1;have b3:=HB2.out.cell 3 rfl;have f3:=HB2.out.free 3;go_upto_region 3 with fail
   rw [<- hz5];clear hz5 b3 f3;have y0:=HB3.out.cell 0 rfl;have y1:=HB3.out.cell 1 rfl;have y2:=HB3.out.cell 2 rfl;have y3:=HB3.out.cell 3 rfl;have b0:=HD3.out.cell 0 rfl;have f0:=HD3.out.free 0;have b1:=HD3.out.cell 1 rfl;have f1:=HD3.out.free 1;have b2:=HD3.out.cell 2 rfl;have f2:=HD3.out.free 2;have b3:=HD3.out.cell 3 rfl;have f3:=HD3.out.free 3;go_wp2_with fail
   exact ret_d rfl rfl rfl ((((HD3.out.set 0 _).set 1 _).set 2 _).set 3 _) rfl ⟨rfl,Q.setCell (Q.setCell (Q.setCell (Q.setCell HQ3.out HWD.out _) HWD.out _) HWD.out _) HWD.out _⟩
theorem points_any (v:Value) (xs:List Int) (m:Nat) (w:World) (hv:Lst w v xs) (hl:xs.length <= 9223372036854775807) (hm:m < 1000000) (hb:∀ n ∈ xs,-9223372036854775808 <= n /\ n <= 9223372036854775807) :
  Calls Try.prog 12 #[v,.int .i64 m] w fun e w'=>∃ u,e = .returned u /\ Own w' w.heap.size u (ptL xs m) /\ Q w w':=by
 obtain ⟨n,hn⟩:∃ n,n = xs.length:=⟨_,rfl⟩;obtain ⟨a,c,rfl,hnc,hcm⟩:=hv.form0 hn.symm;have HV:=Hd (fun k (hk:k < n)=>hv.cellOf (n:=n) (k:=k) hn.symm hk);have HB:=Hd (fun k (hk:k < n)=>(by rw [List.getD_eq_getElem?_getD,List.getElem?_eq_getElem (by omega)];exact hb _ (List.getElem_mem _):-9223372036854775808 <= xs.getD k 0 /\ xs.getD k 0 <= 9223372036854775807));have HS:=Hd (fun k (hk:k < n)=>ptL_snoc xs k (by omega));have HE:=Hd (fun k (h1:k = min m n)=>(by rw [h1,hn];exact ptL_min xs m:ptL xs k = ptL xs m));have HL:=Hd (fun k=>(by rw [ptL_len,<- hn]:(ptL xs k).length = min k n));have HA:=Hd (fun x w h0 h1=>Ur.around_any x 11 w h0 h1 (by omega) (by omega));rw [<- hn] at hl;unfold maxLen at hcm;clear hv hn hb;go_enter Try.func12,Try.ntmps12
 go_wp2_with fail
 go_loopw [5,6] (fun u t wr=>∃ k:Nat,t = .int .i64 k /\ k <= n /\ k <= m /\ Own wr w.heap.size u (ptL xs k) /\ Q w wr) (fun _ t _=>n - (intOf t).toNat)
 case atStart=>exact ⟨0,rfl,by omega,by omega,Own.nil _ _,Q.refl _⟩
 case round =>
  obtain ⟨k,rfl,hk,hkm,ho,hq⟩:=hrel;by_cases hlt:k < n
  ·by_cases hlm:k < m
   ·obtain ⟨g,off,cap,hvv,hg,_,_,c0⟩:=HV.out k hlt
    cases hvv;have c1:=(World.cell?_of_block (w:=w) (hq.block hg) (a:=⟨g,off + k,none⟩)).trans c0;have hbk:=HB.out k hlt;have hs:=HS.out k hlt;generalize xs.getD k 0 = x at *;have HS2:=Hd hs;have hwl:(ptL xs k).length < 1099511627776:=by rw [HL.out];omega
    have hB:=hq.le;have HAR:=Hd (HA.out x wr hbk.1 hbk.2);have HQ:=Hd hq;clear hs c0 hbk;generalize Um.around x 11 = y at *;go_wp2_with fail
    refine HAR.out.mono ?_;rintro e w1 ⟨rfl,rfl⟩;go_wp2_with (at_builtin;refine push_int ho rfl _ _ rfl _ (by rfl) (by rfl) hwl hB ?_)
    intro v2 w2 ho2 hg2 hat2;rw [<- HS2.out] at ho2;have HO2:=Hd ho2;have HQ2:=Hd (HQ.out.grown hg2 (fun g h=>(ho.lt g h).1));clear ho ho2 hg2 hat2;go_wp2_with fail
    exact ⟨⟨k + 1,by go_num,by omega,by omega,HO2.out,HQ2.out⟩,by simp [intOf];omega⟩
   ·have he:=HE.out k (by omega)
    rw [he] at ho;have HO:=Hd ho;have HQ:=Hd hq;clear he ho hq;go_wp2_with fail
    go_ret
    exact ⟨_,rfl,HO.out,HQ.out⟩
  ·have he:=HE.out k (by omega)
   rw [he] at ho;have HO:=Hd ho;have HQ:=Hd hq;clear he ho hq;go_wp2_with fail
   go_ret
   exact ⟨_,rfl,HO.out,HQ.out⟩
end Tr
end
end Go.Proofs.Ytnehhbobhnmbcaa
