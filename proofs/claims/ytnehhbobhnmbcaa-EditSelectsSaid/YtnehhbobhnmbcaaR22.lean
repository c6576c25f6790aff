/- What the document's own Of comes to, by a walk through it. (and more) -/
import Derived.Test.YtnehhbobhnmbcaaR18
import Derived.Test.YtnehhbobhnmbcaaR19
set_option linter.all false
set_option maxRecDepth 100000
set_option maxHeartbeats 8000000
namespace Go.Proofs.Ytnehhbobhnmbcaa
section
open Go.RowKit
theorem push_step {w:World} {B:Nat} {v:Value} {zs:List Int} (hown:Own w B v zs) (n:Nat) (hn:zs.length = n) (hl:n < 1000000000) (hB:B <= w.heap.size)
  {ops:Array Oper} {o:Oper} {a:Act} {K:Act -> World -> Prop} {R:Exit -> Act -> World -> Prop} {E:Prop} (hgd:o.guard = none) (s x:Operand)
  (ho:o.op = .call { callee:=.builtin .append,args:=#[s,x],argTypes:=#[22,22] })
  (y:Int) (hs:a.eval s = v) (hx:a.eval x = .slice (some ⟨w.heap.size,0,none⟩) 1 1)
  (h:∀ g c w',Own w' B (.slice (some ⟨g,0,none⟩) (n + 1) c) (zs ++ [y]) -> w.grownBy w' v.ownBlock -> (v.ownBlock = some g \/ g = w.heap.size + 1) -> K (a.put o.dst (.slice (some ⟨g,0,none⟩) (n + 1) c)) w') :
  if Region.wanted o (yielded ops a.tmps) = true then Oper.wp Try.prog o a (w.alloc (.cells #[.int .i64 y] 3)) K R else E:=by
 subst hn;obtain ⟨i0,hi,hz0,hz1,hz2⟩:=info_parts infoInt;refine step_append_lies (w:=w.alloc (.cells #[.int .i64 y] 3)) hgd s x 22 ho B 3 i0 (.int .i64 0) 1 8 Try.underlying22 hi hz0 hz1 hz2 rfl (by decide) v zs.length _ hs (World.ownsRow.alloc hown _) ⟨w.heap.size,0,none⟩ 1 1 [.int .i64 y] hx rfl (cell_one_new _ _ _) ?_ (by decide) ?_ ?_ ?_ (w.heap.size + 1) (World.size_alloc _ _) ?_
 ·intro c hcm;simp at hcm;subst hcm;rfl
 ·unfold maxLen;omega
 ·omega
 ·simp;omega
 ·intro g c w' hown' hg hat _
  refine h g c w' ?_ ((World.grownBy_alloc w _ _).trans hg) hat;have e1:(zs ++ [y]).length = zs.length + 1:=by simp
  unfold Own;rw [e1,List.map_append];exact hown'
theorem Bk.grown {w w':World} {b B:Nat} {ty:TypeId} {l:List Value} {v:Value} {zs:List Int} (hb:Bk w b ty l) (ho:Own w B v zs) (ht:ty ≠ 3) (hg:w.grownBy w' v.ownBlock):Bk w' b ty l:=by
 refine (hg.block b hb.lt ?_).trans hb;intro e;obtain ⟨cur,hc⟩:=ho.cells b e.symm;unfold Bk at hb;rw [hb] at hc;simp at hc;exact ht hc.2
theorem Own.lie {w:World} {B g n c:Nat} {u v:Value} {zs:List Int} (h:Own w B u zs) (ha:Apart v u) (hat:v.ownBlock = some g \/ g = w.heap.size + 1):Apart (.slice (some ⟨g,0,none⟩) n c) u:=by
 intro k hk hu;cases hk;rcases hat with e | e
 ·exact ha _ e hu
 ·have:=(h.lt g hu).2
  omega
namespace Tm
theorem okA_take (l:List Int) (k:Nat) (h:okA (l.take k) = true) (hk:k < l.length) (hx:0 <= l.getD k 0 /\ l.getD k 0 <= 10):okA (l.take (k + 1)) = true:=by
 rw [List.take_succ_eq_append_getElem hk,okA_append,h,Bool.true_and];rw [List.getD_eq_getElem?_getD,List.getElem?_eq_getElem hk] at hx;simp [okA];exact hx
theorem okA_no (l:List Int) (k:Nat) (hk:k < l.length) (hx:¬ (0 <= l.getD k 0 /\ l.getD k 0 <= 10)):okA l = false:=by
 cases h:okA l with
 | false=>rfl
 | true =>
  have:=(okA_iff l).1 h (l.getD k 0) (by rw [List.getD_eq_getElem?_getD,List.getElem?_eq_getElem hk];exact List.getElem_mem _);exact absurd this hx
theorem take_snoc (l:List Int) (k:Nat) (hk:k < l.length):l.take (k + 1) = l.take k ++ [l.getD k 0]:=by
 rw [List.take_succ_eq_append_getElem hk,List.getD_eq_getElem?_getD,List.getElem?_eq_getElem hk];rfl
theorem ahd_len_take (l:List Int) (k n:Nat) (hn:l.length = n):(ahd (l.take k)).length <= n:=by
 have:=ahd_le (l.take k);rw [List.length_take] at this;omega
theorem fl_len_take (l:List Int) (k n:Nat) (hn:l.length = n):(fl (l.take k)).length <= n:=by
 have h1:(fl (l.take k)).length <= (bhd (l.take k)).length:=List.length_filter_le _ _;have h2:(bhd (l.take k)).length <= (l.take k).length:=by
  have:=congrArg List.length (parts (l.take k));simp only [List.length_append] at this;omega
 rw [List.length_take] at h2;omega
def OR (w:World) (g:Bool) (L:List Int) (k:Nat) (wr:World):Prop:=∃ a1 c1 a2 c2,
 Bk wr (w.heap.size + 1) 24 [.bool g,.slice a1 (ahd (L.take k)).length c1,.bool (has (L.take k)),.slice a2 (fl (L.take k)).length c2] /\
 Own wr (w.heap.size + 2) (.slice a1 (ahd (L.take k)).length c1) (ahd (L.take k)) /\ Own wr (w.heap.size + 2) (.slice a2 (fl (L.take k)).length c2) (fl (L.take k)) /\
 Apart (.slice a1 (ahd (L.take k)).length c1) (.slice a2 (fl (L.take k)).length c2) /\ Bk wr w.heap.size 24 [.bool false,.slice none 0 0,.bool false,.slice none 0 0] /\ Q w wr /\ okA (L.take k) = true /\ w.heap.size + 2 <= wr.heap.size
end Tm
namespace Tr
open Tm
theorem of_any (g:Bool) (v:Value) (L:List Int) (w:World) (hv:Lst w v L) (hl:L.length < 1000000) :
  Calls Try.prog 66 #[.bool g,v] w fun e w'=>∃ x,e = .returned (.tuple #[x,.int .i64 (ofC L)]) /\ LD w' (w.heap.size + 2) x (ofR g L) /\ Q w w':=by
 obtain ⟨n,hn⟩:∃ n,n = L.length:=⟨_,rfl⟩;obtain ⟨a,c,rfl,hnc,hcm⟩:=hv.form0 hn.symm;have HV:=Hd (fun u (q:Q w u) k (hk:k < n)=>(hv.q q).cellOf (n:=n) (k:=k) hn.symm hk);have HN:=Hd hn.symm;have hnl:n < 1000000:=by omega
 have HAL:=Hd (fun k=>ahd_len_take L k n hn.symm);have HFL:=Hd (fun k=>fl_len_take L k n hn.symm);have HCL:=Hd (fun k=>(by have:=cnt_le (L.take k);rw [List.length_take] at this;omega:cnt (L.take k) <= n));unfold maxLen at hcm;obtain ⟨y,hy⟩:∃ y,y = w.alloc (.cells #[.bool false,.slice none 0 0,.bool false,.slice none 0 0] 24):=⟨_,rfl⟩;have hqy:Q w y:=by rw [hy];exact (Q.refl w).alloc _
 have hby:Bk y w.heap.size 24 [.bool false,.slice none 0 0,.bool false,.slice none 0 0]:=by rw [hy];exact Bk.new _ _ _
 have hsy:y.heap.size = w.heap.size + 1:=by rw [hy];simp
 obtain ⟨z,hz⟩:∃ z,z = y.alloc (.cells #[.bool g,.slice none 0 0,.bool false,.slice none 0 0] 24):=⟨_,rfl⟩;have hqz:Q y z:=by rw [hz];exact (Q.refl y).alloc _
 have HOR:=Hd (show OR w g L 0 z from ⟨none,0,none,0,by rw [hz,<- hsy];exact Bk.new _ _ _,Own.nil _ _,Own.nil _ _,Apart.nilL _,hby.q hqz,hqy.trans hqz,rfl,by rw [hz];simp [hsy]⟩);have HWD:=Hd (Nat.le_succ w.heap.size);have HWB:=Hd (Nat.le_refl w.heap.size);have hz2:z = (w.alloc (.cells #[.bool false,.slice none 0 0,.bool false,.slice none 0 0] 24)).alloc (.cells #[.bool g,.slice none 0 0,.bool false,.slice none 0 0] 24):=by rw [hz,hy]
 clear hqy hby hsy hqz hz hy hv hn hl;go_enter Try.func66,Try.ntmps66
 go_upto_region 2 with fail
 rw [<- hz2];clear hz2;go_wp2_with fail
 go_loopw [7,8] (fun p i wr=>∃ k:Nat,i = .int .i64 k /\ k <= n /\ p = .int .i64 (cnt (L.take k):Nat) /\ OR w g L k wr) (fun _ i _=>n - (intOf i).toNat)
 case atStart=>exact ⟨0,rfl,by omega,rfl,HOR.out⟩
 case round =>
  obtain ⟨k,rfl,hk,rfl,a1,c1,a2,c2,hb1,ho1,ho2,hap,hb0,hq,hok,hsz⟩:=hrel;have HOK:=Hd hok;have HB1:=Hd hb1;have HO1:=Hd ho1;have HO2:=Hd ho2;have HAP:=Hd hap;have HB0:=Hd hb0;have HQ:=Hd hq;have HSZ:=Hd hsz;clear hok hb1 ho1 ho2 hap hb0 hq hsz;have hcb:=HCL.out k;obtain ⟨p,hp⟩:∃ p,p = cnt (L.take k):=⟨_,rfl⟩;rw [<- hp] at hcb |-;have HP:=Hd hp;clear hp;by_cases hlt:k < n
  ·obtain ⟨gl,off,cap,hvv,hgl,_,_,cl⟩:=HV.out wr HQ.out k hlt
   cases hvv;have HTS:=Hd (take_snoc L k (by rw [HN.out];exact hlt));have hno:=okA_no L k (by rw [HN.out];exact hlt);have hyes:=okA_take L k HOK.out (by rw [HN.out];exact hlt);obtain ⟨x,hx⟩:∃ x,x = L.getD k 0:=⟨_,rfl⟩;rw [<- hx] at cl hno hyes HTS;clear hx;by_cases hbad:0 <= x /\ x <= 10
   ·obtain ⟨hx0,hx1⟩:=hbad
    have hx2:¬ x < 0:=by omega
    have hx3:¬ x > 10:=by omega
    have HY:=Hd (hyes ⟨hx0,hx1⟩);clear hno hyes;by_cases hx10:x = 10
    ·subst hx10
     have z2:=HB1.out.cell 2 rfl;have f2:=HB1.out.free 2;have hb1:=HB1.out.set 2 (.bool true);have hq1:=Q.setCell HQ.out (ad:=⟨w.heap.size + 1,2,none⟩) HWD.out (.bool true);have ho1:=Own_past HO1.out HB1.out (by decide) 2 (.bool true);have ho2:=Own_past HO2.out HB1.out (by decide) 2 (.bool true);have hb0:=HB0.out.past (g:=w.heap.size + 1) (i:=2) (by omega) (.bool true);have e1:ahd (L.take (k + 1)) = ahd (L.take k):=by rw [HTS.out,ahd_snoc,if_pos (.inr rfl)]
     have e2:fl (L.take (k + 1)) = fl (L.take k):=by rw [HTS.out,fl_snoc,if_pos rfl]
     have e3:has (L.take (k + 1)) = true:=by rw [HTS.out,has_snoc];simp
     have e4:cnt (L.take (k + 1)) = p + 1:=by rw [HTS.out,cnt_snoc,if_pos rfl,HP.out]
     have HOR2:=Hd (show OR w g L (k + 1) (wr.setCell ⟨w.heap.size + 1,2,none⟩ (.bool true)) from ⟨a1,c1,a2,c2,by rw [e1,e2,e3];exact hb1,by rw [e1];exact ho1,by rw [e2];exact ho2,by rw [e1,e2];exact HAP.out,hb0,hq1,HY.out,by simpa using HSZ.out⟩);have HE4:=Hd e4;clear hb1 hq1 ho1 ho2 hb0 e1 e2 e3 e4;go_wp2_with fail
     exact ⟨⟨k + 1,by go_num,by omega,by rw [HE4.out];go_num,HOR2.out⟩,by simp [intOf];omega⟩
    ·have e0:(x == 10) = false:=beq_eq_false_iff_ne.2 hx10
     have HX:=Hd hx10;have z2:=HB1.out.cell 2 rfl;have hqd:Q wr wr.drew:=(Q.refl wr).drew;have HBD:=Hd (HB1.out.q hqd);have HBS:=Hd (show w.heap.size + 2 <= wr.drew.heap.size from HSZ.out);have cl2:wr.drew.cell? ⟨gl,off + k,none⟩ = some (.int .i64 x):=cl;have hal:=HAL.out k;have hfl:=HFL.out k;have e4:cnt (L.take (k + 1)) = p:=by rw [HTS.out,cnt_snoc,if_neg HX.out,HP.out]
     have HE4:=Hd e4;clear hx10 hqd e4;cases hh:has (L.take k) with
     | true =>
      have HH:=Hd hh;rw [hh] at z2;have e1:ahd (L.take (k + 1)) = ahd (L.take k):=by rw [HTS.out,ahd_snoc,if_pos (.inl hh)]
      have e2:fl (L.take (k + 1)) = fl (L.take k) ++ [x]:=by rw [HTS.out,fl_snoc,if_neg HX.out,if_pos hh]
      have e3:has (L.take (k + 1)) = true:=by rw [HTS.out,has_snoc,hh];rfl
      have HE:=Hd (⟨e1,e2,e3⟩:_ /\ _ /\ _);obtain ⟨m,hm⟩:∃ m,m = (fl (L.take k)).length:=⟨_,rfl⟩;have HM:=Hd hm.symm;have z3:=HB1.out.cell 3 rfl;rw [<- hm] at z3 hfl;have z4:=Lib.cell?_alloc_some (.cells #[.int .i64 x] 3) z3;have hod:=HO2.out.q ((Q.refl wr).drew);rw [<- hm] at hod;have HOD:=Hd hod;have HOX:=Hd (HO1.out.q ((Q.refl wr).drew));have HB0D:=Hd (HB0.out.q ((Q.refl wr).drew));have HQD:=Hd HQ.out.drew;have hap:=HAP.out;rw [<- hm] at hap;have HAPX:=Hd hap;clear e1 e2 e3 hh hm hod hap;go_wp2_with fail
      go_region_law ((refine push_step (w:=wr.drew) (B:=w.heap.size + 2) (zs:=fl (L.take k)) HOD.out m HM.out (by omega) HBS.out (by rfl) _ _ (by rfl) x (by rfl) (by rfl) ?_;intro g4 c4 w4 ho4 hg4 hat4;have hb4:=HBD.out.grown HOD.out (by decide) hg4;have q3:=hb4.cell 3 rfl;have r3:=hb4.free 3))
      all_goals
       have hb5:=hb4.set 3 (.slice (some ⟨g4,0,none⟩) (m + 1) c4);rw [HH.out] at hb5;have ho5:=Own_past ho4 hb4 (by decide) 3 (.slice (some ⟨g4,0,none⟩) (m + 1) c4);have ho6:=Own_past (HOX.out.other hg4 HAPX.out.symm) hb4 (by decide) 3 (.slice (some ⟨g4,0,none⟩) (m + 1) c4);have hap5:=Own.lie (n:=m + 1) (c:=c4) HOX.out HAPX.out.symm hat4;have hb6:=(HB0D.out.grown HOD.out (by decide) hg4).past (g:=w.heap.size + 1) (i:=3) (by omega) (.slice (some ⟨g4,0,none⟩) (m + 1) c4);have hq5:=Q.setCell (HQD.out.grown hg4 (fun b hb=>by have:=(HOD.out.lt b hb).1;omega)) (ad:=⟨w.heap.size + 1,3,none⟩) HWD.out (.slice (some ⟨g4,0,none⟩) (m + 1) c4);have hml:(fl (L.take (k + 1))).length = m + 1:=by rw [HE.out.2.1,List.length_append,HM.out];rfl
       have hsz5:=Nat.le_trans HBS.out hg4.size;have HOR2:=Hd (show OR w g L (k + 1) (w4.setCell ⟨w.heap.size + 1,3,none⟩ (.slice (some ⟨g4,0,none⟩) (m + 1) c4)) from ⟨a1,c1,some ⟨g4,0,none⟩,c4,by rw [hml,HE.out.2.2,HE.out.1];exact hb5,by rw [HE.out.1];exact ho6,by rw [hml,HE.out.2.1];exact ho5,by rw [hml,HE.out.1];exact hap5.symm,hb6,hq5,HY.out,by simpa using hsz5⟩);clear hb4 hb5 ho4 ho5 ho6 hap5 hb6 hq5 hml hsz5 hg4 hat4 q3 r3;go_wp2_with fail
       exact ⟨⟨k + 1,by go_num,by omega,by rw [HE4.out],HOR2.out⟩,by simp [intOf];omega⟩
     | false =>
      have HH:=Hd hh;rw [hh] at z2;have e1:ahd (L.take (k + 1)) = ahd (L.take k) ++ [x]:=by rw [HTS.out,ahd_snoc,if_neg (by rw [hh];simp [HX.out])]
      have e2:fl (L.take (k + 1)) = fl (L.take k):=by rw [HTS.out,fl_snoc,if_neg HX.out,if_neg (by rw [hh];decide)]
      have e3:has (L.take (k + 1)) = false:=by rw [HTS.out,has_snoc,hh,Bool.false_or];exact beq_eq_false_iff_ne.2 HX.out
      have HE:=Hd (⟨e1,e2,e3⟩:_ /\ _ /\ _);obtain ⟨m,hm⟩:∃ m,m = (ahd (L.take k)).length:=⟨_,rfl⟩;have HM:=Hd hm.symm;have z1:=HB1.out.cell 1 rfl;rw [<- hm] at z1 hal;have z4:=Lib.cell?_alloc_some (.cells #[.int .i64 x] 3) z1;have hod:=HO1.out.q ((Q.refl wr).drew);rw [<- hm] at hod;have HOD:=Hd hod;have HOX:=Hd (HO2.out.q ((Q.refl wr).drew));have HB0D:=Hd (HB0.out.q ((Q.refl wr).drew));have HQD:=Hd HQ.out.drew;have hap:=HAP.out;rw [<- hm] at hap;have HAPX:=Hd hap;clear e1 e2 e3 hh hm hod hap;go_wp2_with fail
      go_region_law ((refine push_step (w:=wr.drew) (B:=w.heap.size + 2) (zs:=ahd (L.take k)) HOD.out m HM.out (by omega) HBS.out (by rfl) _ _ (by rfl) x (by rfl) (by rfl) ?_;intro g4 c4 w4 ho4 hg4 hat4;have hb4:=HBD.out.grown HOD.out (by decide) hg4;have q3:=hb4.cell 1 rfl;have r3:=hb4.free 1))
      all_goals
       have hb5:=hb4.set 1 (.slice (some ⟨g4,0,none⟩) (m + 1) c4);rw [HH.out] at hb5;have ho5:=Own_past ho4 hb4 (by decide) 1 (.slice (some ⟨g4,0,none⟩) (m + 1) c4);have ho6:=Own_past (HOX.out.other hg4 HAPX.out) hb4 (by decide) 1 (.slice (some ⟨g4,0,none⟩) (m + 1) c4);have hap5:=Own.lie (n:=m + 1) (c:=c4) HOX.out HAPX.out hat4;have hb6:=(HB0D.out.grown HOD.out (by decide) hg4).past (g:=w.heap.size + 1) (i:=1) (by omega) (.slice (some ⟨g4,0,none⟩) (m + 1) c4);have hq5:=Q.setCell (HQD.out.grown hg4 (fun b hb=>by have:=(HOD.out.lt b hb).1;omega)) (ad:=⟨w.heap.size + 1,1,none⟩) HWD.out (.slice (some ⟨g4,0,none⟩) (m + 1) c4);have hml:(ahd (L.take (k + 1))).length = m + 1:=by rw [HE.out.1,List.length_append,HM.out];rfl
       have hsz5:=Nat.le_trans HBS.out hg4.size;have HOR2:=Hd (show OR w g L (k + 1) (w4.setCell ⟨w.heap.size + 1,1,none⟩ (.slice (some ⟨g4,0,none⟩) (m + 1) c4)) from ⟨some ⟨g4,0,none⟩,c4,a2,c2,by rw [hml,HE.out.2.2,HE.out.2.1];exact hb5,by rw [hml,HE.out.1];exact ho5,by rw [HE.out.2.1];exact ho6,by rw [hml,HE.out.2.1];exact hap5,hb6,hq5,HY.out,by simpa using hsz5⟩);clear hb4 hb5 ho4 ho5 ho6 hap5 hb6 hq5 hml hsz5 hg4 hat4 q3 r3;go_wp2_with fail
       exact ⟨⟨k + 1,by go_num,by omega,by rw [HE4.out],HOR2.out⟩,by simp [intOf];omega⟩
   ·have HC:=Hd (ofC_bad (hno hbad))
    have HR:=Hd (ofR_bad (g:=g) (hno hbad));clear hno hyes;have b0:=HB0.out.cell 0 rfl;have f0:=HB0.out.free 0;have b1:=HB0.out.cell 1 rfl;have f1:=HB0.out.free 1;have b2:=HB0.out.cell 2 rfl;have f2:=HB0.out.free 2;have b3:=HB0.out.cell 3 rfl;have f3:=HB0.out.free 3;by_cases hx0:x < 0
    ·clear hbad
     go_wp2_with fail
     exact ret_d2 rfl rfl rfl rfl ((((HB0.out.set 0 _).set 1 _).set 2 _).set 3 _) rfl ⟨(.agg #[.bool false,.slice none 0 0,.bool false,.slice none 0 0]),by rw [HC.out];rfl,by rw [HR.out];exact LD.zero _ _,Q.setCell (Q.setCell (Q.setCell (Q.setCell HQ.out HWB.out _) HWB.out _) HWB.out _) HWB.out _⟩
    ·have hx1:10 < x:=by omega
     have hx2:x > 10:=hx1;clear hbad;go_wp2_with fail
     exact ret_d2 rfl rfl rfl rfl ((((HB0.out.set 0 _).set 1 _).set 2 _).set 3 _) rfl ⟨(.agg #[.bool false,.slice none 0 0,.bool false,.slice none 0 0]),by rw [HC.out];rfl,by rw [HR.out];exact LD.zero _ _,Q.setCell (Q.setCell (Q.setCell (Q.setCell HQ.out HWB.out _) HWB.out _) HWB.out _) HWB.out _⟩
  ·obtain rfl:k = n:=by omega
   have htk:L.take k = L:=List.take_of_length_le (by rw [HN.out];exact Nat.le_refl _);have HTK:=Hd htk;have hok:=HOK.out;have hct:=cnt_two L;have hp:=HP.out;rw [htk] at hok hp;rw [<- hp] at hct;clear htk hp;by_cases hp1:1 < p
   ·have HC:=Hd (ofC_two hok (hct.1 hp1))
    have HR:=Hd (ofR_two (g:=g) hok (hct.1 hp1));have hp2:(p:Int) > 1:=by omega
    clear hct hok;have b0:=HB0.out.cell 0 rfl;have f0:=HB0.out.free 0;have b1:=HB0.out.cell 1 rfl;have f1:=HB0.out.free 1;have b2:=HB0.out.cell 2 rfl;have f2:=HB0.out.free 2;have b3:=HB0.out.cell 3 rfl;have f3:=HB0.out.free 3;go_wp2_with fail
    exact ret_d2 rfl rfl rfl rfl ((((HB0.out.set 0 _).set 1 _).set 2 _).set 3 _) rfl ⟨(.agg #[.bool false,.slice none 0 0,.bool false,.slice none 0 0]),by rw [HC.out];rfl,by rw [HR.out];exact LD.zero _ _,Q.setCell (Q.setCell (Q.setCell (Q.setCell HQ.out HWB.out _) HWB.out _) HWB.out _) HWB.out _⟩
   ·have hb2:has (bhd L) = false:=by
     cases h:has (bhd L) with
     | false=>rfl
     | true=>exact absurd (hct.2 h) hp1
    have HC:=Hd (ofC_ok hok hb2);have HR:=Hd (ofR_ok (g:=g) hok hb2);have HFO:=Hd (fl_one L hb2);have hp2:¬ ((p:Int) > 1):=by omega
    clear hct hok hb2;rw [HTK.out] at HB1 HO1 HO2;obtain ⟨m1,hm1⟩:∃ m1,m1 = (ahd L).length:=⟨_,rfl⟩;obtain ⟨m2,hm2⟩:∃ m2,m2 = (fl L).length:=⟨_,rfl⟩;rw [<- hm1,<- hm2] at HB1;rw [<- hm1] at HO1;rw [<- hm2] at HO2;have HM:=Hd (⟨hm1.symm,hm2.symm⟩:_ /\ _);clear hm1 hm2;have b0:=HB0.out.cell 0 rfl;have f0:=HB0.out.free 0;have b1:=HB0.out.cell 1 rfl;have f1:=HB0.out.free 1;have b2:=HB0.out.cell 2 rfl;have f2:=HB0.out.free 2;have b3:=HB0.out.cell 3 rfl;have f3:=HB0.out.free 3;have z0:=HB1.out.cell 0 rfl;have y0:=HB1.out.free 0;have z1:=HB1.out.cell 1 rfl;have y1:=HB1.out.free 1;have z2:=HB1.out.cell 2 rfl;have y2:=HB1.out.free 2;have z3:=HB1.out.cell 3 rfl;have y3:=HB1.out.free 3;go_wp2_with fail
    have hz1:=Own_past4 HO1.out HB0.out (by decide) (.bool g) (.slice a1 m1 c1) (.bool (has L)) (.slice a2 m2 c2);have hz2:=Own_past4 HO2.out HB0.out (by decide) (.bool g) (.slice a1 m1 c1) (.bool (has L)) (.slice a2 m2 c2);refine ret_d2 rfl rfl rfl rfl ((((HB0.out.set 0 _).set 1 _).set 2 _).set 3 _) rfl ⟨.agg #[.bool g,.slice a1 m1 c1,.bool (has L),.slice a2 m2 c2],by rw [HC.out];rfl,?_,Q.setCell (Q.setCell (Q.setCell (Q.setCell HQ.out HWB.out _) HWB.out _) HWB.out _) HWB.out _⟩;rw [HR.out];have hm2:=HM.out.2;rw [HFO.out] at hm2 hz2;exact ⟨a1,c1,a2,c2,by unfold ofD;dsimp only;rw [HM.out.1,hm2],by unfold ofD;dsimp only;rw [HM.out.1];exact hz1,by unfold ofD;dsimp only;rw [hm2];exact hz2⟩
end Tr
end
end Go.Proofs.Ytnehhbobhnmbcaa
