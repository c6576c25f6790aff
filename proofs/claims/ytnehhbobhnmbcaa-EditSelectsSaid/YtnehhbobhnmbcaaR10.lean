/- The document's own Atoms and Good of drafts (as in TrB), where there are no decimals. (and more) -/
import Derived.Test.YtnehhbobhnmbcaaR06
import Derived.Test.YtnehhbobhnmbcaaR05
import Derived.Deep.Cut
import Derived.Deep.DeepCutAuto
import Derived.Deep.RegionLaw
set_option linter.all false
set_option maxRecDepth 100000
set_option maxHeartbeats 8000000
namespace Go.Proofs.Ytnehhbobhnmbcaa
section
open Go.RowKit
namespace Tm
def LD (w:World) (B:Nat) (v:Value) (d:T):Prop:=∃ a1 c1 a2 c2,v = .agg #[.bool d.g,.slice a1 d.i.length c1,.bool d.s,.slice a2 d.f.length c2] /\ Own w B (.slice a1 d.i.length c1) d.i /\ Own w B (.slice a2 d.f.length c2) d.f
theorem LD.q {w w':World} {B:Nat} {v:Value} {d:T} (h:LD w B v d) (hq:Q w w'):LD w' B v d:=by
 obtain ⟨a1,c1,a2,c2,h0,h1,h2⟩:=h;exact ⟨a1,c1,a2,c2,h0,h1.q hq,h2.q hq⟩
theorem LD.mono {w:World} {B B':Nat} {v:Value} {d:T} (h:LD w B v d) (hB:B' <= B):LD w B' v d:=by
 obtain ⟨a1,c1,a2,c2,h0,h1,h2⟩:=h;exact ⟨a1,c1,a2,c2,h0,h1.mono hB,h2.mono hB⟩
theorem Own_past {w:World} {B g:Nat} {v:Value} {zs:List Int} {ty:TypeId} {l:List Value} (h:Own w B v zs) (hb:Bk w g ty l) (ht:ty ≠ 3) (k:Nat) (x:Value):Own (w.setCell ⟨g,k,none⟩ x) B v zs :=
 h.same fun b hv=>heap_setCell_other w ⟨g,k,none⟩ b x (by
  rintro rfl;obtain ⟨cur,hc⟩:=h.cells _ hv;unfold Bk at hb;rw [hb] at hc;simp at hc;exact ht hc.2)
theorem Own_past4 {w:World} {B g:Nat} {v:Value} {zs:List Int} {ty:TypeId} {l:List Value} (h:Own w B v zs) (hb:Bk w g ty l) (ht:ty ≠ 3) (x0 x1 x2 x3:Value) :
  Own ((((w.setCell ⟨g,0,none⟩ x0).setCell ⟨g,1,none⟩ x1).setCell ⟨g,2,none⟩ x2).setCell ⟨g,3,none⟩ x3) B v zs :=
 Own_past (Own_past (Own_past (Own_past h hb ht 0 x0) (hb.set 0 _) ht 1 x1) ((hb.set 0 _).set 1 _) ht 2 x2) (((hb.set 0 _).set 1 _).set 2 _) ht 3 x3
def gdT (g s:Bool) (I F:List Int) (p q:Nat):T:=⟨g,Dm.gdL I p,s,if s = true then Dm.gdL F q else []⟩
theorem gdT_may (g s:Bool) (I F:List Int) (p q:Nat):may (gdT g s I F p q) = true:=by
 unfold may gdT;dsimp only;rw [(Dm.okB_iff _).2 (Dm.gdL_ok I p)];cases s
 ·rfl
 ·rw [if_pos rfl,(Dm.okB_iff _).2 (Dm.gdL_ok F q)];rfl
theorem gdT_len (g s:Bool) (I F:List Int) (p q:Nat):(gdT g s I F p q).i.length <= p /\ (gdT g s I F p q).f.length <= q:=by
 unfold gdT;dsimp only;refine ⟨by rw [Dm.gdL_len];omega,?_⟩;cases s
 ·exact Nat.zero_le _
 ·rw [if_pos rfl,Dm.gdL_len];omega
end Tm
namespace Tr
open Tm
theorem infoR:(Try.prog.info? 24).map (·.size) = some 4:=by kernel_rfl
theorem ret_d {fn:Func} {p:Tmp} (h:fn.results = #[.cell p 24]) {R:Ending -> World -> Prop} {a:Act} {w:World} {g:Nat} {l:List Value}
  (hl:l.length = 4) (hp:a.tmps.getD p undef = .pointer (some ⟨g,0,none⟩)) (hg:Bk w g 24 l) (hd:a.defers = []) (hR:R (.returned (.agg l.toArray)) w):bodyPost Try.prog fn R .ret a w :=
 bodyPost_ret (results_cell_row h a.tmps w g 24 l.toArray (0,0) _ hp hg Try.underlying24 rfl (by rw [infoR];simp [hl])) hd hR
theorem atoms_any (g s:Bool) (a1 a2:Option Addr) (n1 n2 c1 c2:Nat) (I F:List Int) (w:World) (hi:Lst w (.slice a1 n1 c1) I) (hf:Lst w (.slice a2 n2 c2) F) (k1:I.length = n1) (k2:F.length = n2) (l1:n1 <= 100000) (l2:n2 <= 100000) :
  Calls Try.prog 10 #[.agg #[.bool g,.slice a1 n1 c1,.bool s,.slice a2 n2 c2]] w fun e w'=>∃ a c,e = .returned (.slice a (n1 + (sep s).length + n2) c) /\ Own w' (w.heap.size + 1) (.slice a (n1 + (sep s).length + n2) c) (I ++ sep s ++ F) /\ Q w w':=by
 have HI:=Hd (fun u (q:Q w u)=>hi.q q);have HF:=Hd (fun u (q:Q w u)=>hf.q q);have HL:=Hd (⟨k1,k2⟩:_ /\ _);clear hi hf k1 k2;obtain ⟨z,hz⟩:∃ y,y = w.alloc (.cells #[.bool g,.slice a1 n1 c1,.bool s,.slice a2 n2 c2] 24):=⟨_,rfl⟩;have HQ:=Hd (show Q w z by rw [hz];exact (Q.refl w).alloc _);have HB:=Hd (show Bk z w.heap.size 24 [.bool g,.slice a1 n1 c1,.bool s,.slice a2 n2 c2] by rw [hz];exact Bk.new _ _ _);have HZ:=Hd (show z.heap.size = w.heap.size + 1 by rw [hz];simp);have hol:=Own.nil z (w.heap.size + 1);have HBZ:=Hd (Nat.le_of_eq HZ.out.symm);have HW:=Hd (show ([]:List Int).length + I.length < 1099511627776 from by rw [HL.out.1];show 0 + _ < _;omega);have HIZ:=Hd (HI.out z HQ.out);have x1:=HB.out.cell 1 rfl;cases s
 ·go_enter Try.func10,Try.ntmps10
  go_upto_region 1 with fail
  rw [<- hz];clear hz;go_wp2_with (at_builtin;refine push_list hol HIZ.out rfl _ _ rfl (by rfl) (by rfl) HW.out HBZ.out ?_)
  intro v1 u1 ho1 hg1 hat1;have HO1:=Hd (show Own u1 (w.heap.size + 1) v1 I from ho1);have HQZ:=Hd (show Q z u1 from (Q.refl z).grown hg1 (fun k hk=>by cases hk));clear ho1 hg1 hat1 x1 hol;have x2:=(HB.out.q HQZ.out).cell 2 rfl;have HO2:=Hd (show Own u1 (w.heap.size + 1) v1 (I ++ []) from by rw [List.append_nil];exact HO1.out);have HQZ2:=HQZ;have x3:=(HB.out.q HQZ2.out).cell 3 rfl;have HFU:=Hd (HF.out _ (HQ.out.trans HQZ2.out));have HW2:=Hd (show (I ++ []).length + F.length < 1099511627776 from by rw [List.length_append,HL.out.1,HL.out.2];show _ + 0 + _ < _;omega);have HBU2:=Hd (Nat.le_trans HBZ.out HQZ2.out.le);go_wp2_with (at_builtin;refine push_list HO2.out HFU.out rfl _ _ rfl (by rfl) (by rfl) HW2.out HBU2.out ?_)
  intro v3 u3 ho3 hg3 hat3;have HO3:=Hd ho3;have HQZ3:=Hd (show Q z u3 from HQZ2.out.grown hg3 (fun k hk=>by rw [HZ.out];exact (HO2.out.lt k hk).1));clear ho3 hg3 hat3 x3;have hfin:Own u3 (w.heap.size + 1) v3 (I ++ sep false ++ F):=by simpa [sep] using HO3.out
  obtain ⟨ra,rc,hr,_,_⟩:=hfin.lst.form0 (n:=n1 + (sep false).length + n2) (by rw [List.length_append,List.length_append,HL.out.1,HL.out.2]);subst hr;have HFIN:=Hd hfin;clear hfin;go_wp2_with fail
  go_ret
  exact ⟨ra,rc,rfl,HFIN.out,HQ.out.trans HQZ3.out⟩
 ·go_enter Try.func10,Try.ntmps10
  go_upto_region 1 with fail
  rw [<- hz];clear hz;go_wp2_with (at_builtin;refine push_list hol HIZ.out rfl _ _ rfl (by rfl) (by rfl) HW.out HBZ.out ?_)
  intro v1 u1 ho1 hg1 hat1;have HO1:=Hd (show Own u1 (w.heap.size + 1) v1 I from ho1);have HQZ:=Hd (show Q z u1 from (Q.refl z).grown hg1 (fun k hk=>by cases hk));clear ho1 hg1 hat1 x1 hol;have x2:=(HB.out.q HQZ.out).cell 2 rfl;have HW1:=Hd (show I.length < 1099511627776 from by rw [HL.out.1];omega);have HBU:=Hd (Nat.le_trans HBZ.out HQZ.out.le);go_wp2_with (at_builtin;refine push_int HO1.out rfl _ _ rfl 10 (by rfl) (by rfl) HW1.out HBU.out ?_)
  intro v2 u2 ho2 hg2 hat2;have HO2:=Hd (show Own u2 (w.heap.size + 1) v2 (I ++ [10]) from ho2);have HQZ2:=Hd (show Q z u2 from HQZ.out.grown hg2 (fun k hk=>by rw [HZ.out];exact (HO1.out.lt k hk).1));clear ho2 hg2 hat2 x2;have x3:=(HB.out.q HQZ2.out).cell 3 rfl;have HFU:=Hd (HF.out _ (HQ.out.trans HQZ2.out));have HW2:=Hd (show (I ++ [10]).length + F.length < 1099511627776 from by rw [List.length_append,HL.out.1,HL.out.2];show _ + 1 + _ < _;omega);have HBU2:=Hd (Nat.le_trans HBZ.out HQZ2.out.le);go_wp2_with (at_builtin;refine push_list HO2.out HFU.out rfl _ _ rfl (by rfl) (by rfl) HW2.out HBU2.out ?_)
  intro v3 u3 ho3 hg3 hat3;have HO3:=Hd ho3;have HQZ3:=Hd (show Q z u3 from HQZ2.out.grown hg3 (fun k hk=>by rw [HZ.out];exact (HO2.out.lt k hk).1));clear ho3 hg3 hat3 x3;have hfin:Own u3 (w.heap.size + 1) v3 (I ++ sep true ++ F):=by simpa [sep] using HO3.out
  obtain ⟨ra,rc,hr,_,_⟩:=hfin.lst.form0 (n:=n1 + (sep true).length + n2) (by rw [List.length_append,List.length_append,HL.out.1,HL.out.2]);subst hr;have HFIN:=Hd hfin;clear hfin;go_wp2_with fail
  go_ret
  exact ⟨ra,rc,rfl,HFIN.out,HQ.out.trans HQZ3.out⟩
theorem good_any (g s:Bool) (a1 a2:Option Addr) (n1 n2 c1 c2:Nat) (I F:List Int) (w:World) (hi:Lst w (.slice a1 n1 c1) I) (hf:Lst w (.slice a2 n2 c2) F) (k1:I.length = n1) (k2:F.length = n2) (l1:n1 <= 9223372036854775807) (l2:n2 <= 9223372036854775807) (bi:∀ n ∈ I,-9223372036854775808 <= n /\ n <= 9223372036854775807) (bf:∀ n ∈ F,-9223372036854775808 <= n /\ n <= 9223372036854775807) (p q:Nat) (hp:p <= 1000) (hq:q <= 1000) :
  Calls Try.prog 35 #[.agg #[.bool g,.slice a1 n1 c1,.bool s,.slice a2 n2 c2],.int .i64 p,.int .i64 q] w fun e w'=>∃ x,e = .returned x /\ LD w' (w.heap.size + 2) x (gdT g s I F p q) /\ Q w w':=by
 have HG1:=Hd (fun u (qq:Q w u)=>Dr.good_any _ I p u (hi.q qq) (by omega) (by omega) bi);have HG2:=Hd (fun u (qq:Q w u)=>Dr.good_any _ F q u (hf.q qq) (by omega) (by omega) bf);have hgd:gdT g s I F p q = ⟨g,Dm.gdL I p,s,if s = true then Dm.gdL F q else []⟩:=rfl
 obtain ⟨G,hG⟩:∃ G,G = gdT g s I F p q:=⟨_,rfl⟩;rw [<- hG] at hgd |-;generalize Dm.gdL I p = I2 at *;generalize Dm.gdL F q = F2 at *;obtain ⟨m1,hm1⟩:∃ m1,m1 = I2.length:=⟨_,rfl⟩;obtain ⟨m2,hm2⟩:∃ m2,m2 = F2.length:=⟨_,rfl⟩;have HG:=Hd hgd;have HM:=Hd (⟨hm1.symm,hm2.symm⟩:_ /\ _);clear hi hf k1 k2 bi bf hgd hG hm1 hm2;obtain ⟨y,hy⟩:∃ y,y = w.alloc (.cells #[.bool g,.slice a1 n1 c1,.bool s,.slice a2 n2 c2] 24):=⟨_,rfl⟩;have hqy:Q w y:=by rw [hy];exact (Q.refl w).alloc _
 have hby:Bk y w.heap.size 24 [.bool g,.slice a1 n1 c1,.bool s,.slice a2 n2 c2]:=by rw [hy];exact Bk.new _ _ _
 have hsy:y.heap.size = w.heap.size + 1:=by rw [hy];simp
 obtain ⟨z,hz⟩:∃ z,z = y.alloc (.cells #[.bool false,.slice none 0 0,.bool false,.slice none 0 0] 24):=⟨_,rfl⟩;have hqz:Q y z:=by rw [hz];exact (Q.refl y).alloc _
 have HQ:=Hd (hqy.trans hqz);have HB:=Hd (hby.q hqz);have HD:=Hd (show Bk z (w.heap.size + 1) 24 [.bool false,.slice none 0 0,.bool false,.slice none 0 0] by rw [hz,<- hsy];exact Bk.new _ _ _);have HZ:=Hd (show z.heap.size = w.heap.size + 2 by rw [hz];simp [hsy]);have HWD:=Hd (Nat.le_succ w.heap.size);have hz2:z = (w.alloc (.cells #[.bool g,.slice a1 n1 c1,.bool s,.slice a2 n2 c2] 24)).alloc (.cells #[.bool false,.slice none 0 0,.bool false,.slice none 0 0] 24):=by rw [hz,hy]
 clear hqy hby hsy hqz hz hy;go_enter Try.func35,Try.ntmps35
 go_upto_region 1 with fail
 rw [<- hz2];clear hz2;go_cut [7] from 8 (fun p wx=>∃ b ia ic,p = .pointer (some ⟨b,0,none⟩) /\ z.heap.size <= b /\ Bk wx b 24 [.bool g,.slice ia m1 ic,.bool s,.slice none 0 0] /\ Own wx z.heap.size (.slice ia m1 ic) I2 /\ Q z wx)
 case first =>
  refine wp_region_held_drew (S:=fun u=>Q z u) (by kernel_rfl) (by exact (Q.refl z).drew) (fun hHeld=>?_);have hS:Q z z.drew:=hHeld;clear hHeld;have hq:Q z z.drew:=(Q.refl _).drew;clear hq;generalize z.drew = yR1x0 at *;change wpAnyH _ _ _ _ _ _ #[ff,ff,ff,ff,ff,ff,ff,ff,ff,ff,ff] _ _;refine tk 0 (by simp only [gA,gB,gC];rfl) (by first | kernel_rfl | rfl) (fun uz _=>by go_simp;try with_reducible rfl) pq hS ?_;try simp only [Act.put,sA,sB,sC]
  refine tk 1 (by simp only [gA,gB,gC];rfl) (by first | kernel_rfl | rfl) (fun uz hSw=>by (try dsimp only at hSw);have hxx:=HB.out.q hSw;have d0:=hxx.cell 0 rfl;clear hxx;go_simp;try with_reducible rfl) pq hS ?_;try simp only [Act.put,sA,sB,sC]
  refine tk 2 (by simp only [gA,gB,gC];rfl) (by first | kernel_rfl | rfl) (fun uz _=>by go_simp;try with_reducible rfl) pq hS ?_;try simp only [Act.put,sA,sB,sC]
  refine tk 3 (by simp only [gA,gB,gC];rfl) (by first | kernel_rfl | rfl) (fun uz hSw=>by (try dsimp only at hSw);have hxx:=HB.out.q hSw;have d0:=hxx.cell 1 rfl;clear hxx;go_simp;try with_reducible rfl) pq hS ?_;try simp only [Act.put,sA,sB,sC]
  refine tk 4 (by simp only [gA,gB,gC];rfl) (by first | kernel_rfl | rfl) (fun uz _=>by go_simp;try with_reducible rfl) pq hS ?_;try simp only [Act.put,sA,sB,sC]
  refine tk 6 (by simp only [gA,gB,gC];rfl) (by first | kernel_rfl | rfl) (fun uz _=>by go_simp;try with_reducible rfl) pq hS ?_;try simp only [Act.put,sA,sB,sC]
  refine tk 7 (by simp only [gA,gB,gC];rfl) (by first | kernel_rfl | rfl) (fun uz hSw=>by (try dsimp only at hSw);have hxx:=HB.out.q hSw;have d0:=hxx.cell 2 rfl;clear hxx;go_simp;try with_reducible rfl) pq hS ?_;try simp only [Act.put,sA,sB,sC]
  refine wpAnyH_ready (rs:=[5,9]) (by kernel_rfl) (by simp) ?_;refine (AllReadyH.cons (by (try simp only [gA,gB,gC]);rfl) (fun K hK=>?_) (AllReadyH.cons (by (try simp only [gA,gB,gC]);rfl) (fun K hK=>?_) AllReadyH.nil))
  ·go_simp
   refine (HG1.out _ (HQ.out.trans hS)).mono ?_;rintro e yR1x8 ⟨xo,rfl,hz0,hq⟩;obtain ⟨ia,ic,rfl,_,_⟩:=hz0.lst.form0 HM.out.1;have HI7:=Hd (hz0.mono hS.le);clear hz0;try (go_wp2_with fail)
   have hS2:=Q.trans hS hq;refine hK.out _ _ (by exact hS2) (fun hHeld=>?_);clear hK K hHeld hS hq;have hS:=hS2;clear hS2;try simp only [Act.put,sA,sB,sC]
   refine tk 8 (by simp only [gA,gB,gC];rfl) (by first | kernel_rfl | rfl) (fun uz _=>by go_simp;try with_reducible rfl) pq hS ?_;try simp only [Act.put,sA,sB,sC]
   refine wpAnyH_ready (rs:=[9]) (by kernel_rfl) (by simp) ?_;refine ar (by (try simp only [gA,gB,gC]);rfl) fun K hK=>?_;go_simp
   have hq:=(Q.refl yR1x8).alloc (.cells #[.bool false,.slice none 0 0,.bool false,.slice none 0 0] 24);have HBX:=Hd (Bk.new yR1x8 24 [.bool false,.slice none 0 0,.bool false,.slice none 0 0]);have HW_bX:=Hd (Q.le hS);have HI7:=Hd (Own.q HI7.out hq);have hS2:=Q.trans hS hq;refine hK.out _ _ (by exact hS2) (fun hHeld=>?_);clear hK K hHeld hS hq;have hS:=hS2;clear hS2;generalize yR1x8.alloc (.cells #[.bool false,.slice none 0 0,.bool false,.slice none 0 0] 24) = yR1x10 at *;generalize yR1x8.heap.size = bX at *;try simp only [Act.put,sA,sB,sC]
   refine wpAnyH_ready (rs:=[10]) (by kernel_rfl) (by simp) ?_;refine ar (by (try simp only [gA,gB,gC]);rfl) fun K hK=>?_;have b0:=HBX.out.cell 0 rfl;have f0:=HBX.out.free 0;have b1:=HBX.out.cell 1 rfl;have f1:=HBX.out.free 1;have b2:=HBX.out.cell 2 rfl;have f2:=HBX.out.free 2;have b3:=HBX.out.cell 3 rfl;have f3:=HBX.out.free 3;go_simp
   have hS2:=(Q.setCell (Q.setCell (Q.setCell (Q.setCell hS (ad:=⟨bX,0,none⟩) HW_bX.out (.bool g)) (ad:=⟨bX,1,none⟩) HW_bX.out (.slice ia m1 ic)) (ad:=⟨bX,2,none⟩) HW_bX.out (.bool s)) (ad:=⟨bX,3,none⟩) HW_bX.out (.slice none 0 0));have HE:=Hd ((((HBX.out.set 0 (.bool g)).set 1 (.slice ia m1 ic)).set 2 (.bool s)).set 3 (.slice none 0 0));replace HI7:=Hd (Own_past4 HI7.out HBX.out (by decide) (.bool g) (.slice ia m1 ic) (.bool s) (.slice none 0 0));refine hK.out _ _ (by exact hS2) (fun hHeld=>?_);clear hK K hHeld hS;have hS:=hS2;clear hS2 b0 f0 b1 f1 b2 f2 b3 f3;generalize ((((yR1x10.setCell ⟨bX,0,none⟩ (.bool g)).setCell ⟨bX,1,none⟩ (.slice ia m1 ic)).setCell ⟨bX,2,none⟩ (.bool s)).setCell ⟨bX,3,none⟩ (.slice none 0 0)) = yR1x11 at *;try simp only [Act.put,sA,sB,sC]
   refine wpAnyH_done (by kernel_rfl) ?_ _;go_wp2_with fail
   go_meet
   exact ⟨bX,ia,ic,rfl,HW_bX.out,HE.out,HI7.out,hS⟩
  ·go_simp
   have hq:=(Q.refl yR1x0).alloc (.cells #[.bool false,.slice none 0 0,.bool false,.slice none 0 0] 24);have HBX:=Hd (Bk.new yR1x0 24 [.bool false,.slice none 0 0,.bool false,.slice none 0 0]);have HW_bX:=Hd (Q.le hS);have hS2:=Q.trans hS hq;refine hK.out _ _ (by exact hS2) (fun hHeld=>?_);clear hK K hHeld hS hq;have hS:=hS2;clear hS2;generalize yR1x0.alloc (.cells #[.bool false,.slice none 0 0,.bool false,.slice none 0 0] 24) = yR1x12 at *;generalize yR1x0.heap.size = bX at *;try simp only [Act.put,sA,sB,sC]
   refine wpAnyH_ready (rs:=[5]) (by kernel_rfl) (by simp) ?_;refine ar (by (try simp only [gA,gB,gC]);rfl) fun K hK=>?_;go_simp
   refine (HG1.out _ (HQ.out.trans hS)).mono ?_;rintro e yR1x13 ⟨xo,rfl,hz0,hq⟩;obtain ⟨ia,ic,rfl,_,_⟩:=hz0.lst.form0 HM.out.1;have HI7:=Hd (hz0.mono hS.le);clear hz0;try (go_wp2_with fail)
   have HBX:=Hd (Bk.q HBX.out hq);have hS2:=Q.trans hS hq;refine hK.out _ _ (by exact hS2) (fun hHeld=>?_);clear hK K hHeld hS hq;have hS:=hS2;clear hS2;try simp only [Act.put,sA,sB,sC]
   refine tk 8 (by simp only [gA,gB,gC];rfl) (by first | kernel_rfl | rfl) (fun uz _=>by go_simp;try with_reducible rfl) pq hS ?_;try simp only [Act.put,sA,sB,sC]
   refine wpAnyH_ready (rs:=[10]) (by kernel_rfl) (by simp) ?_;refine ar (by (try simp only [gA,gB,gC]);rfl) fun K hK=>?_;have b0:=HBX.out.cell 0 rfl;have f0:=HBX.out.free 0;have b1:=HBX.out.cell 1 rfl;have f1:=HBX.out.free 1;have b2:=HBX.out.cell 2 rfl;have f2:=HBX.out.free 2;have b3:=HBX.out.cell 3 rfl;have f3:=HBX.out.free 3;go_simp
   have hS2:=(Q.setCell (Q.setCell (Q.setCell (Q.setCell hS (ad:=⟨bX,0,none⟩) HW_bX.out (.bool g)) (ad:=⟨bX,1,none⟩) HW_bX.out (.slice ia m1 ic)) (ad:=⟨bX,2,none⟩) HW_bX.out (.bool s)) (ad:=⟨bX,3,none⟩) HW_bX.out (.slice none 0 0));have HE:=Hd ((((HBX.out.set 0 (.bool g)).set 1 (.slice ia m1 ic)).set 2 (.bool s)).set 3 (.slice none 0 0));replace HI7:=Hd (Own_past4 HI7.out HBX.out (by decide) (.bool g) (.slice ia m1 ic) (.bool s) (.slice none 0 0));refine hK.out _ _ (by exact hS2) (fun hHeld=>?_);clear hK K hHeld hS;have hS:=hS2;clear hS2 b0 f0 b1 f1 b2 f2 b3 f3;generalize ((((yR1x13.setCell ⟨bX,0,none⟩ (.bool g)).setCell ⟨bX,1,none⟩ (.slice ia m1 ic)).setCell ⟨bX,2,none⟩ (.bool s)).setCell ⟨bX,3,none⟩ (.slice none 0 0)) = yR1x15 at *;try simp only [Act.put,sA,sB,sC]
   refine wpAnyH_done (by kernel_rfl) ?_ _;go_wp2_with fail
   go_meet
   exact ⟨bX,ia,ic,rfl,HW_bX.out,HE.out,HI7.out,hS⟩
 case rest =>
  obtain ⟨b,ia,ic,rfl,hbu,hbk,hi7,hq⟩:=hcut;obtain ⟨u7,hu7⟩:∃ x,x = wc:=⟨_,rfl⟩;subst hu7;have HB7:=Hd (HB.out.q hq);have HD7:=Hd (HD.out.q hq);have HQ7:=Hd (HQ.out.trans hq);have HBU:=Hd hbu;have HWX:=Hd (Nat.le_trans HQ.out.le hbu);have HNX:=Hd (show b ≠ w.heap.size + 1 by have:=HZ.out;omega);have HZ7:=Hd hq.le;have HK7:=Hd hbk;have HI7:=Hd hi7;clear hbu hbk hi7 hq HD HB;have x2:=HB7.out.cell 2 rfl;have x3:=HB7.out.cell 3 rfl;cases s
  ·have y0:=HK7.out.cell 0 rfl
   have g0:=HK7.out.free 0;have y1:=HK7.out.cell 1 rfl;have g1:=HK7.out.free 1;have y2:=HK7.out.cell 2 rfl;have g2:=HK7.out.free 2;have y3:=HK7.out.cell 3 rfl;have g3:=HK7.out.free 3;have b0:=HD7.out.cell 0 rfl;have f0:=HD7.out.free 0;have b1:=HD7.out.cell 1 rfl;have f1:=HD7.out.free 1;have b2:=HD7.out.cell 2 rfl;have f2:=HD7.out.free 2;have b3:=HD7.out.cell 3 rfl;have f3:=HD7.out.free 3;go_wp2_with fail
   have hz1:=Own_past4 HI7.out HD7.out (by decide) (.bool g) (.slice ia m1 ic) (.bool false) (.slice none 0 0);rw [HZ.out] at hz1;refine ret_d rfl rfl rfl ((((HD7.out.set 0 _).set 1 _).set 2 _).set 3 _) rfl ⟨_,rfl,?_,Q.setCell (Q.setCell (Q.setCell (Q.setCell HQ7.out HWD.out _) HWD.out _) HWD.out _) HWD.out _⟩;rw [HG.out];exact ⟨ia,ic,none,0,by dsimp only;rw [HM.out.1];rfl,by dsimp only;rw [HM.out.1];exact hz1,Own.nil _ _⟩
  ·go_wp2_with fail
   refine (HG2.out _ HQ7.out).mono ?_;rintro e u8 ⟨x8,rfl,ho8,hq⟩;obtain ⟨fa,fc,rfl,_,_⟩:=ho8.lst.form0 HM.out.2;have hk:=HK7.out.q hq;have y3:=hk.cell 3 rfl;have g3:=hk.free 3;have HK9:=Hd (hk.set 3 (.slice fa m2 fc));have HI9:=Hd (Own_past (HI7.out.q hq) hk (by decide) 3 (.slice fa m2 fc));have HF9:=Hd (Own_past (ho8.mono HZ7.out) hk (by decide) 3 (.slice fa m2 fc));have HD9:=Hd ((HD7.out.q hq).past (g:=b) (i:=3) HNX.out (.slice fa m2 fc));have HQ9:=Hd (Q.setCell (HQ7.out.trans hq) (ad:=⟨b,3,none⟩) HWX.out (.slice fa m2 fc));obtain ⟨u9,hu9⟩:∃ u,u = u8.setCell ⟨b,3,none⟩ (.slice fa m2 fc):=⟨_,rfl⟩;rw [<- hu9] at HK9 HI9 HF9 HD9 HQ9;clear hk ho8 hq HK7 HI7 HD7 HQ7 x2 x3;go_upto_region 4 with fail
   rw [<- hu9];clear hu9 y3 g3;have y0:=HK9.out.cell 0 rfl;have g0:=HK9.out.free 0;have y1:=HK9.out.cell 1 rfl;have g1:=HK9.out.free 1;have y2:=HK9.out.cell 2 rfl;have g2:=HK9.out.free 2;have y3:=HK9.out.cell 3 rfl;have g3:=HK9.out.free 3;have b0:=HD9.out.cell 0 rfl;have f0:=HD9.out.free 0;have b1:=HD9.out.cell 1 rfl;have f1:=HD9.out.free 1;have b2:=HD9.out.cell 2 rfl;have f2:=HD9.out.free 2;have b3:=HD9.out.cell 3 rfl;have f3:=HD9.out.free 3;go_wp2_with fail
   have hz1:=Own_past4 HI9.out HD9.out (by decide) (.bool g) (.slice ia m1 ic) (.bool true) (.slice fa m2 fc);rw [HZ.out] at hz1;have hz2:=Own_past4 HF9.out HD9.out (by decide) (.bool g) (.slice ia m1 ic) (.bool true) (.slice fa m2 fc);rw [HZ.out] at hz2;refine ret_d rfl rfl rfl ((((HD9.out.set 0 _).set 1 _).set 2 _).set 3 _) rfl ⟨_,rfl,?_,Q.setCell (Q.setCell (Q.setCell (Q.setCell HQ9.out HWD.out _) HWD.out _) HWD.out _) HWD.out _⟩;rw [HG.out];exact ⟨ia,ic,fa,fc,by dsimp only;rw [if_pos trivial,HM.out.1,HM.out.2];rfl,by dsimp only;rw [HM.out.1];exact hz1,by dsimp only;rw [if_pos trivial,HM.out.2];exact hz2⟩
end Tr
end
end Go.Proofs.Ytnehhbobhnmbcaa
