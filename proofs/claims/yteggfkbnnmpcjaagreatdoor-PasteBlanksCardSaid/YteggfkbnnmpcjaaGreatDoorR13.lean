/- The document's own Atoms and Good of drafts (as in TrB), where there are no decimals. (and more) -/
import Derived.Test.YteggfkbnnmpcjaaGreatDoorR12
import Derived.Deep.RegionLaw
import Derived.Deep.RegionHeld3
import Derived.Shelf.Strings.Cut
import Derived.Lib.ConvBytes
set_option linter.all false
set_option maxRecDepth 100000
set_option maxHeartbeats 8000000
namespace Go.Proofs.YteggfkbnnmpcjaaGreatDoor
section
open Go.RowKit
namespace Tm
def LD (w:World) (B:Nat) (v:Value) (d:T):Prop:=∃ a1 c1 a2 c2,v = .agg #[.bool d.g,.slice a1 d.i.length c1,.bool d.s,.slice a2 d.f.length c2] /\ Own w B (.slice a1 d.i.length c1) d.i /\ Own w B (.slice a2 d.f.length c2) d.f
theorem LD.q {w w':World} {B:Nat} {v:Value} {d:T} (h:LD w B v d) (hq:Q w w'):LD w' B v d:=by
 obtain ⟨a1,c1,a2,c2,h0,h1,h2⟩:=h;exact ⟨a1,c1,a2,c2,h0,h1.q hq,h2.q hq⟩
theorem LD.mono {w:World} {B B':Nat} {v:Value} {d:T} (h:LD w B v d) (hB:B' <= B):LD w B' v d:=by
 obtain ⟨a1,c1,a2,c2,h0,h1,h2⟩:=h;exact ⟨a1,c1,a2,c2,h0,h1.mono hB,h2.mono hB⟩
theorem Own_past {w:World} {B g:Nat} {v:Value} {zs:List Int} {ty:TypeId} {l:List Value} (h:Own w B v zs) (hb:Bk w g ty l) (ht:ty ≠ 3) (k:Nat) (x:Value):Own (w.setCell ⟨g,k,none⟩ x) B v zs :=
 h.same fun b hv=>heap_setCell_other w ⟨g,k,none⟩ b x (by
  rintro rfl;obtain ⟨cur,hc⟩:=h.cells _ hv;unfold Bk at hb;rw [hb] at hc;simp at hc;exact ht hc.2)
theorem Own_past4 {w:World} {B g:Nat} {v:Value} {zs:List Int} {ty:TypeId} {l:List Value} (h:Own w B v zs) (hb:Bk w g ty l) (ht:ty ≠ 3) (x0 x1 x2 x3:Value) :
  Own ((((w.setCell ⟨g,0,none⟩ x0).setCell ⟨g,1,none⟩ x1).setCell ⟨g,2,none⟩ x2).setCell ⟨g,3,none⟩ x3) B v zs :=
 Own_past (Own_past (Own_past (Own_past h hb ht 0 x0) (hb.set 0 _) ht 1 x1) ((hb.set 0 _).set 1 _) ht 2 x2) (((hb.set 0 _).set 1 _).set 2 _) ht 3 x3
def gdT (g s:Bool) (I F:List Int) (p q:Nat):T:=⟨g,Dm.gdL I p,s,if s = true then Dm.gdL F q else []⟩
theorem gdT_may (g s:Bool) (I F:List Int) (p q:Nat):may (gdT g s I F p q) = true:=by
 unfold may gdT;dsimp only;rw [(Dm.okB_iff _).2 (Dm.gdL_ok I p)];cases s
 ·rfl
 ·rw [if_pos rfl,(Dm.okB_iff _).2 (Dm.gdL_ok F q)];rfl
theorem gdT_len (g s:Bool) (I F:List Int) (p q:Nat):(gdT g s I F p q).i.length <= p /\ (gdT g s I F p q).f.length <= q:=by
 unfold gdT;dsimp only;refine ⟨by rw [Dm.gdL_len];omega,?_⟩;cases s
 ·exact Nat.zero_le _
 ·rw [if_pos rfl,Dm.gdL_len];omega
end Tm
namespace Tr
open Tm
theorem infoR:(Tryz.prog.info? 43).map (·.size) = some 4:=by kernel_rfl
theorem ret_d {fn:Func} {p:Tmp} (h:fn.results = #[.cell p 43]) {R:Ending -> World -> Prop} {a:Act} {w:World} {g:Nat} {l:List Value}
  (hl:l.length = 4) (hp:a.tmps.getD p undef = .pointer (some ⟨g,0,none⟩)) (hg:Bk w g 43 l) (hd:a.defers = []) (hR:R (.returned (.agg l.toArray)) w):bodyPost Tryz.prog fn R .ret a w :=
 bodyPost_ret (results_cell_row h a.tmps w g 43 l.toArray (0,0) _ hp hg Tryz.underlying43 rfl (by rw [infoR];simp [hl])) hd hR
theorem atoms_any (g s:Bool) (a1 a2:Option Addr) (n1 n2 c1 c2:Nat) (I F:List Int) (w:World) (hi:Lst w (.slice a1 n1 c1) I) (hf:Lst w (.slice a2 n2 c2) F) (k1:I.length = n1) (k2:F.length = n2) (l1:n1 <= 100000) (l2:n2 <= 100000) :
  Calls Tryz.prog 15 #[.agg #[.bool g,.slice a1 n1 c1,.bool s,.slice a2 n2 c2]] w fun e w'=>∃ a c,e = .returned (.slice a (n1 + (sep s).length + n2) c) /\ Own w' (w.heap.size + 1) (.slice a (n1 + (sep s).length + n2) c) (I ++ sep s ++ F) /\ Q w w':=by
 have HI:=Hd (fun u (q:Q w u)=>hi.q q);have HF:=Hd (fun u (q:Q w u)=>hf.q q);have HL:=Hd (⟨k1,k2⟩:_ /\ _);clear hi hf k1 k2;obtain ⟨z,hz⟩:∃ y,y = w.alloc (.cells #[.bool g,.slice a1 n1 c1,.bool s,.slice a2 n2 c2] 43):=⟨_,rfl⟩;have HQ:=Hd (show Q w z by rw [hz];exact (Q.refl w).alloc _);have HB:=Hd (show Bk z w.heap.size 43 [.bool g,.slice a1 n1 c1,.bool s,.slice a2 n2 c2] by rw [hz];exact Bk.new _ _ _);have HZ:=Hd (show z.heap.size = w.heap.size + 1 by rw [hz];simp);have hol:=Own.nil z (w.heap.size + 1);have HBZ:=Hd (Nat.le_of_eq HZ.out.symm);have HW:=Hd (show ([]:List Int).length + I.length < 1099511627776 from by rw [HL.out.1];show 0 + _ < _;omega);have HIZ:=Hd (HI.out z HQ.out);have x1:=HB.out.cell 1 rfl;cases s
 ·go_enter Tryz.func15,Tryz.ntmps15
  go_upto_region 1 with fail
  rw [<- hz];clear hz;go_wp2_with (at_builtin;refine push_list hol HIZ.out rfl _ _ rfl (by rfl) (by rfl) HW.out HBZ.out ?_)
  intro v1 u1 ho1 hg1 hat1;have HO1:=Hd (show Own u1 (w.heap.size + 1) v1 I from ho1);have HQZ:=Hd (show Q z u1 from (Q.refl z).grown hg1 (fun k hk=>by cases hk));clear ho1 hg1 hat1 x1 hol;have x2:=(HB.out.q HQZ.out).cell 2 rfl;have HO2:=Hd (show Own u1 (w.heap.size + 1) v1 (I ++ []) from by rw [List.append_nil];exact HO1.out);have HQZ2:=HQZ;have x3:=(HB.out.q HQZ2.out).cell 3 rfl;have HFU:=Hd (HF.out _ (HQ.out.trans HQZ2.out));have HW2:=Hd (show (I ++ []).length + F.length < 1099511627776 from by rw [List.length_append,HL.out.1,HL.out.2];show _ + 0 + _ < _;omega);have HBU2:=Hd (Nat.le_trans HBZ.out HQZ2.out.le);go_wp2_with (at_builtin;refine push_list HO2.out HFU.out rfl _ _ rfl (by rfl) (by rfl) HW2.out HBU2.out ?_)
  intro v3 u3 ho3 hg3 hat3;have HO3:=Hd ho3;have HQZ3:=Hd (show Q z u3 from HQZ2.out.grown hg3 (fun k hk=>by rw [HZ.out];exact (HO2.out.lt k hk).1));clear ho3 hg3 hat3 x3;have hfin:Own u3 (w.heap.size + 1) v3 (I ++ sep false ++ F):=by simpa [sep] using HO3.out
  obtain ⟨ra,rc,hr,_,_⟩:=hfin.lst.form0 (n:=n1 + (sep false).length + n2) (by rw [List.length_append,List.length_append,HL.out.1,HL.out.2]);subst hr;have HFIN:=Hd hfin;clear hfin;go_wp2_with fail
  go_ret
  exact ⟨ra,rc,rfl,HFIN.out,HQ.out.trans HQZ3.out⟩
 ·go_enter Tryz.func15,Tryz.ntmps15
  go_upto_region 1 with fail
  rw [<- hz];clear hz;go_wp2_with (at_builtin;refine push_list hol HIZ.out rfl _ _ rfl (by rfl) (by rfl) HW.out HBZ.out ?_)
  intro v1 u1 ho1 hg1 hat1;have HO1:=Hd (show Own u1 (w.heap.size + 1) v1 I from ho1);have HQZ:=Hd (show Q z u1 from (Q.refl z).grown hg1 (fun k hk=>by cases hk));clear ho1 hg1 hat1 x1 hol;have x2:=(HB.out.q HQZ.out).cell 2 rfl;have HW1:=Hd (show I.length < 1099511627776 from by rw [HL.out.1];omega);have HBU:=Hd (Nat.le_trans HBZ.out HQZ.out.le);go_wp2_with (at_builtin;refine push_int HO1.out rfl _ _ rfl 10 (by rfl) (by rfl) HW1.out HBU.out ?_)
  intro v2 u2 ho2 hg2 hat2;have HO2:=Hd (show Own u2 (w.heap.size + 1) v2 (I ++ [10]) from ho2);have HQZ2:=Hd (show Q z u2 from HQZ.out.grown hg2 (fun k hk=>by rw [HZ.out];exact (HO1.out.lt k hk).1));clear ho2 hg2 hat2 x2;have x3:=(HB.out.q HQZ2.out).cell 3 rfl;have HFU:=Hd (HF.out _ (HQ.out.trans HQZ2.out));have HW2:=Hd (show (I ++ [10]).length + F.length < 1099511627776 from by rw [List.length_append,HL.out.1,HL.out.2];show _ + 1 + _ < _;omega);have HBU2:=Hd (Nat.le_trans HBZ.out HQZ2.out.le);go_wp2_with (at_builtin;refine push_list HO2.out HFU.out rfl _ _ rfl (by rfl) (by rfl) HW2.out HBU2.out ?_)
  intro v3 u3 ho3 hg3 hat3;have HO3:=Hd ho3;have HQZ3:=Hd (show Q z u3 from HQZ2.out.grown hg3 (fun k hk=>by rw [HZ.out];exact (HO2.out.lt k hk).1));clear ho3 hg3 hat3 x3;have hfin:Own u3 (w.heap.size + 1) v3 (I ++ sep true ++ F):=by simpa [sep] using HO3.out
  obtain ⟨ra,rc,hr,_,_⟩:=hfin.lst.form0 (n:=n1 + (sep true).length + n2) (by rw [List.length_append,List.length_append,HL.out.1,HL.out.2]);subst hr;have HFIN:=Hd hfin;clear hfin;go_wp2_with fail
  go_ret
  exact ⟨ra,rc,rfl,HFIN.out,HQ.out.trans HQZ3.out⟩
theorem good_any (g s:Bool) (a1 a2:Option Addr) (n1 n2 c1 c2:Nat) (I F:List Int) (w:World) (hi:Lst w (.slice a1 n1 c1) I) (hf:Lst w (.slice a2 n2 c2) F) (k1:I.length = n1) (k2:F.length = n2) (l1:n1 <= 9223372036854775807) (l2:n2 <= 9223372036854775807) (bi:∀ n ∈ I,-9223372036854775808 <= n /\ n <= 9223372036854775807) (bf:∀ n ∈ F,-9223372036854775808 <= n /\ n <= 9223372036854775807) (p q:Nat) (hp:p <= 1000) (hq:q <= 1000) :
  Calls Tryz.prog 14 #[.agg #[.bool g,.slice a1 n1 c1,.bool s,.slice a2 n2 c2],.int .i64 p,.int .i64 q] w fun e w'=>∃ x,e = .returned x /\ LD w' (w.heap.size + 2) x (gdT g s I F p q) /\ Q w w':=by
 have HG1:=Hd (fun u (qq:Q w u)=>Dr.good_any _ I p u (hi.q qq) (by omega) (by omega) bi);have HG2:=Hd (fun u (qq:Q w u)=>Dr.good_any _ F q u (hf.q qq) (by omega) (by omega) bf);have hgd:gdT g s I F p q = ⟨g,Dm.gdL I p,s,if s = true then Dm.gdL F q else []⟩:=rfl
 obtain ⟨G,hG⟩:∃ G,G = gdT g s I F p q:=⟨_,rfl⟩;rw [<- hG] at hgd |-;generalize Dm.gdL I p = I2 at *;generalize Dm.gdL F q = F2 at *;obtain ⟨m1,hm1⟩:∃ m1,m1 = I2.length:=⟨_,rfl⟩;obtain ⟨m2,hm2⟩:∃ m2,m2 = F2.length:=⟨_,rfl⟩;have HG:=Hd hgd;have HM:=Hd (⟨hm1.symm,hm2.symm⟩:_ /\ _);clear hi hf k1 k2 bi bf hgd hG hm1 hm2;obtain ⟨y,hy⟩:∃ y,y = w.alloc (.cells #[.bool g,.slice a1 n1 c1,.bool s,.slice a2 n2 c2] 43):=⟨_,rfl⟩;have hqy:Q w y:=by rw [hy];exact (Q.refl w).alloc _
 have hby:Bk y w.heap.size 43 [.bool g,.slice a1 n1 c1,.bool s,.slice a2 n2 c2]:=by rw [hy];exact Bk.new _ _ _
 have hsy:y.heap.size = w.heap.size + 1:=by rw [hy];simp
 obtain ⟨z,hz⟩:∃ z,z = y.alloc (.cells #[.bool false,.slice none 0 0,.bool false,.slice none 0 0] 43):=⟨_,rfl⟩;have hqz:Q y z:=by rw [hz];exact (Q.refl y).alloc _
 have HQ:=Hd (hqy.trans hqz);have HB:=Hd (hby.q hqz);have HD:=Hd (show Bk z (w.heap.size + 1) 43 [.bool false,.slice none 0 0,.bool false,.slice none 0 0] by rw [hz,<- hsy];exact Bk.new _ _ _);have HZ:=Hd (show z.heap.size = w.heap.size + 2 by rw [hz];simp [hsy]);have HWD:=Hd (Nat.le_succ w.heap.size);have hz2:z = (w.alloc (.cells #[.bool g,.slice a1 n1 c1,.bool s,.slice a2 n2 c2] 43)).alloc (.cells #[.bool false,.slice none 0 0,.bool false,.slice none 0 0] 43):=by rw [hz,hy]
 clear hqy hby hsy hqz hz hy;go_enter Tryz.func14,Tryz.ntmps14
 go_upto_region 1 with fail
 rw [<- hz2];clear hz2;go_cut [7] from 8 (fun p wx=>∃ b ia ic,p = .pointer (some ⟨b,0,none⟩) /\ z.heap.size <= b /\ Bk wx b 43 [.bool g,.slice ia m1 ic,.bool s,.slice none 0 0] /\ Own wx z.heap.size (.slice ia m1 ic) I2 /\ Q z wx)
 case first =>
  refine wp_region_held_drew (S:=fun u=>Q z u) (by kernel_rfl) (by exact (Q.refl z).drew) (fun hHeld=>?_);have hS:Q z z.drew:=hHeld;clear hHeld;have hq:Q z z.drew:=(Q.refl _).drew;clear hq;generalize z.drew = yR1x0 at *;change wpAnyH _ _ _ _ _ _ #[ff,ff,ff,ff,ff,ff,ff,ff,ff,ff,ff] _ _;refine tk 0 (by simp only [gA,gB,gC];rfl) (by first | kernel_rfl | rfl) (fun uz _=>by go_simp;try with_reducible rfl) pq hS ?_;try simp only [Act.put,sA,sB,sC]
  refine tk 1 (by simp only [gA,gB,gC];rfl) (by first | kernel_rfl | rfl) (fun uz hSw=>by (try dsimp only at hSw);have hxx:=HB.out.q hSw;have d0:=hxx.cell 0 rfl;clear hxx;go_simp;try with_reducible rfl) pq hS ?_;try simp only [Act.put,sA,sB,sC]
  refine tk 2 (by simp only [gA,gB,gC];rfl) (by first | kernel_rfl | rfl) (fun uz _=>by go_simp;try with_reducible rfl) pq hS ?_;try simp only [Act.put,sA,sB,sC]
  refine tk 3 (by simp only [gA,gB,gC];rfl) (by first | kernel_rfl | rfl) (fun uz hSw=>by (try dsimp only at hSw);have hxx:=HB.out.q hSw;have d0:=hxx.cell 1 rfl;clear hxx;go_simp;try with_reducible rfl) pq hS ?_;try simp only [Act.put,sA,sB,sC]
  refine tk 4 (by simp only [gA,gB,gC];rfl) (by first | kernel_rfl | rfl) (fun uz _=>by go_simp;try with_reducible rfl) pq hS ?_;try simp only [Act.put,sA,sB,sC]
  refine tk 6 (by simp only [gA,gB,gC];rfl) (by first | kernel_rfl | rfl) (fun uz _=>by go_simp;try with_reducible rfl) pq hS ?_;try simp only [Act.put,sA,sB,sC]
  refine tk 7 (by simp only [gA,gB,gC];rfl) (by first | kernel_rfl | rfl) (fun uz hSw=>by (try dsimp only at hSw);have hxx:=HB.out.q hSw;have d0:=hxx.cell 2 rfl;clear hxx;go_simp;try with_reducible rfl) pq hS ?_;try simp only [Act.put,sA,sB,sC]
  refine wpAnyH_ready (rs:=[5,9]) (by kernel_rfl) (by simp) ?_;refine (AllReadyH.cons (by (try simp only [gA,gB,gC]);rfl) (fun K hK=>?_) (AllReadyH.cons (by (try simp only [gA,gB,gC]);rfl) (fun K hK=>?_) AllReadyH.nil))
  ·go_simp
   refine (HG1.out _ (HQ.out.trans hS)).mono ?_;rintro e yR1x8 ⟨xo,rfl,hz0,hq⟩;obtain ⟨ia,ic,rfl,_,_⟩:=hz0.lst.form0 HM.out.1;have HI7:=Hd (hz0.mono hS.le);clear hz0;try (go_wp2_with fail)
   have hS2:=Q.trans hS hq;refine hK.out _ _ (by exact hS2) (fun hHeld=>?_);clear hK K hHeld hS hq;have hS:=hS2;clear hS2;try simp only [Act.put,sA,sB,sC]
   refine tk 8 (by simp only [gA,gB,gC];rfl) (by first | kernel_rfl | rfl) (fun uz _=>by go_simp;try with_reducible rfl) pq hS ?_;try simp only [Act.put,sA,sB,sC]
   refine wpAnyH_ready (rs:=[9]) (by kernel_rfl) (by simp) ?_;refine ar (by (try simp only [gA,gB,gC]);rfl) fun K hK=>?_;go_simp
   have hq:=(Q.refl yR1x8).alloc (.cells #[.bool false,.slice none 0 0,.bool false,.slice none 0 0] 43);have HBX:=Hd (Bk.new yR1x8 43 [.bool false,.slice none 0 0,.bool false,.slice none 0 0]);have HW_bX:=Hd (Q.le hS);have HI7:=Hd (Own.q HI7.out hq);have hS2:=Q.trans hS hq;refine hK.out _ _ (by exact hS2) (fun hHeld=>?_);clear hK K hHeld hS hq;have hS:=hS2;clear hS2;generalize yR1x8.alloc (.cells #[.bool false,.slice none 0 0,.bool false,.slice none 0 0] 43) = yR1x10 at *;generalize yR1x8.heap.size = bX at *;try simp only [Act.put,sA,sB,sC]
   refine wpAnyH_ready (rs:=[10]) (by kernel_rfl) (by simp) ?_;refine ar (by (try simp only [gA,gB,gC]);rfl) fun K hK=>?_;have b0:=HBX.out.cell 0 rfl;have f0:=HBX.out.free 0;have b1:=HBX.out.cell 1 rfl;have f1:=HBX.out.free 1;have b2:=HBX.out.cell 2 rfl;have f2:=HBX.out.free 2;have b3:=HBX.out.cell 3 rfl;have f3:=HBX.out.free 3;go_simp
   have hS2:=(Q.setCell (Q.setCell (Q.setCell (Q.setCell hS (ad:=⟨bX,0,none⟩) HW_bX.out (.bool g)) (ad:=⟨bX,1,none⟩) HW_bX.out (.slice ia m1 ic)) (ad:=⟨bX,2,none⟩) HW_bX.out (.bool s)) (ad:=⟨bX,3,none⟩) HW_bX.out (.slice none 0 0));have HE:=Hd ((((HBX.out.set 0 (.bool g)).set 1 (.slice ia m1 ic)).set 2 (.bool s)).set 3 (.slice none 0 0));replace HI7:=Hd (Own_past4 HI7.out HBX.out (by decide) (.bool g) (.slice ia m1 ic) (.bool s) (.slice none 0 0));refine hK.out _ _ (by exact hS2) (fun hHeld=>?_);clear hK K hHeld hS;have hS:=hS2;clear hS2 b0 f0 b1 f1 b2 f2 b3 f3;generalize ((((yR1x10.setCell ⟨bX,0,none⟩ (.bool g)).setCell ⟨bX,1,none⟩ (.slice ia m1 ic)).setCell ⟨bX,2,none⟩ (.bool s)).setCell ⟨bX,3,none⟩ (.slice none 0 0)) = yR1x11 at *;try simp only [Act.put,sA,sB,sC]
   refine wpAnyH_done (by kernel_rfl) ?_ _;go_wp2_with fail
   go_meet
   exact ⟨bX,ia,ic,rfl,HW_bX.out,HE.out,HI7.out,hS⟩
  ·go_simp
   have hq:=(Q.refl yR1x0).alloc (.cells #[.bool false,.slice none 0 0,.bool false,.slice none 0 0] 43);have HBX:=Hd (Bk.new yR1x0 43 [.bool false,.slice none 0 0,.bool false,.slice none 0 0]);have HW_bX:=Hd (Q.le hS);have hS2:=Q.trans hS hq;refine hK.out _ _ (by exact hS2) (fun hHeld=>?_);clear hK K hHeld hS hq;have hS:=hS2;clear hS2;generalize yR1x0.alloc (.cells #[.bool false,.slice none 0 0,.bool false,.slice none 0 0] 43) = yR1x12 at *;generalize yR1x0.heap.size = bX at *;try simp only [Act.put,sA,sB,sC]
   refine wpAnyH_ready (rs:=[5]) (by kernel_rfl) (by simp) ?_;refine ar (by (try simp only [gA,gB,gC]);rfl) fun K hK=>?_;go_simp
   refine (HG1.out _ (HQ.out.trans hS)).mono ?_;rintro e yR1x13 ⟨xo,rfl,hz0,hq⟩;obtain ⟨ia,ic,rfl,_,_⟩:=hz0.lst.form0 HM.out.1;have HI7:=Hd (hz0.mono hS.le);clear hz0;try (go_wp2_with fail)
   have HBX:=Hd (Bk.q HBX.out hq);have hS2:=Q.trans hS hq;refine hK.out _ _ (by exact hS2) (fun hHeld=>?_);clear hK K hHeld hS hq;have hS:=hS2;clear hS2;try simp only [Act.put,sA,sB,sC]
   refine tk 8 (by simp only [gA,gB,gC];rfl) (by first | kernel_rfl | rfl) (fun uz _=>by go_simp;try with_reducible rfl) pq hS ?_;try simp only [Act.put,sA,sB,sC]
   refine wpAnyH_ready (rs:=[10]) (by kernel_rfl) (by simp) ?_;refine ar (by (try simp only [gA,gB,gC]);rfl) fun K hK=>?_;have b0:=HBX.out.cell 0 rfl;have f0:=HBX.out.free 0;have b1:=HBX.out.cell 1 rfl;have f1:=HBX.out.free 1;have b2:=HBX.out.cell 2 rfl;have f2:=HBX.out.free 2;have b3:=HBX.out.cell 3 rfl;have f3:=HBX.out.free 3;go_simp
   have hS2:=(Q.setCell (Q.setCell (Q.setCell (Q.setCell hS (ad:=⟨bX,0,none⟩) HW_bX.out (.bool g)) (ad:=⟨bX,1,none⟩) HW_bX.out (.slice ia m1 ic)) (ad:=⟨bX,2,none⟩) HW_bX.out (.bool s)) (ad:=⟨bX,3,none⟩) HW_bX.out (.slice none 0 0));have HE:=Hd ((((HBX.out.set 0 (.bool g)).set 1 (.slice ia m1 ic)).set 2 (.bool s)).set 3 (.slice none 0 0));replace HI7:=Hd (Own_past4 HI7.out HBX.out (by decide) (.bool g) (.slice ia m1 ic) (.bool s) (.slice none 0 0));refine hK.out _ _ (by exact hS2) (fun hHeld=>?_);clear hK K hHeld hS;have hS:=hS2;clear hS2 b0 f0 b1 f1 b2 f2 b3 f3;generalize ((((yR1x13.setCell ⟨bX,0,none⟩ (.bool g)).setCell ⟨bX,1,none⟩ (.slice ia m1 ic)).setCell ⟨bX,2,none⟩ (.bool s)).setCell ⟨bX,3,none⟩ (.slice none 0 0)) = yR1x15 at *;try simp only [Act.put,sA,sB,sC]
   refine wpAnyH_done (by kernel_rfl) ?_ _;go_wp2_with fail
   go_meet
   exact ⟨bX,ia,ic,rfl,HW_bX.out,HE.out,HI7.out,hS⟩
 case rest =>
  obtain ⟨b,ia,ic,rfl,hbu,hbk,hi7,hq⟩:=hcut;obtain ⟨u7,hu7⟩:∃ x,x = wc:=⟨_,rfl⟩;subst hu7;have HB7:=Hd (HB.out.q hq);have HD7:=Hd (HD.out.q hq);have HQ7:=Hd (HQ.out.trans hq);have HBU:=Hd hbu;have HWX:=Hd (Nat.le_trans HQ.out.le hbu);have HNX:=Hd (show b ≠ w.heap.size + 1 by have:=HZ.out;omega);have HZ7:=Hd hq.le;have HK7:=Hd hbk;have HI7:=Hd hi7;clear hbu hbk hi7 hq HD HB;have x2:=HB7.out.cell 2 rfl;have x3:=HB7.out.cell 3 rfl;cases s
  ·have y0:=HK7.out.cell 0 rfl
   have g0:=HK7.out.free 0;have y1:=HK7.out.cell 1 rfl;have g1:=HK7.out.free 1;have y2:=HK7.out.cell 2 rfl;have g2:=HK7.out.free 2;have y3:=HK7.out.cell 3 rfl;have g3:=HK7.out.free 3;have b0:=HD7.out.cell 0 rfl;have f0:=HD7.out.free 0;have b1:=HD7.out.cell 1 rfl;have f1:=HD7.out.free 1;have b2:=HD7.out.cell 2 rfl;have f2:=HD7.out.free 2;have b3:=HD7.out.cell 3 rfl;have f3:=HD7.out.free 3;go_wp2_with fail
   have hz1:=Own_past4 HI7.out HD7.out (by decide) (.bool g) (.slice ia m1 ic) (.bool false) (.slice none 0 0);rw [HZ.out] at hz1;refine ret_d rfl rfl rfl ((((HD7.out.set 0 _).set 1 _).set 2 _).set 3 _) rfl ⟨_,rfl,?_,Q.setCell (Q.setCell (Q.setCell (Q.setCell HQ7.out HWD.out _) HWD.out _) HWD.out _) HWD.out _⟩;rw [HG.out];exact ⟨ia,ic,none,0,by dsimp only;rw [HM.out.1];rfl,by dsimp only;rw [HM.out.1];exact hz1,Own.nil _ _⟩
  ·go_wp2_with fail
   refine (HG2.out _ HQ7.out).mono ?_;rintro e u8 ⟨x8,rfl,ho8,hq⟩;obtain ⟨fa,fc,rfl,_,_⟩:=ho8.lst.form0 HM.out.2;have hk:=HK7.out.q hq;have y3:=hk.cell 3 rfl;have g3:=hk.free 3;have HK9:=Hd (hk.set 3 (.slice fa m2 fc));have HI9:=Hd (Own_past (HI7.out.q hq) hk (by decide) 3 (.slice fa m2 fc));have HF9:=Hd (Own_past (ho8.mono HZ7.out) hk (by decide) 3 (.slice fa m2 fc));have HD9:=Hd ((HD7.out.q hq).past (g:=b) (i:=3) HNX.out (.slice fa m2 fc));have HQ9:=Hd (Q.setCell (HQ7.out.trans hq) (ad:=⟨b,3,none⟩) HWX.out (.slice fa m2 fc));obtain ⟨u9,hu9⟩:∃ u,u = u8.setCell ⟨b,3,none⟩ (.slice fa m2 fc):=⟨_,rfl⟩;rw [<- hu9] at HK9 HI9 HF9 HD9 HQ9;clear hk ho8 hq HK7 HI7 HD7 HQ7 x2 x3;go_upto_region 4 with fail
   rw [<- hu9];clear hu9 y3 g3;have y0:=HK9.out.cell 0 rfl;have g0:=HK9.out.free 0;have y1:=HK9.out.cell 1 rfl;have g1:=HK9.out.free 1;have y2:=HK9.out.cell 2 rfl;have g2:=HK9.out.free 2;have y3:=HK9.out.cell 3 rfl;have g3:=HK9.out.free 3;have b0:=HD9.out.cell 0 rfl;have f0:=HD9.out.free 0;have b1:=HD9.out.cell 1 rfl;have f1:=HD9.out.free 1;have b2:=HD9.out.cell 2 rfl;have f2:=HD9.out.free 2;have b3:=HD9.out.cell 3 rfl;have f3:=HD9.out.free 3;go_wp2_with fail
   have hz1:=Own_past4 HI9.out HD9.out (by decide) (.bool g) (.slice ia m1 ic) (.bool true) (.slice fa m2 fc);rw [HZ.out] at hz1;have hz2:=Own_past4 HF9.out HD9.out (by decide) (.bool g) (.slice ia m1 ic) (.bool true) (.slice fa m2 fc);rw [HZ.out] at hz2;refine ret_d rfl rfl rfl ((((HD9.out.set 0 _).set 1 _).set 2 _).set 3 _) rfl ⟨_,rfl,?_,Q.setCell (Q.setCell (Q.setCell (Q.setCell HQ9.out HWD.out _) HWD.out _) HWD.out _) HWD.out _⟩;rw [HG.out];exact ⟨ia,ic,fa,fc,by dsimp only;rw [if_pos trivial,HM.out.1,HM.out.2];rfl,by dsimp only;rw [HM.out.1];exact hz1,by dsimp only;rw [if_pos trivial,HM.out.2];exact hz2⟩
end Tr
end
section
open Go.RowKit
namespace Er
def dv (g:Bool) (v:Value) (s:Int):Value:=.agg #[.bool g,v,.int .i64 s]
theorem Own.put {w u:World} {v:Value} {zs:List Int} (h:Own u (w.heap.size + 2) v zs) (x y z:Value):Own (((u.setCell ⟨w.heap.size + 1,0,none⟩ x).setCell ⟨w.heap.size + 1,1,none⟩ y).setCell ⟨w.heap.size + 1,2,none⟩ z) (w.heap.size + 2) v zs :=
 h.same fun g hg=>by
  have hB:=(h.lt g hg).1;rw [heap_setCell_other _ ⟨w.heap.size + 1,2,none⟩ _ z (by show g ≠ w.heap.size + 1;omega),heap_setCell_other _ ⟨w.heap.size + 1,1,none⟩ _ y (by show g ≠ w.heap.size + 1;omega),heap_setCell_other _ ⟨w.heap.size + 1,0,none⟩ _ x (by show g ≠ w.heap.size + 1;omega)]
def LF (w:World) (B:Nat) (v:Value) (xs:List Int):Prop:=∃ a n c,v = .slice a n c /\ Lst w v xs /\ n = xs.length /\ ∀ ad,a = some ad -> n ≠ 0 -> B <= ad.block
theorem LF.lst {w:World} {B:Nat} {v:Value} {xs:List Int} (h:LF w B v xs):Lst w v xs:=by obtain ⟨_,_,_,_,h,_⟩:=h;exact h
theorem LF.q {w w':World} {B:Nat} {v:Value} {xs:List Int} (h:LF w B v xs) (hq:Q w w'):LF w' B v xs:=by obtain ⟨a,n,c,h0,h1,h2⟩:=h;exact ⟨a,n,c,h0,h1.q hq,h2⟩
theorem LF.mono {w:World} {B B':Nat} {v:Value} {xs:List Int} (h:LF w B v xs) (hB:B' <= B):LF w B' v xs:=by obtain ⟨a,n,c,h0,h1,h2,h3⟩:=h;exact ⟨a,n,c,h0,h1,h2,fun ad ha hn=>Nat.le_trans hB (h3 ad ha hn)⟩
theorem LF.of {w:World} {B:Nat} {v:Value} {xs:List Int} (h:Own w B v xs):LF w B v xs:=by
 rcases h.2 with ⟨hv,hn⟩ | ⟨g,cap,cur,hv,hg,_⟩
 ·exact ⟨_,_,_,hv,h.lst,hn.symm,fun ad ha=>by cases ha⟩
 ·exact ⟨_,_,_,hv,h.lst,rfl,fun ad ha _=>by cases ha;exact hg⟩
theorem LF.nil (w:World) (B:Nat):LF w B (.slice none 0 0) []:=⟨_,_,_,rfl,.nil _ _ _ (by unfold maxLen;omega) (fun _=>rfl),rfl,fun ad ha=>by cases ha⟩
theorem LF.put {u:World} {B r:Nat} {v:Value} {zs:List Int} (h:LF u B v zs) (hr:r < B) (x y z:Value):LF (((u.setCell ⟨r,0,none⟩ x).setCell ⟨r,1,none⟩ y).setCell ⟨r,2,none⟩ z) B v zs:=by
 obtain ⟨a,n,c,rfl,h1,h2,h3⟩:=h;have hne:∀ (ad:Addr) (n' c':Nat),(Value.slice a n c) = .slice (some ad) n' c' -> n' ≠ 0 -> ad.block ≠ r:=by
  intro ad n' c' e hn;cases e;have:=h3 ad rfl hn;omega
 exact ⟨a,n,c,rfl,((h1.setCell (ad:=⟨r,0,none⟩) x hne).setCell (ad:=⟨r,1,none⟩) y hne).setCell (ad:=⟨r,2,none⟩) z hne,h2,h3⟩
theorem LF.shape {w:World} {B:Nat} {v:Value} {xs:List Int} (h:LF w B v xs):∃ a c,v = .slice a xs.length c:=by obtain ⟨a,n,c,h0,_,h2,_⟩:=h;exact ⟨a,c,by rw [h0,h2]⟩
end Er
end
section
open Go.RowKit
namespace Dw
theorem n1:Dm.dg (Dm.num [1,0,0] - Dm.num [9,9]) = [1]:=by decide +kernel
end Dw
end
section
open Go.Shelf
namespace Sp
def shelfIndexRen:Go.Shelf.Ren:=⟨fun | 143=>211 | 217=>222 | 219=>212 | 224=>224 | 225=>223 | 266=>231 | 267=>225 | 314=>232 | n=>n,fun | 3=>3 | 4=>4 | 5=>5 | 9=>9 | 46=>227 | 51=>225 | 146=>258 | n=>n,fun | 1=>3 | n=>n⟩
theorem shelfIndex:Go.Proofs.Lays.n143 Tryz.prog shelfIndexRen:={
 mixed:=by kernel_rfl
 f143:=Tryz.func211.trans (congrArg some (by kernel_rfl))
 f217:=Tryz.func222.trans (congrArg some (by kernel_rfl))
 f219:=Tryz.func212.trans (congrArg some (by kernel_rfl))
 f224:=Tryz.func224.trans (congrArg some (by kernel_rfl))
 f225:=Tryz.func223.trans (congrArg some (by kernel_rfl))
 f266:=Tryz.func231.trans (congrArg some (by kernel_rfl))
 f267:=Tryz.func225.trans (congrArg some (by kernel_rfl))
 f314:=Tryz.func232.trans (congrArg some (by kernel_rfl))
 t3:=Tryz.underlying3
 a3:=Tryz.isAgg3
 z3:=Tryz.sizeOf3
 v3:=Tryz.zeroValue3
 t4:=Tryz.underlying4
 a4:=Tryz.isAgg4
 z4:=Tryz.sizeOf4
 v4:=Tryz.zeroValue4
 t5:=Tryz.underlying5
 a5:=Tryz.isAgg5
 z5:=Tryz.sizeOf5
 v5:=Tryz.zeroValue5
 t9:=Tryz.underlying9
 a9:=Tryz.isAgg9
 z9:=Tryz.sizeOf9
 v9:=Tryz.zeroValue9
 t46:=Tryz.underlying227
 a46:=Tryz.isAgg227
 z46:=Tryz.sizeOf227
 v46:=Tryz.zeroValue227
 t51:=Tryz.underlying225
 a51:=Tryz.isAgg225
 z51:=Tryz.sizeOf225
 v51:=Tryz.zeroValue225
 t146:=Tryz.underlying258
 a146:=Tryz.isAgg258
 z146:=Tryz.sizeOf258
 v146:=Tryz.zeroValue258
 g1:=by kernel_rfl }
def shelfIndexLRen:Go.Shelf.Ren:=⟨fun | 217=>222 | 219=>212 | 224=>224 | 225=>223 | 266=>231 | 267=>225 | 314=>232 | n=>n,fun | 3=>3 | 4=>4 | 5=>5 | 9=>9 | 46=>227 | 51=>225 | 146=>258 | n=>n,fun | 1=>3 | n=>n⟩
theorem shelfIndexL:Go.Proofs.Lays.n219 Tryz.prog shelfIndexLRen:={
 mixed:=by kernel_rfl
 f217:=Tryz.func222.trans (congrArg some (by kernel_rfl))
 f219:=Tryz.func212.trans (congrArg some (by kernel_rfl))
 f224:=Tryz.func224.trans (congrArg some (by kernel_rfl))
 f225:=Tryz.func223.trans (congrArg some (by kernel_rfl))
 f266:=Tryz.func231.trans (congrArg some (by kernel_rfl))
 f267:=Tryz.func225.trans (congrArg some (by kernel_rfl))
 f314:=Tryz.func232.trans (congrArg some (by kernel_rfl))
 t3:=Tryz.underlying3
 a3:=Tryz.isAgg3
 z3:=Tryz.sizeOf3
 v3:=Tryz.zeroValue3
 t4:=Tryz.underlying4
 a4:=Tryz.isAgg4
 z4:=Tryz.sizeOf4
 v4:=Tryz.zeroValue4
 t5:=Tryz.underlying5
 a5:=Tryz.isAgg5
 z5:=Tryz.sizeOf5
 v5:=Tryz.zeroValue5
 t9:=Tryz.underlying9
 a9:=Tryz.isAgg9
 z9:=Tryz.sizeOf9
 v9:=Tryz.zeroValue9
 t46:=Tryz.underlying227
 a46:=Tryz.isAgg227
 z46:=Tryz.sizeOf227
 v46:=Tryz.zeroValue227
 t51:=Tryz.underlying225
 a51:=Tryz.isAgg225
 z51:=Tryz.sizeOf225
 v51:=Tryz.zeroValue225
 t146:=Tryz.underlying258
 a146:=Tryz.isAgg258
 z146:=Tryz.sizeOf258
 v146:=Tryz.zeroValue258
 g1:=by kernel_rfl }
open Go.RowKit Go.Lib in
theorem index_any (s:ByteArray) (c:UInt8) (w:World):Calls Tryz.prog 211 #[.string s,.string ⟨#[c]⟩] w fun e w'=>e = .returned (.int .i64 (Lib.indexByte s.data.toList c)) /\ w' = w:=Any.strings_Index_one shelfIndex s c w
open Go.RowKit Go.Lib in
theorem indexL_any (s:ByteArray) (c:UInt8) (w:World):Calls Tryz.prog 212 #[.string s,.string ⟨#[c]⟩] w fun e w'=>e = .returned (.int .i64 (Lib.indexByte s.data.toList c)) /\ w' = w:=Any.stringslite_Index_one shelfIndexL s c w
open Go.RowKit in
theorem cutL_any (s:ByteArray) (c:UInt8) (w:World) (hs:s.size <= 1000000) :
  Calls Tryz.prog 204 #[.string s,.string ⟨#[c]⟩] w fun e w'=>e = .returned (.tuple #[.string ⟨(Lib.cut s.data.toList [c]).1.toArray⟩,.string ⟨(Lib.cut s.data.toList [c]).2.1.toArray⟩,.bool (Lib.cut s.data.toList [c]).2.2]) /\ Q w w':=by
 have hI:=fun w=>indexL_any s c w;have e0:Lib.indexB s ⟨#[c]⟩ = Lib.indexByte s.data.toList c:=Lib.index_one _ _;rw [<- e0] at hI;rcases Lib.indexB_cases s ⟨#[c]⟩ with hix | ⟨i,hix,hroom⟩
 ·obtain ⟨e1,e2,e3⟩:=Lib.cutB_miss s ⟨#[c]⟩ hix
  have e1:(⟨(Lib.cut s.data.toList [c]).1.toArray⟩:ByteArray) = s:=e1;have e2:(⟨(Lib.cut s.data.toList [c]).2.1.toArray⟩:ByteArray) = ByteArray.empty:=e2;have e3:(Lib.cut s.data.toList [c]).2.2 = false:=e3;rw [hix] at hI;have HI:=Hd hI;have HE:=Hd (And.intro e1 (And.intro e2 e3));clear hI e0 hix e1 e2 e3;go_enter Tryz.func204,Tryz.ntmps204
  go_wp2_with fail
  refine (HI.out _).mono ?_;rintro e w1 ⟨rfl,rfl⟩;go_wp2_with fail
  go_ret3
  rw [HE.out.1,HE.out.2.1,HE.out.2.2];exact ⟨rfl,Q.refl _⟩
 ·obtain ⟨e1,e2,e3⟩:=Lib.cutB_hit s ⟨#[c]⟩ i hix
  rw [hix] at hI;have hroom:i + 1 <= s.size:=hroom;have e1:(⟨(Lib.cut s.data.toList [c]).1.toArray⟩:ByteArray) = s.extract 0 i:=e1;have e2:(⟨(Lib.cut s.data.toList [c]).2.1.toArray⟩:ByteArray) = s.extract (i + 1) s.size:=e2;have e3:(Lib.cut s.data.toList [c]).2.2 = true:=e3;have HI:=Hd hI;have HE:=Hd (And.intro e1 (And.intro e2 e3));clear hI e0 hix e1 e2 e3;have c1:(0:Int) <= (i:Int):=by omega
  have c2:(i:Int) <= (s.size:Int):=by omega
  have c4:(i:Int) + 1 <= (s.size:Int):=by omega
  go_enter Tryz.func204,Tryz.ntmps204
  go_wp2_with fail
  refine (HI.out _).mono ?_;rintro e w1 ⟨rfl,rfl⟩;go_wp2_with fail
  go_region
  go_wp2_with fail
  go_ret3
  rw [HE.out.1,HE.out.2.1,HE.out.2.2];exact ⟨rfl,(Q.refl _).drew⟩
open Go.RowKit in
theorem cut_any (s:ByteArray) (c:UInt8) (w:World) (hs:s.size <= 1000000) :
  Calls Tryz.prog 192 #[.string s,.string ⟨#[c]⟩] w fun e w'=>e = .returned (.tuple #[.string ⟨(Lib.cut s.data.toList [c]).1.toArray⟩,.string ⟨(Lib.cut s.data.toList [c]).2.1.toArray⟩,.bool (Lib.cut s.data.toList [c]).2.2]) /\ Q w w':=by
 have hC:=fun w=>cutL_any s c w hs;generalize Lib.cut s.data.toList [c] = R at *;obtain ⟨r1,r2,r3⟩:=R;go_enter Tryz.func192,Tryz.ntmps192
 go_wp2_with fail
 refine (hC _).mono ?_;rintro e w1 ⟨rfl,hq⟩;go_wp2_with fail
 go_ret3
 exact ⟨rfl,hq⟩
open Go.RowKit in
theorem split_any (s:ByteArray) (c:UInt8) (w:World) (hs:s.size <= 1000000) :
  Calls Tryz.prog 193 #[.string s,.string ⟨#[c]⟩] w fun e w'=>∃ v,e = .returned v /\ SLst w' v (Lib.splitB ⟨#[c]⟩ 0 (Lib.countB s ⟨#[c]⟩) s) /\ Q w w':=by
 have hle:=Lib.countB_le ⟨#[c]⟩ (Nat.le_refl 1) s.size s (Nat.le_refl _);have hlen:=Lib.splitB_all ⟨#[c]⟩ (Nat.le_refl 1) 0 _ s rfl;have hC:Calls Tryz.prog 196 #[.string s,.string ⟨#[c]⟩] w fun e w'=>e = .returned (.int .i64 (Lib.countB s ⟨#[c]⟩)) /\ w' = w:=by
  refine (count_any s c w).mono ?_;rintro e w' ⟨rfl,rfl⟩;refine ⟨?_,rfl⟩;show _ = Ending.returned (Value.int .i64 ((Lib.count s.data.toList [c]:Nat):Int));rw [Lib.count_one];rfl
 have cc:=Any.strings_genSplit_core shelfGenSplit (by kernel_rfl) s ⟨#[c]⟩ 0 (-1) (Lib.countB s ⟨#[c]⟩ + 1) w (by omega) (Nat.le_refl 1) (Nat.zero_le _)
  (fun x cs hx=>by
   refine (index_any x c _).mono ?_;rintro e w' ⟨rfl,rfl⟩;refine ⟨?_,rfl⟩;rw [show Lib.indexB x ⟨#[c]⟩ = Lib.indexByte x.data.toList c from Lib.index_one _ _]) hC (by decide) (by decide) (by rw [if_pos (by decide)];omega)
 rw [Nat.add_sub_cancel,hlen] at cc;have e2:Lib.cellsOf (Lib.splitB ⟨#[c]⟩ 0 (Lib.countB s ⟨#[c]⟩) s) (Lib.countB s ⟨#[c]⟩ + 1) = ((Lib.splitB ⟨#[c]⟩ 0 (Lib.countB s ⟨#[c]⟩) s).map Value.string).toArray:=by rw [<- hlen];exact Lib.cellsOf_full _
 rw [e2] at cc;generalize Lib.splitB ⟨#[c]⟩ 0 (Lib.countB s ⟨#[c]⟩) s = L at *;generalize Lib.countB s ⟨#[c]⟩ = N at *;have CC:=Hd cc;have HLN:=Hd hlen;clear cc hC e2 hlen;go_enter Tryz.func193,Tryz.ntmps193
 go_wp2_with fail
 refine CC.out.mono ?_;rintro e w1 ⟨rfl,rfl⟩;go_wp2_with fail
 go_ret
 exact ⟨_,rfl,GLst.made Value.string 9 w L (N + 1) HLN.out (by unfold maxLen;omega),(Q.refl _).alloc _⟩
end Sp
end
section
open Go.RowKit
namespace Pg
open Pt Um
theorem elG:Sg.El 216 179:=⟨by kernel_rfl,Tryz.underlying179⟩
abbrev OwnG (w:World) (B:Nat) (v:Value) (l:List (Int × Int)):Prop:=Sg.OwnE 216 w B v l
def tokQ:Bool -> Bool -> List Int -> Option (List (Int × Int))
 | q,p,[]=>if (q != p) = true then none else some []
 | q,p,c :: r =>
  if c = 39 then (if p = true then (tokQ q false r).map ((0,39) :: ·) else tokQ q true r)
  else if (q != p) = true then (tokQ true false r).map ((0,c) :: ·)
  else (tokQ false false r).map ((kindC c,c) :: ·)
theorem tokQ_cons (q p:Bool) (c:Int) (r:List Int):tokQ q p (c :: r) = if c = 39 then (if p = true then (tokQ q false r).map ((0,39) :: ·) else tokQ q true r) else if (q != p) = true then (tokQ true false r).map ((0,c) :: ·) else (tokQ false false r).map ((kindC c,c) :: ·):=rfl
theorem tok_q (cs:List Int):∀ q p l,tokS q p cs = some l -> tokQ q p cs = some l:=by
 induction cs with
 | nil=>intro q p l h;exact h
 | cons c r ih =>
  intro q p l h;rw [tokS_cons] at h;rw [tokQ_cons];split at h
  ·rename_i h1
   rw [if_pos h1];split at h
   ·rename_i h2
    rw [if_pos h2];obtain ⟨m,hm,rfl⟩:=Option.map_eq_some_iff.1 h;rw [ih _ _ _ hm];rfl
   ·rename_i h2
    rw [if_neg h2];exact ih _ _ _ h
  ·rename_i h1
   rw [if_neg h1];split at h
   ·rename_i h2
    rw [if_pos h2];obtain ⟨m,hm,rfl⟩:=Option.map_eq_some_iff.1 h;rw [ih _ _ _ hm];rfl
   ·rename_i h2
    rw [if_neg h2];split at h
    ·cases h
    ·obtain ⟨m,hm,rfl⟩:=Option.map_eq_some_iff.1 h
     rw [ih _ _ _ hm];rfl
theorem tokQ_turn (q:Bool) (r:List Int) (h:r = [] \/ r.getD 0 0 ≠ 39):tokQ q true r = tokQ (!q) false r:=by
 cases r with
 | nil=>cases q <;> rfl
 | cons c r =>
  have hc:c ≠ 39:=by
   rcases h with h | h
   ·cases h
   ·simpa using h
  rw [tokQ_cons,tokQ_cons,if_neg hc,if_neg hc];cases q <;> rfl
theorem drop_at (cs:List Int) (k:Nat) (hk:k < cs.length):cs.drop k = cs.getD k 0 :: cs.drop (k + 1):=by
 rw [List.getD_eq_getElem?_getD,List.getElem?_eq_getElem hk];exact List.drop_eq_getElem_cons hk
def Far (cs:List Int) (k:Nat) (q:Bool) (o:List (Int × Int)):Prop:=(tokQ q false (cs.drop k)).map (o ++ ·) = tokQ false false cs /\ o.length <= k
theorem Far.start (cs:List Int):Far cs 0 false []:=⟨by simp,by simp⟩
theorem Far.two {cs:List Int} {k:Nat} {q:Bool} {o:List (Int × Int)} (h:Far cs k q o) (hk:k + 1 < cs.length) (h1:cs.getD k 0 = 39) (h2:cs.getD (k + 1) 0 = 39):Far cs (k + 2) q (o ++ [(0,39)]):=by
 obtain ⟨h,hl⟩:=h;rw [drop_at cs k (by omega),h1,drop_at cs (k + 1) hk,h2,tokQ_cons,if_pos rfl,if_neg (by decide),tokQ_cons,if_pos rfl,if_pos rfl,Option.map_map] at h;refine ⟨?_,by simp;omega⟩;rw [<- h];congr 1
 funext x;simp
theorem Far.turn {cs:List Int} {k:Nat} {q:Bool} {o:List (Int × Int)} (h:Far cs k q o) (hk:k < cs.length) (h1:cs.getD k 0 = 39) (h2:¬ (k + 1 < cs.length /\ cs.getD (k + 1) 0 = 39)):Far cs (k + 1) (!q) o:=by
 obtain ⟨h,hl⟩:=h;rw [drop_at cs k hk,h1,tokQ_cons,if_pos rfl,if_neg (by decide)] at h;refine ⟨?_,by omega⟩;rw [<- h,tokQ_turn q];by_cases hn:k + 1 < cs.length
 ·right
  rw [drop_at cs (k + 1) hn];simpa using fun e=>h2 ⟨hn,by simpa using e⟩
 ·left
  exact List.drop_eq_nil_of_le (by omega)
theorem Far.in {cs:List Int} {k:Nat} {o:List (Int × Int)} (h:Far cs k true o) (hk:k < cs.length) (h1:cs.getD k 0 ≠ 39):Far cs (k + 1) true (o ++ [(0,cs.getD k 0)]):=by
 obtain ⟨h,hl⟩:=h;rw [drop_at cs k hk,tokQ_cons,if_neg h1,if_pos (by decide),Option.map_map] at h;refine ⟨?_,by simp;omega⟩;rw [<- h];congr 1
 funext x;simp
theorem Far.out {cs:List Int} {k:Nat} {o:List (Int × Int)} (h:Far cs k false o) (hk:k < cs.length) (h1:cs.getD k 0 ≠ 39):Far cs (k + 1) false (o ++ [(kindC (cs.getD k 0),cs.getD k 0)]):=by
 obtain ⟨h,hl⟩:=h;rw [drop_at cs k hk,tokQ_cons,if_neg h1,if_neg (by decide),Option.map_map] at h;refine ⟨?_,by simp;omega⟩;rw [<- h];congr 1
 funext x;simp
theorem Far.fin {cs:List Int} {q:Bool} {o:List (Int × Int)} (h:Far cs cs.length q o):tokQ false false cs = if q = true then none else some o:=by
 obtain ⟨h,hl⟩:=h;rw [List.drop_eq_nil_of_le (Nat.le_refl _)] at h;rw [<- h];cases q <;> simp [tokQ]
theorem signs_any (s:ByteArray) (w:World) (hs:s.size <= 1000000) (hok:okL s.data.toList = true) :
  Calls Tryz.prog 141 #[.string s] w fun e w'=>Q w w' /\
   ((∃ v l,tokQ false false (allL s.data.toList) = some l /\ e = .returned v /\ OwnG w' w.heap.size v l /\ l.length <= s.size) \/ (tokQ false false (allL s.data.toList) = none /\ e = .panicked form)):=by
 have hva:=fun w=>valid_any s w (by unfold maxLen;omega);rw [hok] at hva;have hal:=fun w=>all_any s w (by omega);have hml:=marks_length s.data.toList;rw [size_list] at hml;have hcl:(allL s.data.toList).length <= s.size:=by unfold allL;simp;omega
 clear hml hok;generalize allL s.data.toList = cs at *;obtain ⟨n,hn⟩:∃ n,n = cs.length:=⟨_,rfl⟩;have HN:=Hd hn;rw [<- hn] at hcl;obtain ⟨R,hR⟩:∃ R,R = tokQ false false cs:=⟨_,rfl⟩;have HR:=Hd hR;rw [<- hR];clear hn hR;go_enter Tryz.func141,Tryz.ntmps141
 go_wp2_with fail
 refine (hva _).mono ?_;rintro e w1 ⟨rfl,hq1⟩;go_wp2_with fail
 refine (need_yes _).mono ?_;rintro e w1' ⟨rfl,rfl⟩;go_wp2_with fail
 refine (hal _).mono ?_;rintro e w2 ⟨v,rfl,hv,hq2'⟩;have hq2:=hq1.trans hq2';clear hq1 hq2';have HV:=Hd hv.lst;obtain ⟨a,cp,rfl,_,_⟩:=hv.lst.form0 HN.out.symm;clear hv hal hva;go_wp2_with fail
 go_loopw [3,5,6] (fun u q i wr=>∃ (k:Nat) (b:Bool) (o:List (Int × Int)),i = .int .i64 k /\ q = .bool b /\ k <= n /\ OwnG wr w2.heap.size u o /\ Far cs k b o /\ Q w2 wr) (fun _ _ i _=>n - (intOf i).toNat)
 case atStart=>exact ⟨0,false,[],rfl,rfl,by omega,Sg.OwnE.nil _ _ _,Far.start cs,Q.refl _⟩
 case round =>
  obtain ⟨k,b,o,rfl,rfl,hk,ho,hf,hq⟩:=hrel;have hqs:=hq.le;have HF:=Hd hf;have hol:o.length < 1073741824:=by have:=hf.2;omega
  clear hf;by_cases hlt:k < n
  ·have hlti:(k:Int) < (n:Int):=by omega
   have hkl:k < cs.length:=by have:=HN.out;omega
   obtain ⟨g,off,cap,hvv,hg,hnc,hcm,hca⟩:=HV.out.cellOf HN.out.symm hlt;cases hvv;have hcell:∀ j,j < n -> wr.cell? ⟨g,off + j,none⟩ = some (.int .i64 (cs.getD j 0)):=by
    intro j hj;obtain ⟨g',off',cap',hvv',hg',_,_,hcj⟩:=HV.out.cellOf HN.out.symm hj;cases hvv';exact (World.cell?_of_block (w:=w2) (hq.block hg')).trans hcj
   have c1:=hcell k hlt;have HCE:=Hd hcell;clear hca hcell;have F1:=fun h1 h2 h3=>HF.out.two h1 h2 h3;have F2:=fun h1 h2=>HF.out.turn hkl h1 h2;obtain ⟨c,hc⟩:∃ c,c = cs.getD k 0:=⟨_,rfl⟩;rw [<- hc] at c1 F1 F2;have HC:=Hd hc;clear hc;by_cases h39:c = 39
   ·subst h39
    by_cases hn1:k + 1 < n
    ·have hn1i:(k:Int) + 1 < (n:Int):=by omega
     have c2:=HCE.out (k + 1) hn1;obtain ⟨d,hd⟩:∃ d,d = cs.getD (k + 1) 0:=⟨_,rfl⟩;rw [<- hd] at c2 F1 F2;have HD:=Hd hd;clear hd;by_cases hd9:d = 39
     ·subst hd9
      have HF2:=Hd (F1 (by have:=HN.out;omega) rfl rfl);clear F1 F2;go_wp2_with (at_builtin;refine Sg.push elG ho rfl _ _ rfl 0 39 (by rfl) (by rfl) hol hqs ?_)
      intro v' w4 ho4 hg4 hat4;have hq4:=hq.grown hg4 (fun j h=>(ho.lt j h).1);go_wp2_with fail
      go_roundw
      case rel=>exact ⟨k + 2,b,o ++ [(0,39)],by go_num,rfl,by omega,ho4,HF2.out,hq4⟩
      case measure=>simp [intOf];omega
     ·have hdb:(d == 39) = false:=beq_eq_false_iff_ne.2 hd9
      have HF2:=Hd (F2 rfl (fun h=>hd9 h.2));clear F1 F2;go_wp2_with fail
      go_roundw
      case rel=>exact ⟨k + 1,!b,o,by go_num,rfl,by omega,ho,HF2.out,hq⟩
      case measure=>simp [intOf];omega
    ·have hn1i:¬ (k:Int) + 1 < (n:Int):=by omega
     have HF2:=Hd (F2 rfl (fun h=>hn1 (by have:=HN.out;omega)));clear F1 F2;go_wp2_with fail
     go_roundw
     case rel=>exact ⟨k + 1,!b,o,by go_num,rfl,by omega,ho,HF2.out,hq⟩
     case measure=>simp [intOf];omega
   ·have hcb:(c == 39) = false:=beq_eq_false_iff_ne.2 h39
    clear F1 F2;cases b
    ·have G2:=HF.out.out hkl (by rw [<- HC.out];exact h39)
     have K1:=fun w=>meaning_any c w;rw [<- HC.out] at G2;obtain ⟨kc,hkc⟩:∃ kc,kc = kindC c:=⟨_,rfl⟩;rw [<- hkc] at G2 K1;have HK1:=Hd K1;have HF2:=Hd G2;clear hkc K1 G2;go_wp2_with fail
     refine (HK1.out _).mono ?_;rintro e w3 ⟨rfl,rfl⟩;go_wp2_with (at_builtin;refine Sg.push elG ho rfl _ _ rfl kc c (by rfl) (by rfl) hol hqs ?_)
     intro v' w4 ho4 hg4 hat4;have hq4:=hq.grown hg4 (fun j h=>(ho.lt j h).1);go_wp2_with fail
     go_roundw
     case rel=>exact ⟨k + 1,false,o ++ [(kc,c)],by go_num,rfl,by omega,ho4,HF2.out,hq4⟩
     case measure=>simp [intOf];omega
    ·have G2:=HF.out.in hkl (by rw [<- HC.out];exact h39)
     rw [<- HC.out] at G2;have HF2:=Hd G2;clear G2;go_wp2_with (at_builtin;refine Sg.push elG ho rfl _ _ rfl 0 c (by rfl) (by rfl) hol hqs ?_)
     intro v' w4 ho4 hg4 hat4;have hq4:=hq.grown hg4 (fun j h=>(ho.lt j h).1);go_wp2_with fail
     go_roundw
     case rel=>exact ⟨k + 1,true,o ++ [(0,c)],by go_num,rfl,by omega,ho4,HF2.out,hq4⟩
     case measure=>simp [intOf];omega
  ·have hke:k = cs.length:=by have:=HN.out;omega
   have hnlt:¬ (k:Int) < (n:Int):=by omega
   have hfin:=HF.out;rw [hke] at hfin;have HRF:=Hd (HR.out.trans hfin.fin);have hole:o.length <= s.size:=by have:=HF.out.2;omega
   clear hfin hke;cases b
   ·go_wp2_with fail
    refine (need_yes _).mono ?_;rintro e w3 ⟨rfl,rfl⟩;go_wp2_with fail
    go_ret
    exact ⟨hq2.trans hq,.inl ⟨_,_,HRF.out,rfl,ho.mono hq2.le,hole⟩⟩
   ·go_wp2_with fail
    refine (need_no _).mono ?_;rintro e w3 ⟨rfl,rfl⟩;go_wp2_with fail
    exact ⟨rfl,hq2.trans hq,.inr ⟨HRF.out,rfl⟩⟩
end Pg
end
section
open Go.RowKit
namespace Lo
open Um Cm Gm
theorem Q.bytes (w:World) (e:TypeId) (s:ByteArray):Q w (Lib.bytesWorld w e s) :=
 ⟨rfl,rfl,rfl,by rw [Lib.bytesWorld_size];omega,fun k hk=>Lib.bytesWorld_at_old w e s k hk⟩
theorem named_ok (s:ByteArray) (w:World) (h1:1 <= s.size) (h16:s.size <= 16) (hl:∀ b ∈ s.data.toList,(97 <= b.toNat /\ b.toNat <= 122) \/ (65 <= b.toNat /\ b.toNat <= 90) \/ b.toNat = 45) :
  Calls Tryz.prog 93 #[.string s] w fun e w'=>e = .returned (.bool true) /\ Q w w':=by
 obtain ⟨n,hn⟩:∃ n,n = s.size:=⟨_,rfl⟩;have h1i:(0:Int) < (n:Int):=by omega
 have h16i:(n:Int) <= 16:=by omega
 have hcv:=Lib.run_convert_string_bytes (P:=Tryz.prog) w 9 62 5 s (u:=.string) Tryz.underlying9 Tryz.underlying62 Tryz.underlying5;have HC:=Hd (show ∀ k,k < n -> ∃ b:Nat,((97 <= b /\ b <= 122) \/ (65 <= b /\ b <= 90) \/ b = 45) /\ (Lib.bytesWorld w 5 s).cell? ⟨w.heap.size,k,none⟩ = some (.int .u8 (b:Int)) from fun k hk=>by
  have hm:s.data.toList.getD k 0 ∈ s.data.toList:=by
   have hks:k < s.data.toList.length:=by rw [size_list];omega
   rw [List.getD_eq_getElem?_getD,List.getElem?_eq_getElem hks];exact List.getElem_mem _
  exact ⟨_,hl _ hm,Lib.bytesWorld_cell w 5 s k (by omega)⟩)
 have HQ:=Hd (Q.bytes w 5 s);have HLT:=Hd (show w.heap.size < (Lib.bytesWorld w 5 s).heap.size by rw [Lib.bytesWorld_size];omega);generalize Lib.bytesWorld w 5 s = z at *;generalize grownCap w s.size 0 5 = cp at *;have HN:=Hd hn;rw [<- hn] at hcv;generalize w.heap.size = g at *;clear hl h1 h16 hn;go_enter Tryz.func93,Tryz.ntmps93
 go_wp2_with fail
 go_loopw [9] (fun i wr=>∃ k:Nat,i = .int .i64 k /\ k <= n /\ z = wr) (fun i _=>n - (intOf i).toNat)
 case atStart=>exact ⟨0,rfl,by omega,rfl⟩
 case round =>
  obtain ⟨k,rfl,hk,rfl⟩:=hrel;by_cases hlt:k < n
  ·have hlti:(k:Int) < (n:Int):=by omega
   obtain ⟨b,hb,c1⟩:=HC.out k hlt;rcases hb with ⟨hb1,hb2⟩ | ⟨hb1,hb2⟩ | hb
   ·have hb1i:(97:Int) <= (b:Int):=by omega
    have hb2i:(b:Int) <= 122:=by omega
    go_wp2_with fail
    exact ⟨⟨k + 1,by go_num,by omega,(by first | trivial | rfl)⟩,by simp [intOf];omega⟩
   ·have hb1i:(65:Int) <= (b:Int):=by omega
    have hb2i:(b:Int) <= 90:=by omega
    have hb3i:¬ (97:Int) <= (b:Int):=by omega
    go_wp2_with fail
    exact ⟨⟨k + 1,by go_num,by omega,(by first | trivial | rfl)⟩,by simp [intOf];omega⟩
   ·subst hb
    go_wp2_with fail
    exact ⟨⟨k + 1,by go_num,by omega,(by first | trivial | rfl)⟩,by simp [intOf];omega⟩
  ·have hnlt:¬ (k:Int) < (n:Int):=by omega
   have hz1:(0:Int) < (s.size:Int):=by have:=HN.out;omega
   have hz2:(s.size:Int) <= 16:=by have:=HN.out;omega
   clear h1i h16i hcv;go_wp2_with fail
   go_ret
   exact ⟨rfl,HQ.out⟩
end Lo
end
end Go.Proofs.YteggfkbnnmpcjaaGreatDoor
