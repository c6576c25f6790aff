/- The document's own Atoms and Good of drafts (as in TrB), where there are no decimals. (and more) -/
import Derived.Test.YtghfdapfnoeanaaGreatDoorR00
import Derived.Test.YtghfdapfnoeanaaGreatDoorR02
import Derived.Test.YtghfdapfnoeanaaGreatDoorR01
import Derived.Test.YtghfdapfnoeanaaGreatDoorR04
import Derived.Test.YtghfdapfnoeanaaGreatDoorR03
import Derived.Test.YtghfdapfnoeanaaGreatDoorRows
import Derived.Test.YtghfdapfnoeanaaGreatDoorR06
import Derived.Test.YtghfdapfnoeanaaGreatDoorR07
import Derived.Deep.Cut
import Derived.Deep.DeepCutAuto
import Derived.Deep.RegionHeld
import Derived.Deep.RegionLaw
import Derived.Deep.QuietTactic
import Derived.BigQuiet
import Derived.Lib.ConvBytes
set_option linter.unusedVariables false
set_option linter.unusedSimpArgs false
namespace Go.Proofs.YtghfdapfnoeanaaGreatDoor
open Go.RowKit
namespace Tm
def LD (w:World) (B:Nat) (v:Value) (d:T):Prop:=∃ a1 c1 a2 c2,v = .agg #[.bool d.g,.slice a1 d.i.length c1,.bool d.s,.slice a2 d.f.length c2] ∧ Own w B (.slice a1 d.i.length c1) d.i ∧ Own w B (.slice a2 d.f.length c2) d.f
theorem LD.q {w w':World} {B:Nat} {v:Value} {d:T} (h:LD w B v d) (hq:Q w w'):LD w' B v d:=by
 obtain ⟨a1,c1,a2,c2,h0,h1,h2⟩:=h
 exact ⟨a1,c1,a2,c2,h0,h1.q hq,h2.q hq⟩
theorem LD.mono {w:World} {B B':Nat} {v:Value} {d:T} (h:LD w B v d) (hB:B' ≤ B):LD w B' v d:=by
 obtain ⟨a1,c1,a2,c2,h0,h1,h2⟩:=h
 exact ⟨a1,c1,a2,c2,h0,h1.mono hB,h2.mono hB⟩
theorem Own_past {w:World} {B g:Nat} {v:Value} {zs:List Int} {ty:TypeId} {l:List Value} (h:Own w B v zs) (hb:Bk w g ty l) (ht:ty ≠ 3) (k:Nat) (x:Value):Own (w.setCell ⟨g,k,none⟩ x) B v zs :=
 h.same fun b hv=>heap_setCell_other w ⟨g,k,none⟩ b x (by
  rintro rfl
  obtain ⟨cur,hc⟩:=h.cells _ hv
  unfold Bk at hb
  rw [hb] at hc
  simp at hc
  exact ht hc.2)
theorem Own_past4 {w:World} {B g:Nat} {v:Value} {zs:List Int} {ty:TypeId} {l:List Value} (h:Own w B v zs) (hb:Bk w g ty l) (ht:ty ≠ 3) (x0 x1 x2 x3:Value) :
  Own ((((w.setCell ⟨g,0,none⟩ x0).setCell ⟨g,1,none⟩ x1).setCell ⟨g,2,none⟩ x2).setCell ⟨g,3,none⟩ x3) B v zs :=
 Own_past (Own_past (Own_past (Own_past h hb ht 0 x0) (hb.set 0 _) ht 1 x1) ((hb.set 0 _).set 1 _) ht 2 x2) (((hb.set 0 _).set 1 _).set 2 _) ht 3 x3
def gdT (g s:Bool) (I F:List Int) (p q:Nat):T:=⟨g,Dm.gdL I p,s,if s = true then Dm.gdL F q else []⟩
theorem gdT_may (g s:Bool) (I F:List Int) (p q:Nat):may (gdT g s I F p q) = true:=by
 unfold may gdT
 dsimp only
 rw [(Dm.okB_iff _).2 (Dm.gdL_ok I p)]
 cases s
 ·rfl
 ·rw [if_pos rfl,(Dm.okB_iff _).2 (Dm.gdL_ok F q)];rfl
theorem gdT_len (g s:Bool) (I F:List Int) (p q:Nat):(gdT g s I F p q).i.length ≤ p ∧ (gdT g s I F p q).f.length ≤ q:=by
 unfold gdT
 dsimp only
 refine ⟨by rw [Dm.gdL_len];omega,?_⟩
 cases s
 ·exact Nat.zero_le _
 ·rw [if_pos rfl,Dm.gdL_len];omega
end Tm
namespace Tr
open Tm
theorem infoR:(Tryz.prog.info? 26).map (·.size) = some 4:=by kernel_rfl
theorem ret_d {fn:Func} {p:Tmp} (h:fn.results = #[.cell p 26]) {R:Ending → World → Prop} {a:Act} {w:World} {g:Nat} {l:List Value}
  (hl:l.length = 4) (hp:a.tmps.getD p undef = .pointer (some ⟨g,0,none⟩)) (hg:Bk w g 26 l) (hd:a.defers = []) (hR:R (.returned (.agg l.toArray)) w):bodyPost Tryz.prog fn R .ret a w :=
 bodyPost_ret (results_cell_row h a.tmps w g 26 l.toArray (0,0) _ hp hg Tryz.underlying26 rfl (by rw [infoR];simp [hl])) hd hR
set_option maxHeartbeats 1600000 in
theorem atoms_any (g s:Bool) (a1 a2:Option Addr) (n1 n2 c1 c2:Nat) (I F:List Int) (w:World) (hi:Lst w (.slice a1 n1 c1) I) (hf:Lst w (.slice a2 n2 c2) F) (k1:I.length = n1) (k2:F.length = n2) (l1:n1 ≤ 100000) (l2:n2 ≤ 100000) :
  Calls Tryz.prog 24 #[.agg #[.bool g,.slice a1 n1 c1,.bool s,.slice a2 n2 c2]] w fun e w'=>∃ a c,e = .returned (.slice a (n1 + (sep s).length + n2) c) ∧ Own w' (w.heap.size + 1) (.slice a (n1 + (sep s).length + n2) c) (I ++ sep s ++ F) ∧ Q w w':=by
 have HI:=Lib.hid (fun u (q:Q w u)=>hi.q q)
 have HF:=Lib.hid (fun u (q:Q w u)=>hf.q q)
 have HL:=Lib.hid (⟨k1,k2⟩:_ ∧ _)
 clear hi hf k1 k2
 obtain ⟨z,hz⟩:∃ y,y = w.alloc (.cells #[.bool g,.slice a1 n1 c1,.bool s,.slice a2 n2 c2] 26):=⟨_,rfl⟩
 have HQ:=Lib.hid (show Q w z by rw [hz];exact (Q.refl w).alloc _)
 have HB:=Lib.hid (show Bk z w.heap.size 26 [.bool g,.slice a1 n1 c1,.bool s,.slice a2 n2 c2] by rw [hz];exact Bk.new _ _ _)
 have HZ:=Lib.hid (show z.heap.size = w.heap.size + 1 by rw [hz];simp)
 have hol:=Own.nil z (w.heap.size + 1)
 have HBZ:=Lib.hid (Nat.le_of_eq HZ.out.symm)
 have HW:=Lib.hid (show ([]:List Int).length + I.length < 1099511627776 from by rw [HL.out.1];show 0 + _ < _;omega)
 have HIZ:=Lib.hid (HI.out z HQ.out)
 have x1:=HB.out.cell 1 rfl
 cases s
 ·go_enter Tryz.func24,Tryz.ntmps24
  go_upto_region 1 with fail
  rw [← hz]
  clear hz
  go_wp2_with (at_builtin;refine push_list hol HIZ.out rfl _ _ rfl (by rfl) (by rfl) HW.out HBZ.out ?_)
  intro v1 u1 ho1 hg1 hat1
  have HO1:=Lib.hid (show Own u1 (w.heap.size + 1) v1 I from ho1)
  have HQZ:=Lib.hid (show Q z u1 from (Q.refl z).grown hg1 (fun k hk=>by cases hk))
  clear ho1 hg1 hat1 x1 hol
  have x2:=(HB.out.q HQZ.out).cell 2 rfl
  have HO2:=Lib.hid (show Own u1 (w.heap.size + 1) v1 (I ++ []) from by rw [List.append_nil];exact HO1.out)
  have HQZ2:=HQZ
  have x3:=(HB.out.q HQZ2.out).cell 3 rfl
  have HFU:=Lib.hid (HF.out _ (HQ.out.trans HQZ2.out))
  have HW2:=Lib.hid (show (I ++ []).length + F.length < 1099511627776 from by rw [List.length_append,HL.out.1,HL.out.2];show _ + 0 + _ < _;omega)
  have HBU2:=Lib.hid (Nat.le_trans HBZ.out HQZ2.out.le)
  go_wp2_with (at_builtin;refine push_list HO2.out HFU.out rfl _ _ rfl (by rfl) (by rfl) HW2.out HBU2.out ?_)
  intro v3 u3 ho3 hg3 hat3
  have HO3:=Lib.hid ho3
  have HQZ3:=Lib.hid (show Q z u3 from HQZ2.out.grown hg3 (fun k hk=>by rw [HZ.out];exact (HO2.out.lt k hk).1))
  clear ho3 hg3 hat3 x3
  have hfin:Own u3 (w.heap.size + 1) v3 (I ++ sep false ++ F):=by simpa [sep] using HO3.out
  obtain ⟨ra,rc,hr,_,_⟩:=hfin.lst.form0 (n:=n1 + (sep false).length + n2) (by rw [List.length_append,List.length_append,HL.out.1,HL.out.2])
  subst hr
  have HFIN:=Lib.hid hfin
  clear hfin
  go_wp2_with fail
  go_ret
  exact ⟨ra,rc,rfl,HFIN.out,HQ.out.trans HQZ3.out⟩
 ·go_enter Tryz.func24,Tryz.ntmps24
  go_upto_region 1 with fail
  rw [← hz]
  clear hz
  go_wp2_with (at_builtin;refine push_list hol HIZ.out rfl _ _ rfl (by rfl) (by rfl) HW.out HBZ.out ?_)
  intro v1 u1 ho1 hg1 hat1
  have HO1:=Lib.hid (show Own u1 (w.heap.size + 1) v1 I from ho1)
  have HQZ:=Lib.hid (show Q z u1 from (Q.refl z).grown hg1 (fun k hk=>by cases hk))
  clear ho1 hg1 hat1 x1 hol
  have x2:=(HB.out.q HQZ.out).cell 2 rfl
  have HW1:=Lib.hid (show I.length < 1099511627776 from by rw [HL.out.1];omega)
  have HBU:=Lib.hid (Nat.le_trans HBZ.out HQZ.out.le)
  go_wp2_with (at_builtin;refine push_int HO1.out rfl _ _ rfl 10 (by rfl) (by rfl) HW1.out HBU.out ?_)
  intro v2 u2 ho2 hg2 hat2
  have HO2:=Lib.hid (show Own u2 (w.heap.size + 1) v2 (I ++ [10]) from ho2)
  have HQZ2:=Lib.hid (show Q z u2 from HQZ.out.grown hg2 (fun k hk=>by rw [HZ.out];exact (HO1.out.lt k hk).1))
  clear ho2 hg2 hat2 x2
  have x3:=(HB.out.q HQZ2.out).cell 3 rfl
  have HFU:=Lib.hid (HF.out _ (HQ.out.trans HQZ2.out))
  have HW2:=Lib.hid (show (I ++ [10]).length + F.length < 1099511627776 from by rw [List.length_append,HL.out.1,HL.out.2];show _ + 1 + _ < _;omega)
  have HBU2:=Lib.hid (Nat.le_trans HBZ.out HQZ2.out.le)
  go_wp2_with (at_builtin;refine push_list HO2.out HFU.out rfl _ _ rfl (by rfl) (by rfl) HW2.out HBU2.out ?_)
  intro v3 u3 ho3 hg3 hat3
  have HO3:=Lib.hid ho3
  have HQZ3:=Lib.hid (show Q z u3 from HQZ2.out.grown hg3 (fun k hk=>by rw [HZ.out];exact (HO2.out.lt k hk).1))
  clear ho3 hg3 hat3 x3
  have hfin:Own u3 (w.heap.size + 1) v3 (I ++ sep true ++ F):=by simpa [sep] using HO3.out
  obtain ⟨ra,rc,hr,_,_⟩:=hfin.lst.form0 (n:=n1 + (sep true).length + n2) (by rw [List.length_append,List.length_append,HL.out.1,HL.out.2])
  subst hr
  have HFIN:=Lib.hid hfin
  clear hfin
  go_wp2_with fail
  go_ret
  exact ⟨ra,rc,rfl,HFIN.out,HQ.out.trans HQZ3.out⟩
set_option maxRecDepth 100000 in
set_option maxHeartbeats 2000000 in
theorem good_any (g s:Bool) (a1 a2:Option Addr) (n1 n2 c1 c2:Nat) (I F:List Int) (w:World) (hi:Lst w (.slice a1 n1 c1) I) (hf:Lst w (.slice a2 n2 c2) F) (k1:I.length = n1) (k2:F.length = n2) (l1:n1 ≤ 9223372036854775807) (l2:n2 ≤ 9223372036854775807) (bi:∀ n ∈ I,-9223372036854775808 ≤ n ∧ n ≤ 9223372036854775807) (bf:∀ n ∈ F,-9223372036854775808 ≤ n ∧ n ≤ 9223372036854775807) (p q:Nat) (hp:p ≤ 1000) (hq:q ≤ 1000) :
  Calls Tryz.prog 31 #[.agg #[.bool g,.slice a1 n1 c1,.bool s,.slice a2 n2 c2],.int .i64 p,.int .i64 q] w fun e w'=>∃ x,e = .returned x ∧ LD w' (w.heap.size + 2) x (gdT g s I F p q) ∧ Q w w':=by
 have HG1:=Lib.hid (fun u (qq:Q w u)=>Dr.good_any _ I p u (hi.q qq) (by omega) (by omega) bi)
 have HG2:=Lib.hid (fun u (qq:Q w u)=>Dr.good_any _ F q u (hf.q qq) (by omega) (by omega) bf)
 have hgd:gdT g s I F p q = ⟨g,Dm.gdL I p,s,if s = true then Dm.gdL F q else []⟩:=rfl
 obtain ⟨G,hG⟩:∃ G,G = gdT g s I F p q:=⟨_,rfl⟩
 rw [← hG] at hgd ⊢
 generalize Dm.gdL I p = I2 at *
 generalize Dm.gdL F q = F2 at *
 obtain ⟨m1,hm1⟩:∃ m1,m1 = I2.length:=⟨_,rfl⟩
 obtain ⟨m2,hm2⟩:∃ m2,m2 = F2.length:=⟨_,rfl⟩
 have HG:=Lib.hid hgd
 have HM:=Lib.hid (⟨hm1.symm,hm2.symm⟩:_ ∧ _)
 clear hi hf k1 k2 bi bf hgd hG hm1 hm2
 obtain ⟨y,hy⟩:∃ y,y = w.alloc (.cells #[.bool g,.slice a1 n1 c1,.bool s,.slice a2 n2 c2] 26):=⟨_,rfl⟩
 have hqy:Q w y:=by rw [hy];exact (Q.refl w).alloc _
 have hby:Bk y w.heap.size 26 [.bool g,.slice a1 n1 c1,.bool s,.slice a2 n2 c2]:=by rw [hy];exact Bk.new _ _ _
 have hsy:y.heap.size = w.heap.size + 1:=by rw [hy];simp
 obtain ⟨z,hz⟩:∃ z,z = y.alloc (.cells #[.bool false,.slice none 0 0,.bool false,.slice none 0 0] 26):=⟨_,rfl⟩
 have hqz:Q y z:=by rw [hz];exact (Q.refl y).alloc _
 have HQ:=Lib.hid (hqy.trans hqz)
 have HB:=Lib.hid (hby.q hqz)
 have HD:=Lib.hid (show Bk z (w.heap.size + 1) 26 [.bool false,.slice none 0 0,.bool false,.slice none 0 0] by rw [hz,← hsy];exact Bk.new _ _ _)
 have HZ:=Lib.hid (show z.heap.size = w.heap.size + 2 by rw [hz];simp [hsy])
 have HWD:=Lib.hid (Nat.le_succ w.heap.size)
 have hz2:z = (w.alloc (.cells #[.bool g,.slice a1 n1 c1,.bool s,.slice a2 n2 c2] 26)).alloc (.cells #[.bool false,.slice none 0 0,.bool false,.slice none 0 0] 26):=by rw [hz,hy]
 clear hqy hby hsy hqz hz hy
 go_enter Tryz.func31,Tryz.ntmps31
 go_upto_region 1 with fail
 rw [← hz2]
 clear hz2
 go_cut [7] from 8 (fun p wx=>∃ b ia ic,p = .pointer (some ⟨b,0,none⟩) ∧ z.heap.size ≤ b ∧ Bk wx b 26 [.bool g,.slice ia m1 ic,.bool s,.slice none 0 0] ∧ Own wx z.heap.size (.slice ia m1 ic) I2 ∧ Q z wx)
 case first =>
  refine wp_region_held_drew (S:=fun u=>Q z u) (by kernel_rfl) (by exact (Q.refl z).drew) (fun hHeld=>?_)
  have hS:Q z z.drew:=hHeld
  clear hHeld
  have hq:Q z z.drew:=(Q.refl _).drew
  clear hq
  generalize z.drew = yR1x0 at *
  change wpAnyH _ _ _ _ _ _ #[ff,ff,ff,ff,ff,ff,ff,ff,ff,ff,ff] _ _
  refine wpAnyH_take (i:=0) (v:=?vR1x1) (by (try simp only [gA,gB,gC]);rfl) (by kernel_rfl) (by kernel_rfl) (by kernel_rfl) (by exact fun _ _ _ h=>h) (Or.inl ⟨by first | kernel_rfl | rfl,?hyR1x1⟩) (by exact hS) ?rsR1x1
  case hyR1x1=>(intro uz hSw;(try dsimp only at hSw);go_simp;try with_reducible rfl)
  try simp only [Act.put,sA,sB,sC]
  change wpAnyH _ _ _ _ _ _ #[tt,ff,ff,ff,ff,ff,ff,ff,ff,ff,ff] _ _
  refine wpAnyH_take (i:=1) (v:=?vR1x2) (by (try simp only [gA,gB,gC]);rfl) (by kernel_rfl) (by kernel_rfl) (by kernel_rfl) (by exact fun _ _ _ h=>h) (Or.inl ⟨by first | kernel_rfl | rfl,?hyR1x2⟩) (by exact hS) ?rsR1x2
  case hyR1x2=>(intro uz hSw;(try dsimp only at hSw);have hxx:=HB.out.q hSw;have d0:=hxx.cell 0 rfl;clear hxx;go_simp;try with_reducible rfl)
  try simp only [Act.put,sA,sB,sC]
  change wpAnyH _ _ _ _ _ _ #[tt,tt,ff,ff,ff,ff,ff,ff,ff,ff,ff] _ _
  refine wpAnyH_take (i:=2) (v:=?vR1x3) (by (try simp only [gA,gB,gC]);rfl) (by kernel_rfl) (by kernel_rfl) (by kernel_rfl) (by exact fun _ _ _ h=>h) (Or.inl ⟨by first | kernel_rfl | rfl,?hyR1x3⟩) (by exact hS) ?rsR1x3
  case hyR1x3=>(intro uz hSw;(try dsimp only at hSw);go_simp;try with_reducible rfl)
  try simp only [Act.put,sA,sB,sC]
  change wpAnyH _ _ _ _ _ _ #[tt,tt,tt,ff,ff,ff,ff,ff,ff,ff,ff] _ _
  refine wpAnyH_take (i:=3) (v:=?vR1x4) (by (try simp only [gA,gB,gC]);rfl) (by kernel_rfl) (by kernel_rfl) (by kernel_rfl) (by exact fun _ _ _ h=>h) (Or.inl ⟨by first | kernel_rfl | rfl,?hyR1x4⟩) (by exact hS) ?rsR1x4
  case hyR1x4=>(intro uz hSw;(try dsimp only at hSw);have hxx:=HB.out.q hSw;have d0:=hxx.cell 1 rfl;clear hxx;go_simp;try with_reducible rfl)
  try simp only [Act.put,sA,sB,sC]
  change wpAnyH _ _ _ _ _ _ #[tt,tt,tt,tt,ff,ff,ff,ff,ff,ff,ff] _ _
  refine wpAnyH_take (i:=4) (v:=?vR1x5) (by (try simp only [gA,gB,gC]);rfl) (by kernel_rfl) (by kernel_rfl) (by kernel_rfl) (by exact fun _ _ _ h=>h) (Or.inl ⟨by first | kernel_rfl | rfl,?hyR1x5⟩) (by exact hS) ?rsR1x5
  case hyR1x5=>(intro uz hSw;(try dsimp only at hSw);go_simp;try with_reducible rfl)
  try simp only [Act.put,sA,sB,sC]
  change wpAnyH _ _ _ _ _ _ #[tt,tt,tt,tt,tt,ff,ff,ff,ff,ff,ff] _ _
  refine wpAnyH_take (i:=6) (v:=?vR1x6) (by (try simp only [gA,gB,gC]);rfl) (by kernel_rfl) (by kernel_rfl) (by kernel_rfl) (by exact fun _ _ _ h=>h) (Or.inl ⟨by first | kernel_rfl | rfl,?hyR1x6⟩) (by exact hS) ?rsR1x6
  case hyR1x6=>(intro uz hSw;(try dsimp only at hSw);go_simp;try with_reducible rfl)
  try simp only [Act.put,sA,sB,sC]
  change wpAnyH _ _ _ _ _ _ #[tt,tt,tt,tt,tt,ff,tt,ff,ff,ff,ff] _ _
  refine wpAnyH_take (i:=7) (v:=?vR1x7) (by (try simp only [gA,gB,gC]);rfl) (by kernel_rfl) (by kernel_rfl) (by kernel_rfl) (by exact fun _ _ _ h=>h) (Or.inl ⟨by first | kernel_rfl | rfl,?hyR1x7⟩) (by exact hS) ?rsR1x7
  case hyR1x7=>(intro uz hSw;(try dsimp only at hSw);have hxx:=HB.out.q hSw;have d0:=hxx.cell 2 rfl;clear hxx;go_simp;try with_reducible rfl)
  try simp only [Act.put,sA,sB,sC]
  change wpAnyH _ _ _ _ _ _ #[tt,tt,tt,tt,tt,ff,tt,tt,ff,ff,ff] _ _
  refine wpAnyH_ready (rs:=[5,9]) (by kernel_rfl) (by simp) ?_
  refine (AllReadyH.cons (by (try simp only [gA,gB,gC]);rfl) (fun K hK=>?_) (AllReadyH.cons (by (try simp only [gA,gB,gC]);rfl) (fun K hK=>?_) AllReadyH.nil))
  ·go_simp
   refine (HG1.out _ (HQ.out.trans hS)).mono ?_
   rintro e yR1x8 ⟨xo,rfl,hz0,hq⟩
   obtain ⟨ia,ic,rfl,_,_⟩:=hz0.lst.form0 HM.out.1
   have HI7:=Lib.hid (hz0.mono hS.le)
   clear hz0
   try (go_wp2_with fail)
   have hS2:=Q.trans hS hq
   refine hK.out _ _ (by exact hS2) (fun hHeld=>?_)
   clear hK K hHeld hS hq
   have hS:=hS2
   clear hS2
   try simp only [Act.put,sA,sB,sC]
   change wpAnyH _ _ _ _ _ _ #[tt,tt,tt,tt,tt,tt,tt,tt,ff,ff,ff] _ _
   refine wpAnyH_take (i:=8) (v:=?vR1x9) (by (try simp only [gA,gB,gC]);rfl) (by kernel_rfl) (by kernel_rfl) (by kernel_rfl) (by exact fun _ _ _ h=>h) (Or.inl ⟨by first | kernel_rfl | rfl,?hyR1x9⟩) (by exact hS) ?rsR1x9
   case hyR1x9=>(intro uz hSw;(try dsimp only at hSw);go_simp;try with_reducible rfl)
   try simp only [Act.put,sA,sB,sC]
   change wpAnyH _ _ _ _ _ _ #[tt,tt,tt,tt,tt,tt,tt,tt,tt,ff,ff] _ _
   refine wpAnyH_ready (rs:=[9]) (by kernel_rfl) (by simp) ?_
   refine (AllReadyH.cons (by (try simp only [gA,gB,gC]);rfl) (fun K hK=>?_) AllReadyH.nil)
   go_simp
   have hq:=(Q.refl yR1x8).alloc (.cells #[.bool false,.slice none 0 0,.bool false,.slice none 0 0] 26)
   have HBX:=Lib.hid (Bk.new yR1x8 26 [.bool false,.slice none 0 0,.bool false,.slice none 0 0])
   have HW_bX:=Lib.hid (Q.le hS)
   have HI7:=Lib.hid (Own.q HI7.out hq)
   have hS2:=Q.trans hS hq
   refine hK.out _ _ (by exact hS2) (fun hHeld=>?_)
   clear hK K hHeld hS hq
   have hS:=hS2
   clear hS2
   generalize yR1x8.alloc (.cells #[.bool false,.slice none 0 0,.bool false,.slice none 0 0] 26) = yR1x10 at *
   generalize yR1x8.heap.size = bX at *
   try simp only [Act.put,sA,sB,sC]
   change wpAnyH _ _ _ _ _ _ #[tt,tt,tt,tt,tt,tt,tt,tt,tt,tt,ff] _ _
   refine wpAnyH_ready (rs:=[10]) (by kernel_rfl) (by simp) ?_
   refine (AllReadyH.cons (by (try simp only [gA,gB,gC]);rfl) (fun K hK=>?_) AllReadyH.nil)
   have b0:=HBX.out.cell 0 rfl
   have f0:=HBX.out.free 0
   have b1:=HBX.out.cell 1 rfl
   have f1:=HBX.out.free 1
   have b2:=HBX.out.cell 2 rfl
   have f2:=HBX.out.free 2
   have b3:=HBX.out.cell 3 rfl
   have f3:=HBX.out.free 3
   go_simp
   have hS2:=(Q.setCell (Q.setCell (Q.setCell (Q.setCell hS (ad:=⟨bX,0,none⟩) HW_bX.out (.bool g)) (ad:=⟨bX,1,none⟩) HW_bX.out (.slice ia m1 ic)) (ad:=⟨bX,2,none⟩) HW_bX.out (.bool s)) (ad:=⟨bX,3,none⟩) HW_bX.out (.slice none 0 0))
   have HE:=Lib.hid ((((HBX.out.set 0 (.bool g)).set 1 (.slice ia m1 ic)).set 2 (.bool s)).set 3 (.slice none 0 0))
   replace HI7:=Lib.hid (Own_past4 HI7.out HBX.out (by decide) (.bool g) (.slice ia m1 ic) (.bool s) (.slice none 0 0))
   refine hK.out _ _ (by exact hS2) (fun hHeld=>?_)
   clear hK K hHeld hS
   have hS:=hS2
   clear hS2 b0 f0 b1 f1 b2 f2 b3 f3
   generalize ((((yR1x10.setCell ⟨bX,0,none⟩ (.bool g)).setCell ⟨bX,1,none⟩ (.slice ia m1 ic)).setCell ⟨bX,2,none⟩ (.bool s)).setCell ⟨bX,3,none⟩ (.slice none 0 0)) = yR1x11 at *
   try simp only [Act.put,sA,sB,sC]
   change wpAnyH _ _ _ _ _ _ #[tt,tt,tt,tt,tt,tt,tt,tt,tt,tt,tt] _ _
   refine wpAnyH_done (by kernel_rfl) ?_ _
   go_wp2_with fail
   go_meet
   exact ⟨bX,ia,ic,rfl,HW_bX.out,HE.out,HI7.out,hS⟩
  ·go_simp
   have hq:=(Q.refl yR1x0).alloc (.cells #[.bool false,.slice none 0 0,.bool false,.slice none 0 0] 26)
   have HBX:=Lib.hid (Bk.new yR1x0 26 [.bool false,.slice none 0 0,.bool false,.slice none 0 0])
   have HW_bX:=Lib.hid (Q.le hS)
   have hS2:=Q.trans hS hq
   refine hK.out _ _ (by exact hS2) (fun hHeld=>?_)
   clear hK K hHeld hS hq
   have hS:=hS2
   clear hS2
   generalize yR1x0.alloc (.cells #[.bool false,.slice none 0 0,.bool false,.slice none 0 0] 26) = yR1x12 at *
   generalize yR1x0.heap.size = bX at *
   try simp only [Act.put,sA,sB,sC]
   change wpAnyH _ _ _ _ _ _ #[tt,tt,tt,tt,tt,ff,tt,tt,ff,tt,ff] _ _
   refine wpAnyH_ready (rs:=[5]) (by kernel_rfl) (by simp) ?_
   refine (AllReadyH.cons (by (try simp only [gA,gB,gC]);rfl) (fun K hK=>?_) AllReadyH.nil)
   go_simp
   refine (HG1.out _ (HQ.out.trans hS)).mono ?_
   rintro e yR1x13 ⟨xo,rfl,hz0,hq⟩
   obtain ⟨ia,ic,rfl,_,_⟩:=hz0.lst.form0 HM.out.1
   have HI7:=Lib.hid (hz0.mono hS.le)
   clear hz0
   try (go_wp2_with fail)
   have HBX:=Lib.hid (Bk.q HBX.out hq)
   have hS2:=Q.trans hS hq
   refine hK.out _ _ (by exact hS2) (fun hHeld=>?_)
   clear hK K hHeld hS hq
   have hS:=hS2
   clear hS2
   try simp only [Act.put,sA,sB,sC]
   change wpAnyH _ _ _ _ _ _ #[tt,tt,tt,tt,tt,tt,tt,tt,ff,tt,ff] _ _
   refine wpAnyH_take (i:=8) (v:=?vR1x14) (by (try simp only [gA,gB,gC]);rfl) (by kernel_rfl) (by kernel_rfl) (by kernel_rfl) (by exact fun _ _ _ h=>h) (Or.inl ⟨by first | kernel_rfl | rfl,?hyR1x14⟩) (by exact hS) ?rsR1x14
   case hyR1x14=>(intro uz hSw;(try dsimp only at hSw);go_simp;try with_reducible rfl)
   try simp only [Act.put,sA,sB,sC]
   change wpAnyH _ _ _ _ _ _ #[tt,tt,tt,tt,tt,tt,tt,tt,tt,tt,ff] _ _
   refine wpAnyH_ready (rs:=[10]) (by kernel_rfl) (by simp) ?_
   refine (AllReadyH.cons (by (try simp only [gA,gB,gC]);rfl) (fun K hK=>?_) AllReadyH.nil)
   have b0:=HBX.out.cell 0 rfl
   have f0:=HBX.out.free 0
   have b1:=HBX.out.cell 1 rfl
   have f1:=HBX.out.free 1
   have b2:=HBX.out.cell 2 rfl
   have f2:=HBX.out.free 2
   have b3:=HBX.out.cell 3 rfl
   have f3:=HBX.out.free 3
   go_simp
   have hS2:=(Q.setCell (Q.setCell (Q.setCell (Q.setCell hS (ad:=⟨bX,0,none⟩) HW_bX.out (.bool g)) (ad:=⟨bX,1,none⟩) HW_bX.out (.slice ia m1 ic)) (ad:=⟨bX,2,none⟩) HW_bX.out (.bool s)) (ad:=⟨bX,3,none⟩) HW_bX.out (.slice none 0 0))
   have HE:=Lib.hid ((((HBX.out.set 0 (.bool g)).set 1 (.slice ia m1 ic)).set 2 (.bool s)).set 3 (.slice none 0 0))
   replace HI7:=Lib.hid (Own_past4 HI7.out HBX.out (by decide) (.bool g) (.slice ia m1 ic) (.bool s) (.slice none 0 0))
   refine hK.out _ _ (by exact hS2) (fun hHeld=>?_)
   clear hK K hHeld hS
   have hS:=hS2
   clear hS2 b0 f0 b1 f1 b2 f2 b3 f3
   generalize ((((yR1x13.setCell ⟨bX,0,none⟩ (.bool g)).setCell ⟨bX,1,none⟩ (.slice ia m1 ic)).setCell ⟨bX,2,none⟩ (.bool s)).setCell ⟨bX,3,none⟩ (.slice none 0 0)) = yR1x15 at *
   try simp only [Act.put,sA,sB,sC]
   change wpAnyH _ _ _ _ _ _ #[tt,tt,tt,tt,tt,tt,tt,tt,tt,tt,tt] _ _
   refine wpAnyH_done (by kernel_rfl) ?_ _
   go_wp2_with fail
   go_meet
   exact ⟨bX,ia,ic,rfl,HW_bX.out,HE.out,HI7.out,hS⟩
 case rest =>
  obtain ⟨b,ia,ic,rfl,hbu,hbk,hi7,hq⟩:=hcut
  obtain ⟨u7,hu7⟩:∃ x,x = wc:=⟨_,rfl⟩
  subst hu7
  have HB7:=Lib.hid (HB.out.q hq)
  have HD7:=Lib.hid (HD.out.q hq)
  have HQ7:=Lib.hid (HQ.out.trans hq)
  have HBU:=Lib.hid hbu
  have HWX:=Lib.hid (Nat.le_trans HQ.out.le hbu)
  have HNX:=Lib.hid (show b ≠ w.heap.size + 1 by have:=HZ.out;omega)
  have HZ7:=Lib.hid hq.le
  have HK7:=Lib.hid hbk
  have HI7:=Lib.hid hi7
  clear hbu hbk hi7 hq HD HB
  have x2:=HB7.out.cell 2 rfl
  have x3:=HB7.out.cell 3 rfl
  cases s
  ·have y0:=HK7.out.cell 0 rfl
   have g0:=HK7.out.free 0
   have y1:=HK7.out.cell 1 rfl
   have g1:=HK7.out.free 1
   have y2:=HK7.out.cell 2 rfl
   have g2:=HK7.out.free 2
   have y3:=HK7.out.cell 3 rfl
   have g3:=HK7.out.free 3
   have b0:=HD7.out.cell 0 rfl
   have f0:=HD7.out.free 0
   have b1:=HD7.out.cell 1 rfl
   have f1:=HD7.out.free 1
   have b2:=HD7.out.cell 2 rfl
   have f2:=HD7.out.free 2
   have b3:=HD7.out.cell 3 rfl
   have f3:=HD7.out.free 3
   go_wp2_with fail
   have hz1:=Own_past4 HI7.out HD7.out (by decide) (.bool g) (.slice ia m1 ic) (.bool false) (.slice none 0 0)
   rw [HZ.out] at hz1
   refine ret_d rfl rfl rfl ((((HD7.out.set 0 _).set 1 _).set 2 _).set 3 _) rfl ⟨_,rfl,?_,Q.setCell (Q.setCell (Q.setCell (Q.setCell HQ7.out HWD.out _) HWD.out _) HWD.out _) HWD.out _⟩
   rw [HG.out]
   exact ⟨ia,ic,none,0,by dsimp only;rw [HM.out.1];rfl,by dsimp only;rw [HM.out.1];exact hz1,Own.nil _ _⟩
  ·go_wp2_with fail
   refine (HG2.out _ HQ7.out).mono ?_
   rintro e u8 ⟨x8,rfl,ho8,hq⟩
   obtain ⟨fa,fc,rfl,_,_⟩:=ho8.lst.form0 HM.out.2
   have hk:=HK7.out.q hq
   have y3:=hk.cell 3 rfl
   have g3:=hk.free 3
   have HK9:=Lib.hid (hk.set 3 (.slice fa m2 fc))
   have HI9:=Lib.hid (Own_past (HI7.out.q hq) hk (by decide) 3 (.slice fa m2 fc))
   have HF9:=Lib.hid (Own_past (ho8.mono HZ7.out) hk (by decide) 3 (.slice fa m2 fc))
   have HD9:=Lib.hid ((HD7.out.q hq).past (g:=b) (i:=3) HNX.out (.slice fa m2 fc))
   have HQ9:=Lib.hid (Q.setCell (HQ7.out.trans hq) (ad:=⟨b,3,none⟩) HWX.out (.slice fa m2 fc))
   obtain ⟨u9,hu9⟩:∃ u,u = u8.setCell ⟨b,3,none⟩ (.slice fa m2 fc):=⟨_,rfl⟩
   rw [← hu9] at HK9 HI9 HF9 HD9 HQ9
   clear hk ho8 hq HK7 HI7 HD7 HQ7 x2 x3
   go_upto_region 4 with fail
   rw [← hu9]
   clear hu9 y3 g3
   have y0:=HK9.out.cell 0 rfl
   have g0:=HK9.out.free 0
   have y1:=HK9.out.cell 1 rfl
   have g1:=HK9.out.free 1
   have y2:=HK9.out.cell 2 rfl
   have g2:=HK9.out.free 2
   have y3:=HK9.out.cell 3 rfl
   have g3:=HK9.out.free 3
   have b0:=HD9.out.cell 0 rfl
   have f0:=HD9.out.free 0
   have b1:=HD9.out.cell 1 rfl
   have f1:=HD9.out.free 1
   have b2:=HD9.out.cell 2 rfl
   have f2:=HD9.out.free 2
   have b3:=HD9.out.cell 3 rfl
   have f3:=HD9.out.free 3
   go_wp2_with fail
   have hz1:=Own_past4 HI9.out HD9.out (by decide) (.bool g) (.slice ia m1 ic) (.bool true) (.slice fa m2 fc)
   rw [HZ.out] at hz1
   have hz2:=Own_past4 HF9.out HD9.out (by decide) (.bool g) (.slice ia m1 ic) (.bool true) (.slice fa m2 fc)
   rw [HZ.out] at hz2
   refine ret_d rfl rfl rfl ((((HD9.out.set 0 _).set 1 _).set 2 _).set 3 _) rfl ⟨_,rfl,?_,Q.setCell (Q.setCell (Q.setCell (Q.setCell HQ9.out HWD.out _) HWD.out _) HWD.out _) HWD.out _⟩
   rw [HG.out]
   exact ⟨ia,ic,fa,fc,by dsimp only;rw [if_pos trivial,HM.out.1,HM.out.2];rfl,by dsimp only;rw [HM.out.1];exact hz1,by dsimp only;rw [if_pos trivial,HM.out.2];exact hz2⟩
end Tr
end Go.Proofs.YtghfdapfnoeanaaGreatDoor
namespace Go.Proofs.YtghfdapfnoeanaaGreatDoor
open Go.RowKit
namespace Lo
open Um Cm Gm
theorem Q.bytes (w:World) (e:TypeId) (s:ByteArray):Q w (Lib.bytesWorld w e s) :=
 ⟨rfl,rfl,rfl,by rw [Lib.bytesWorld_size];omega,fun k hk=>Lib.bytesWorld_at_old w e s k hk⟩
set_option maxHeartbeats 2000000 in
theorem named_ok (s:ByteArray) (w:World) (h1:1 ≤ s.size) (h16:s.size ≤ 16) (hl:∀ b ∈ s.data.toList,(97 ≤ b.toNat ∧ b.toNat ≤ 122) ∨ (65 ≤ b.toNat ∧ b.toNat ≤ 90) ∨ b.toNat = 45) :
  Calls Tryz.prog 74 #[.string s] w fun e w'=>e = .returned (.bool true) ∧ Q w w':=by
 obtain ⟨n,hn⟩:∃ n,n = s.size:=⟨_,rfl⟩
 have h1i:(0:Int) < (n:Int):=by omega
 have h16i:(n:Int) ≤ 16:=by omega
 have hcv:=Lib.run_convert_string_bytes (P:=Tryz.prog) w 9 156 5 s (u:=.string) Tryz.underlying9 Tryz.underlying156 Tryz.underlying5
 have HC:=Lib.hid (show ∀ k,k < n → ∃ b:Nat,((97 ≤ b ∧ b ≤ 122) ∨ (65 ≤ b ∧ b ≤ 90) ∨ b = 45) ∧ (Lib.bytesWorld w 5 s).cell? ⟨w.heap.size,k,none⟩ = some (.int .u8 (b:Int)) from fun k hk=>by
  have hm:s.data.toList.getD k 0 ∈ s.data.toList:=by
   have hks:k < s.data.toList.length:=by rw [size_list];omega
   rw [List.getD_eq_getElem?_getD,List.getElem?_eq_getElem hks]
   exact List.getElem_mem _
  exact ⟨_,hl _ hm,Lib.bytesWorld_cell w 5 s k (by omega)⟩)
 have HQ:=Lib.hid (Q.bytes w 5 s)
 have HLT:=Lib.hid (show w.heap.size < (Lib.bytesWorld w 5 s).heap.size by rw [Lib.bytesWorld_size];omega)
 generalize Lib.bytesWorld w 5 s = z at *
 generalize grownCap w s.size 0 5 = cp at *
 have HN:=Lib.hid hn
 rw [← hn] at hcv
 generalize w.heap.size = g at *
 clear hl h1 h16 hn
 go_enter Tryz.func74,Tryz.ntmps74
 go_wp2_with fail
 go_loopw [9] (fun i wr=>∃ k:Nat,i = .int .i64 k ∧ k ≤ n ∧ z = wr) (fun i _=>n - (intOf i).toNat)
 case atStart=>exact ⟨0,rfl,by omega,rfl⟩
 case round =>
  obtain ⟨k,rfl,hk,rfl⟩:=hrel
  by_cases hlt:k < n
  ·have hlti:(k:Int) < (n:Int):=by omega
   obtain ⟨b,hb,c1⟩:=HC.out k hlt
   rcases hb with ⟨hb1,hb2⟩ | ⟨hb1,hb2⟩ | hb
   ·have hb1i:(97:Int) ≤ (b:Int):=by omega
    have hb2i:(b:Int) ≤ 122:=by omega
    go_wp2_with fail
    exact ⟨⟨k + 1,by go_num,by omega,(by first | trivial | rfl)⟩,by simp [intOf];omega⟩
   ·have hb1i:(65:Int) ≤ (b:Int):=by omega
    have hb2i:(b:Int) ≤ 90:=by omega
    have hb3i:¬ (97:Int) ≤ (b:Int):=by omega
    go_wp2_with fail
    exact ⟨⟨k + 1,by go_num,by omega,(by first | trivial | rfl)⟩,by simp [intOf];omega⟩
   ·subst hb
    go_wp2_with fail
    exact ⟨⟨k + 1,by go_num,by omega,(by first | trivial | rfl)⟩,by simp [intOf];omega⟩
  ·have hnlt:¬ (k:Int) < (n:Int):=by omega
   have hz1:(0:Int) < (s.size:Int):=by have:=HN.out;omega
   have hz2:(s.size:Int) ≤ 16:=by have:=HN.out;omega
   clear h1i h16i hcv
   go_wp2_with fail
   go_ret
   exact ⟨rfl,HQ.out⟩
end Lo
end Go.Proofs.YtghfdapfnoeanaaGreatDoor
namespace Go.Proofs.YtghfdapfnoeanaaGreatDoor
namespace Im
def affE (r:Lm.Rec) (p:Pb.E):E:=if p.1 = true then (1,Lm.bs r.min,-1) else (0,Lm.bs p.2,-1)
def affI (r:Lm.Rec) (l:List Pb.E):List E:=l.map (affE r)
theorem affI_len (r:Lm.Rec) (l:List Pb.E):(affI r l).length = l.length:=List.length_map _
theorem affI_take (r:Lm.Rec) (l:List Pb.E) (k:Nat) (hk:k < l.length):affI r (l.take (k + 1)) = affI r (l.take k) ++ [affE r (l.getD k (false,[]))]:=by
 unfold affI
 rw [List.take_add_one,List.getElem?_eq_getElem hk,List.map_append,List.getD_eq_getElem?_getD,List.getElem?_eq_getElem hk]
 rfl
def grpI (r:Lm.Rec) (l p s:Int):List E:=if endB l p s = true then [(3,Lm.bs r.grp,-1)] else []
theorem grpI_len (r:Lm.Rec) (l p s:Int):(grpI r l p s).length ≤ 1:=by unfold grpI;split <;> simp
def dgE (r:Lm.Rec) (x:Int) (i:Int):E:=(2,Lm.dgt r x.toNat,i)
def whI (r:Lm.Rec) (p s:Int) (I:List Int):Nat → List E
 | 0=>[]
 | k + 1=>whI r p s I k ++ (dgE r (I.getD k 0) k :: grpI r ((I.length:Int) - 1 - k) p s)
theorem whI_zero (r:Lm.Rec) (p s:Int) (I:List Int):whI r p s I 0 = []:=rfl
theorem whI_succ (r:Lm.Rec) (p s:Int) (I:List Int) (k:Nat):whI r p s I (k + 1) = whI r p s I k ++ (dgE r (I.getD k 0) k :: grpI r ((I.length:Int) - 1 - k) p s):=rfl
theorem whI_len (r:Lm.Rec) (p s:Int) (I:List Int) (k:Nat):(whI r p s I k).length ≤ 2 * k:=by
 induction k with
 | zero=>simp [whI]
 | succ k ih =>
  rw [whI_succ,List.length_append,List.length_cons]
  have:=grpI_len r ((I.length:Int) - 1 - k) p s
  omega
def reI (r:Lm.Rec) (n:Nat) (F:List Int):Nat → List E
 | 0=>[(4,Lm.bs r.dec,(n:Int))]
 | k + 1=>reI r n F k ++ [dgE r (F.getD k 0) ((n:Int) + ((k + 1:Nat):Int))]
theorem reI_zero (r:Lm.Rec) (n:Nat) (F:List Int):reI r n F 0 = [(4,Lm.bs r.dec,(n:Int))]:=rfl
theorem reI_succ (r:Lm.Rec) (n:Nat) (F:List Int) (k:Nat):reI r n F (k + 1) = reI r n F k ++ [dgE r (F.getD k 0) ((n:Int) + ((k + 1:Nat):Int))]:=rfl
theorem reI_len (r:Lm.Rec) (n:Nat) (F:List Int) (k:Nat):(reI r n F k).length = k + 1:=by
 induction k with
 | zero=>rfl
 | succ k ih=>rw [reI_succ,List.length_append,ih];rfl
def resI (r:Lm.Rec) (d:Tm.T):List E:=if d.s = true then reI r d.i.length d.f d.f.length else []
theorem resI_len (r:Lm.Rec) (d:Tm.T):(resI r d).length ≤ d.f.length + 1:=by
 unfold resI
 split
 ·rw [reI_len];omega
 ·simp
def midI (r:Lm.Rec) (p s:Int) (d:Tm.T):List E:=whI r p s d.i d.i.length ++ resI r d
def itm (r:Lm.Rec) (p s:Int) (d:Tm.T) (A B:List Pb.E):List E:=affI r A ++ whI r p s d.i d.i.length ++ resI r d ++ affI r B
theorem itm_mid (r:Lm.Rec) (p s:Int) (d:Tm.T) (A B:List Pb.E):itm r p s d A B = affI r A ++ midI r p s d ++ affI r B:=by
 unfold itm midI
 simp [List.append_assoc]
theorem itm_len (r:Lm.Rec) (p s:Int) (d:Tm.T) (A B:List Pb.E):(itm r p s d A B).length ≤ A.length + 2 * d.i.length + d.f.length + 1 + B.length:=by
 unfold itm
 rw [List.length_append,List.length_append,List.length_append,affI_len,affI_len]
 have h1:=whI_len r p s d.i d.i.length
 have h2:=resI_len r d
 omega
def stpI (r:Lm.Rec) (p s n:Int) (L:List Int) (k:Nat):List E:=if L.getD k 0 = 10 then [(4,Lm.bs r.dec,(k:Int))] else dgE r (L.getD k 0) k :: grpI r (n - 1 - k) p s
def rowI (r:Lm.Rec) (p s n:Int) (L:List Int):Nat → List E
 | 0=>[]
 | k + 1=>rowI r p s n L k ++ stpI r p s n L k
theorem rowI_zero (r:Lm.Rec) (p s n:Int) (L:List Int):rowI r p s n L 0 = []:=rfl
theorem rowI_succ (r:Lm.Rec) (p s n:Int) (L:List Int) (k:Nat):rowI r p s n L (k + 1) = rowI r p s n L k ++ stpI r p s n L k:=rfl
theorem stpI_len (r:Lm.Rec) (p s n:Int) (L:List Int) (k:Nat):(stpI r p s n L k).length ≤ 2:=by
 unfold stpI
 split
 ·simp
 ·rw [List.length_cons];have:=grpI_len r (n - 1 - k) p s;omega
theorem rowI_len (r:Lm.Rec) (p s n:Int) (L:List Int) (k:Nat):(rowI r p s n L k).length ≤ 2 * k:=by
 induction k with
 | zero=>simp [rowI]
 | succ k ih =>
  rw [rowI_succ,List.length_append]
  have:=stpI_len r p s n L k
  omega
theorem digit_at {I:List Int} (h:Dm.okD I) (k:Nat):0 ≤ I.getD k 0 ∧ I.getD k 0 ≤ 9:=by
 rw [List.getD_eq_getElem?_getD]
 cases hk:I[k]? with
 | none=>simp
 | some x =>
  have:=h x (List.mem_of_getElem? hk)
  simpa using this
theorem row_whole (r:Lm.Rec) (p s:Int) (I R:List Int) (hI:Dm.okD I) (k:Nat) (hk:k ≤ I.length):rowI r p s I.length (I ++ R) k = whI r p s I k:=by
 induction k with
 | zero=>rfl
 | succ k ih =>
  rw [rowI_succ,whI_succ,ih (by omega)]
  have e:(I ++ R).getD k 0 = I.getD k 0:=by
   rw [List.getD_eq_getElem?_getD,List.getD_eq_getElem?_getD,List.getElem?_append_left (by omega)]
  have h:=digit_at hI k
  unfold stpI
  rw [e,if_neg (by omega)]
theorem row_rest (r:Lm.Rec) (p s:Int) (I F:List Int) (hI:Dm.okD I) (hF:Dm.okD F) (k:Nat) (hk:k ≤ F.length):rowI r p s I.length (I ++ [10] ++ F) (I.length + 1 + k) = whI r p s I I.length ++ reI r I.length F k:=by
 induction k with
 | zero =>
  rw [Nat.add_zero,rowI_succ,List.append_assoc,row_whole r p s I _ hI _ (Nat.le_refl _)]
  congr 1
  unfold stpI
  rw [List.getD_eq_getElem?_getD,List.getElem?_append_right (Nat.le_refl _)]
  simp [reI_zero]
 | succ k ih =>
  rw [← Nat.add_assoc,rowI_succ,ih (by omega),reI_succ,List.append_assoc]
  congr 2
  have e:(I ++ [10] ++ F).getD (I.length + 1 + k) 0 = F.getD k 0:=by
   rw [List.getD_eq_getElem?_getD,List.getD_eq_getElem?_getD,List.getElem?_append_right (by simp),List.length_append]
   congr 2
   simp
  have h:=digit_at hF k
  unfold stpI grpI
  rw [e,if_neg (by omega),endB_low (by omega)]
  simp [dgE]
  omega
theorem row_all (r:Lm.Rec) (p s:Int) (d:Tm.T) (h:Tm.may d = true):rowI r p s d.i.length (Tm.ats d) (Tm.ats d).length = midI r p s d:=by
 obtain ⟨h1,h2,h3⟩:=Tm.may_dig h
 unfold midI resI
 cases hs:d.s
 ·have hf:=h3 hs
  have e:Tm.ats d = d.i ++ []:=by unfold Tm.ats;rw [hs,hf];simp [Tm.sep]
  rw [e,row_whole r p s d.i [] h1 _ (by simp)]
  simp
 ·have e:Tm.ats d = d.i ++ [10] ++ d.f:=by unfold Tm.ats;rw [hs];rfl
  have e2:(d.i ++ ([10]:List Int) ++ d.f).length = d.i.length + 1 + d.f.length:=by simp;omega
  rw [e,e2,row_rest r p s d.i d.f h1 h2 _ (Nat.le_refl _),if_pos rfl]
end Im
end Go.Proofs.YtghfdapfnoeanaaGreatDoor
namespace Go.Proofs.YtghfdapfnoeanaaGreatDoor
namespace Fm
open Lm
def tab:List Rec:=[
 ⟨[97,114,45,69,71],[194,164,35,44,35,35,48,46,48,48],[97,114,97,98],[217,171],[217,172],[45],[217,170],[69,71,80]⟩,
 ⟨[98,103,45,66,71],[48,46,48,48,194,160,194,164],[108,97,116,110],[44],[],[45],[37],[66,71,78]⟩,
 ⟨[98,110,45,66,68],[35,44,35,35,44,35,35,48,46,48,48,194,164],[98,101,110,103],[46],[44],[45],[37],[224,167,179]⟩,
 ⟨[99,115,45,67,90],[35,44,35,35,48,46,48,48,194,160,194,164],[108,97,116,110],[44],[226,128,175],[45],[37],[75,196,141]⟩,
 ⟨[100,97,45,68,75],[35,44,35,35,48,46,48,48,194,160,194,164],[108,97,116,110],[44],[46],[45],[37],[107,114]⟩,
 ⟨[100,101,45,65,84],[194,164,194,160,35,44,35,35,48,46,48,48],[108,97,116,110],[44],[46],[45],[37],[226,130,172]⟩,
 ⟨[100,101,45,67,72],[194,164,194,160,35,44,35,35,48,46,48,48,59,194,164,45,35,44,35,35,48,46,48,48],[108,97,116,110],[46],[226,128,153],[45],[37],[67,72,70]⟩,
 ⟨[100,101,45,68,69],[35,44,35,35,48,46,48,48,194,160,194,164],[108,97,116,110],[44],[46],[45],[37],[226,130,172]⟩,
 ⟨[100,122,45,66,84],[194,164,35,44,35,35,44,35,35,48,46,48,48],[116,105,98,116],[46],[44],[45],[37],[78,117]⟩,
 ⟨[101,108,45,71,82],[35,44,35,35,48,46,48,48,194,160,194,164],[108,97,116,110],[44],[46],[45],[37],[226,130,172]⟩,
 ⟨[101,110,45,71,66],[194,164,35,44,35,35,48,46,48,48],[108,97,116,110],[46],[44],[45],[37],[194,163]⟩,
 ⟨[101,110,45,73,78],[194,164,35,44,35,35,44,35,35,48,46,48,48],[108,97,116,110],[46],[44],[45],[37],[226,130,185]⟩,
 ⟨[101,110,45,85,83],[194,164,35,44,35,35,48,46,48,48],[108,97,116,110],[46],[44],[45],[37],[36]⟩,
 ⟨[101,115,45,69,83],[35,44,35,35,48,46,48,48,194,160,194,164],[108,97,116,110],[44],[46],[45],[37],[226,130,172]⟩,
 ⟨[101,116,45,69,69],[35,44,35,35,48,46,48,48,194,160,194,164],[108,97,116,110],[44],[226,128,175],[226,136,146],[37],[226,130,172]⟩,
 ⟨[102,97,45,73,82],[35,44,35,35,48,46,48,48],[97,114,97,98,101,120,116],[217,171],[217,172],[226,136,146],[217,170],[]⟩,
 ⟨[102,105,45,70,73],[35,44,35,35,48,46,48,48,194,160,194,164],[108,97,116,110],[44],[226,128,175],[226,136,146],[37],[226,130,172]⟩,
 ⟨[102,114,45,67,65],[35,44,35,35,48,46,48,48,194,160,194,164],[108,97,116,110],[44],[226,128,175],[45],[37],[36]⟩,
 ⟨[102,114,45,70,82],[35,44,35,35,48,46,48,48,194,160,194,164],[108,97,116,110],[44],[226,128,175],[45],[37],[226,130,172]⟩,
 ⟨[103,117,45,73,78],[194,164,35,44,35,35,44,35,35,48,46,48,48],[103,117,106,114],[46],[44],[45],[37],[226,130,185]⟩,
 ⟨[104,101,45,73,76],[35,44,35,35,48,46,48,48,194,160,194,164],[108,97,116,110],[46],[44],[45],[37],[226,130,170]⟩,
 ⟨[104,105,45,73,78],[194,164,35,44,35,35,44,35,35,48,46,48,48],[100,101,118,97],[46],[44],[45],[37],[226,130,185]⟩,
 ⟨[104,117,45,72,85],[35,44,35,35,48,46,48,48,194,160,194,164],[108,97,116,110],[44],[226,128,175],[45],[37],[70,116]⟩,
 ⟨[105,100,45,73,68],[194,164,194,160,35,44,35,35,48,46,48,48],[108,97,116,110],[44],[46],[45],[37],[82,112]⟩,
 ⟨[106,97,45,74,80],[194,164,35,44,35,35,48],[108,97,116,110],[46],[44],[45],[37],[239,191,165]⟩,
 ⟨[107,109,45,75,72],[35,44,35,35,48,46,48,48,194,164],[107,104,109,114],[44],[46],[45],[37],[225,159,155]⟩,
 ⟨[107,110,45,73,78],[194,164,35,44,35,35,44,35,35,48,46,48,48],[107,110,100,97],[46],[44],[45],[37],[226,130,185]⟩,
 ⟨[107,111,45,75,82],[194,164,35,44,35,35,48],[108,97,116,110],[46],[44],[45],[37],[226,130,169]⟩,
 ⟨[108,111,45,76,65],[194,164,35,44,35,35,48,46,48,48,59,194,164,45,35,44,35,35,48,46,48,48],[108,97,111,111],[44],[46],[45],[37],[226,130,173]⟩,
 ⟨[109,114,45,73,78],[194,164,35,44,35,35,44,35,35,48,46,48,48],[100,101,118,97],[46],[44],[45],[37],[226,130,185]⟩,
 ⟨[109,121,45,77,77],[35,44,35,35,48,46,48,48,194,160,194,164],[109,121,109,114],[46],[44],[45],[37],[75]⟩,
 ⟨[110,98,45,78,79],[194,164,194,160,35,44,35,35,48,46,48,48,59,194,164,194,160,45,35,44,35,35,48,46,48,48],[108,97,116,110],[44],[226,128,175],[226,136,146],[37],[107,114]⟩,
 ⟨[110,108,45,78,76],[194,164,194,160,35,44,35,35,48,46,48,48,59,194,164,194,160,45,35,44,35,35,48,46,48,48],[108,97,116,110],[44],[46],[45],[37],[226,130,172]⟩,
 ⟨[112,108,45,80,76],[35,44,35,35,48,46,48,48,194,160,194,164],[108,97,116,110],[44],[226,128,175],[45],[37],[122,197,130]⟩,
 ⟨[112,116,45,66,82],[194,164,194,160,35,44,35,35,48,46,48,48],[108,97,116,110],[44],[46],[45],[37],[82,36]⟩,
 ⟨[114,117,45,82,85],[35,44,35,35,48,46,48,48,194,160,194,164],[108,97,116,110],[44],[226,128,175],[45],[37],[226,130,189]⟩,
 ⟨[115,108,45,83,73],[35,44,35,35,48,46,35,35,37],[108,97,116,110],[44],[46],[226,136,146],[37],[]⟩,
 ⟨[116,97,45,73,78],[194,164,194,160,35,44,35,35,44,35,35,48,46,48,48],[116,97,109,108,100,101,99],[46],[44],[45],[37],[226,130,185]⟩,
 ⟨[116,104,45,84,72],[194,164,35,44,35,35,48,46,48,48],[116,104,97,105],[46],[44],[45],[37],[224,184,191]⟩,
 ⟨[122,104,45,67,78],[194,164,35,44,35,35,48,46,48,48],[108,97,116,110],[46],[44],[45],[37],[194,165]⟩]
def rec0:Rec:=⟨[],[],[],[],[],[],[],[]⟩
def T (i:Nat):Rec:=tab.getD i rec0
def ptC:List (List Int):=[[164,35,44,35,35,48,46,48,48],[48,46,48,48,160,164],[35,44,35,35,44,35,35,48,46,48,48,164],[35,44,35,35,48,46,48,48,160,164],[164,160,35,44,35,35,48,46,48,48],[164,160,35,44,35,35,48,46,48,48,59,164,45,35,44,35,35,48,46,48,48],[164,35,44,35,35,44,35,35,48,46,48,48],[35,44,35,35,48,46,48,48],[164,35,44,35,35,48],[35,44,35,35,48,46,48,48,164],[164,35,44,35,35,48,46,48,48,59,164,45,35,44,35,35,48,46,48,48],[164,160,35,44,35,35,48,46,48,48,59,164,160,45,35,44,35,35,48,46,48,48],[35,44,35,35,48,46,35,35,37],[164,160,35,44,35,35,44,35,35,48,46,48,48]]
def ptB:List By:=[[194,164,35,44,35,35,48,46,48,48],[48,46,48,48,194,160,194,164],[35,44,35,35,44,35,35,48,46,48,48,194,164],[35,44,35,35,48,46,48,48,194,160,194,164],[194,164,194,160,35,44,35,35,48,46,48,48],[194,164,194,160,35,44,35,35,48,46,48,48,59,194,164,45,35,44,35,35,48,46,48,48],[194,164,35,44,35,35,44,35,35,48,46,48,48],[35,44,35,35,48,46,48,48],[194,164,35,44,35,35,48],[35,44,35,35,48,46,48,48,194,164],[194,164,35,44,35,35,48,46,48,48,59,194,164,45,35,44,35,35,48,46,48,48],[194,164,194,160,35,44,35,35,48,46,48,48,59,194,164,194,160,45,35,44,35,35,48,46,48,48],[35,44,35,35,48,46,35,35,37],[194,164,194,160,35,44,35,35,44,35,35,48,46,48,48]]
def ptN:List Nat:=[0,1,2,3,3,4,5,3,6,3,0,6,0,3,3,7,3,3,3,6,3,6,3,4,8,9,6,8,10,6,3,11,11,3,4,3,12,13,0,0]
def nP (i:Nat):Nat:=ptN.getD i 0
def ptX:List Pt.Pat:=ptC.map fun c=>(Pt.parseC c).1
def P (p:Nat):Pt.Pat:=ptX.getD p Pt.pat0
theorem tab_len:tab.length = 40:=by decide
theorem nP_lt:∀ i,i < 40 → nP i < 14:=by decide +kernel
theorem pat_of:∀ i,i < 40 → (T i).pat = ptB.getD (nP i) []:=by decide +kernel
theorem ptC_B:∀ p,p < 14 → Um.joinL (ptC.getD p []) = ptB.getD p [] ∧ (Pt.parseC (ptC.getD p [])).1 = P p ∧ (ptC.getD p []).all (fun c=>Um.vld c) = true:=by decide +kernel
def okB (r:Rec) (X:Pt.Pat):Bool :=
 (r.nam.all fun b=>(decide (97 ≤ b.toNat) && decide (b.toNat ≤ 122)) || ((decide (65 ≤ b.toNat) && decide (b.toNat ≤ 90)) || decide (b.toNat = 45))) &&
 (decide (1 ≤ r.nam.length) && (decide (r.nam.length ≤ 16) &&
 (decide (cnt 3 X.pre = 0) && (decide (cnt 3 X.suf = 0) && (decide (cnt 3 X.npre + cnt 3 X.nsuf = 1) &&
 (decide (0 ≤ Sm.nz r.sys) && (decide (r.sys.length ≤ 16) && (symB r.dec && (symB r.min && (decide (0 ≤ X.pr) &&
 ((if 0 < X.pr then symB r.grp else decide (r.grp = [])) &&
 ((wordB r.per || (decide (r.per = []) && (affs X).all fun A=>decide (cnt 2 A = 0))) &&
 ((wordB r.cur || (decide (r.cur = []) && (affs X).all fun A=>decide (cnt 1 A = 0))) &&
 (((affs X).all fun A=>decide (A.length ≤ 10) && A.all (fun x=>decide (0 ≤ x.1 ∧ x.1 ≤ 3) && (decide (x.2.length ≤ 10) && ((x.1 != 0 || Cm.plainB (Um.allL x.2)) && (x.1 == 0 || x.2 == []))))) &&
 (((affs X).all fun A=>decide ((atx r A).length ≤ 64)) &&
 (decide ((syms r).Nodup) &&
 (((List.range 13).all fun i=>decide (i = 11) || decide (0 < ((syms r).getD i ⟨#[]⟩).size)) &&
 (clus r X).all fun c=>notin c (syms r))))))))))))))))))
theorem ok_of {r:Rec} {X:Pt.Pat} (h:okB r X = true):Ok r X:=by
 unfold okB at h
 simp only [Bool.and_eq_true,decide_eq_true_eq,List.all_eq_true,Bool.or_eq_true,bne_iff_ne,ne_eq,beq_iff_eq,List.mem_range] at h
 obtain ⟨h1,h2,h3,h4,h5,h6,h7,h8,h9,h10,h11,h12,h13,h14,h15,h16,h17,h18,h19⟩:=h
 exact {
  nam:=h1
  nam1:=⟨h2,h3⟩
  sg:=⟨h4,h5,h6⟩
  sys:=h7
  sysl:=h8
  dec:=h9
  min:=h10
  pr:=h11
  grp1:=fun h=>by rwa [if_pos h] at h12
  grp0:=fun h=>by rw [if_neg h] at h12;exact of_decide_eq_true h12
  per:=h13
  cur:=h14
  aff:=fun A hA=>⟨(h15 A hA).1,fun x hx=>by
   obtain ⟨g1,g2,g3,g4⟩:=(h15 A hA).2 x hx
   exact ⟨g1,g2,fun e=>g3.resolve_left (fun n=>n e),fun e=>g4.resolve_left e⟩⟩
  len:=h16
  dis:=h17
  ne:=fun i x hx hi=>by
   have hl:i < 13:=(List.getElem?_eq_some_iff.1 hx).1
   have:=(h18 i hl).resolve_left hi
   rwa [List.getD_eq_getElem?_getD,hx] at this
  cl:=fun c hc=>of_notin (h19 c hc) }
theorem f_ok0:∀ i,i < 8 → okB (T (0 + i)) (P (nP (0 + i))) = true:=by decide +kernel
theorem f_ok8:∀ i,i < 8 → okB (T (8 + i)) (P (nP (8 + i))) = true:=by decide +kernel
theorem f_ok16:∀ i,i < 8 → okB (T (16 + i)) (P (nP (16 + i))) = true:=by decide +kernel
theorem f_ok24:∀ i,i < 8 → okB (T (24 + i)) (P (nP (24 + i))) = true:=by decide +kernel
theorem f_ok32:∀ i,i < 8 → okB (T (32 + i)) (P (nP (32 + i))) = true:=by decide +kernel
theorem f_ok (i:Nat) (h:i < 40):Ok (T i) (P (nP i)):=by
 refine ok_of ?_
 by_cases h1:i < 8
 ·have:=f_ok0 i h1;rwa [Nat.zero_add] at this
 ·by_cases h2:i < 16
  ·have:=f_ok8 (i - 8) (by omega);rwa [show 8 + (i - 8) = i by omega] at this
  ·by_cases h3:i < 24
   ·have:=f_ok16 (i - 16) (by omega);rwa [show 16 + (i - 16) = i by omega] at this
   ·by_cases h4:i < 32
    ·have:=f_ok24 (i - 24) (by omega);rwa [show 24 + (i - 24) = i by omega] at this
    ·have:=f_ok32 (i - 32) (by omega);rwa [show 32 + (i - 32) = i by omega] at this
/-! ### names, languages -/
def nam (i:Nat):By:=(T i).nam
end Fm
end Go.Proofs.YtghfdapfnoeanaaGreatDoor
namespace Go.Proofs.YtghfdapfnoeanaaGreatDoor
open Go.RowKit
namespace Sp
def plc (x:ByteArray):List ByteArray → Nat → Int
 | [],_=>-1
 | y :: r,k=>if x = y then (k:Int) else plc x r (k + 1)
theorem plc_at {x:ByteArray} {xs:List ByteArray} {k:Nat} {y:ByteArray} (h:xs[k]? = some y):plc x (xs.drop k) k = if x = y then (k:Int) else plc x (xs.drop (k + 1)) (k + 1):=by
 have hk:=(List.getElem?_eq_some_iff.1 h).1
 have e:=(List.getElem?_eq_some_iff.1 h).2
 rw [List.drop_eq_getElem_cons hk,e];rfl
theorem plc_neg {x:ByteArray} (xs:List ByteArray):∀ k,(0:Int) ≤ plc x xs k ↔ x ∈ xs:=by
 induction xs with
 | nil=>intro k;simp [plc]
 | cons y r ih =>
  intro k
  unfold plc
  by_cases h:x = y
  ·rw [if_pos h];simp [h]
  ·rw [if_neg h,ih];simp [h]
set_option maxHeartbeats 1000000 in
theorem idx_any (v:Value) (xs:List ByteArray) (x:ByteArray) (w:World) (hv:SLst w v xs) (hx:xs.length ≤ 1073741824) :
  Calls Tryz.prog 172 #[v,.string x] w fun e w'=>e = .returned (.int .i64 (plc x xs 0)) ∧ w = w':=by
 obtain ⟨n,hn⟩:∃ n,n = xs.length:=⟨_,rfl⟩
 have HN:=Lib.hid hn
 have HV:=Lib.hid hv
 obtain ⟨a,cp,rfl,hc1,hc2⟩:=hv.form0 hn.symm
 rw [← hn] at hx
 obtain ⟨R,hR⟩:∃ R,R = plc x xs 0:=⟨_,rfl⟩
 have HR:=Lib.hid (show R = plc x (xs.drop 0) 0 by rw [hR];rfl)
 rw [← hR]
 clear hn hv hR
 go_enter Tryz.func172,Tryz.ntmps172
 go_wp2_with fail
 go_loopw [8] (fun i wr=>∃ k:Nat,i = .int .i64 k ∧ k ≤ n ∧ Hid (R = plc x (xs.drop k) k) ∧ w = wr) (fun i _=>n - (intOf i).toNat)
 case atStart=>exact ⟨0,rfl,by omega,HR,rfl⟩
 case round =>
  obtain ⟨k,rfl,hk,HK,rfl⟩:=hrel
  by_cases hlt:k < n
  ·have hlti:(k:Int) < (n:Int):=by omega
   have hkl:k < xs.length:=by have:=HN.out;omega
   obtain ⟨y,hy⟩:∃ y,xs[k]? = some y:=⟨xs[k],List.getElem?_eq_getElem hkl⟩
   obtain ⟨g,off,cap,hvv,hg,_,_,c1⟩:=HV.out.cellOf HN.out.symm hy
   cases hvv
   have hp:=plc_at (x:=x) hy
   by_cases hxy:x = y
   ·have HF:=Lib.hid (show R = k by rw [HK.out,hp,if_pos hxy])
    have hb:(x.toList == y.toList) = true:=by rw [hxy];simp
    clear hp hy
    go_wp2_with fail
    go_ret
    rw [HF.out]
    exact ⟨rfl,rfl⟩
   ·have HF:=Lib.hid (show R = plc x (xs.drop (k + 1)) (k + 1) by rw [HK.out,hp,if_neg hxy])
    have hb:=str_ne hxy
    clear hp hy
    go_wp2_with fail
    exact ⟨⟨k + 1,by go_num,by omega,HF,trivial⟩,by simp [intOf];omega⟩
  ·have hnlt:¬ (k:Int) < (n:Int):=by omega
   have HF:=Lib.hid (show R = -1 by rw [HK.out,List.drop_eq_nil_of_le (by have:=HN.out;omega)];rfl)
   go_wp2_with fail
   go_ret
   rw [HF.out]
   exact ⟨rfl,rfl⟩
theorem has_any (v:Value) (xs:List ByteArray) (x:ByteArray) (w:World) (hv:SLst w v xs) (hx:xs.length ≤ 1073741824) :
  Calls Tryz.prog 140 #[v,.string x] w fun e w'=>e = .returned (.bool (decide (0 ≤ plc x xs 0))) ∧ w = w':=by
 have hI:=fun w hv=>idx_any v xs x w hv hx
 obtain ⟨a,cp,rfl,hc1,hc2⟩:=hv.shape2
 have HV:=Lib.hid hv
 generalize plc x xs 0 = R at *
 have HI:=Lib.hid hI
 generalize xs.length = n at *
 clear hI hv
 go_enter Tryz.func140,Tryz.ntmps140
 go_wp2_with fail
 refine (HI.out _ HV.out).mono ?_
 rintro e w1 ⟨rfl,rfl⟩
 go_wp2_with fail
 go_ret
 exact ⟨rfl,rfl⟩
end Sp
namespace Pg
open Pt Um
def ordL (l:List UInt8) (a b:UInt8):Bool:=(Lib.trimB (Lib.trimLeftB l a) b).isEmpty
theorem ordered_any (s:ByteArray) (a b:UInt8) (ha:a.toNat < 128) (hb:b.toNat < 128) (w:World) (hs:s.size ≤ 1000000) :
  Calls Tryz.prog 184 #[.string s,.string ⟨#[a]⟩,.string ⟨#[b]⟩] w fun e w'=>e = .returned (.bool (ordL s.data.toList a b)) ∧ Q w w':=by
 have h1:=fun w=>Sp.trimLeft_any s a ha w
 have hl:(Lib.trimLeftB s.data.toList a).length ≤ 1000000:=by
  have:(Lib.trimLeftB s.data.toList a).length ≤ s.data.toList.length:=(List.dropWhile_sublist _).length_le
  rw [size_list] at this;omega
 have h2:=fun w=>Sp.trim_any ⟨(Lib.trimLeftB s.data.toList a).toArray⟩ b hb w (by simp [ByteArray.size];omega)
 have e1:(⟨(Lib.trimLeftB s.data.toList a).toArray⟩:ByteArray).data.toList = Lib.trimLeftB s.data.toList a:=by simp
 rw [e1] at h2
 unfold ordL
 generalize Lib.trimLeftB s.data.toList a = L at *
 obtain ⟨M,hM⟩:∃ M,M = Lib.trimB L b:=⟨_,rfl⟩
 rw [← hM] at h2 ⊢
 have H1:=Lib.hid h1
 have H2:=Lib.hid h2
 have he:(⟨M.toArray⟩:ByteArray).toList.isEmpty = M.isEmpty:=by rw [ByteArray.toList_eq]
 obtain ⟨r,hr⟩:∃ r,r = M.isEmpty:=⟨_,rfl⟩
 rw [← hr] at he ⊢
 generalize (⟨M.toArray⟩:ByteArray) = MM at *
 clear h1 h2 hM hr e1
 go_enter Tryz.func184,Tryz.ntmps184
 go_wp2_with fail
 refine (H1.out _).mono ?_
 rintro e w1 ⟨rfl,rfl⟩
 go_wp2_with fail
 refine (H2.out _).mono ?_
 rintro e w2 ⟨rfl,hq⟩
 go_wp2_with fail
 go_ret
 exact ⟨rfl,hq⟩
def prG (gs:List (List UInt8)) (frac:List UInt8) (pointed:Bool):Option Nb :=
 if ([]:List UInt8) ∈ gs then none
 else if (ordL gs.flatten 35 48 && ordL frac 48 35) = false then none
 else if (pointed == !frac.isEmpty) = false then none
 else some ⟨if 1 < gs.length then ((gs.getD (gs.length - 1) []).length:Int) else 0,if 2 < gs.length then ((gs.getD (gs.length - 2) []).length:Int) else if 1 < gs.length then ((gs.getD (gs.length - 1) []).length:Int) else 0,
  ((Lib.countByte gs.flatten 48:Nat):Int),((gs.flatten.length:Nat):Int),((Lib.countByte frac 48:Nat):Int),((frac.length:Nat):Int)⟩
def prN (s:List UInt8):Option Nb:=prG (Lib.split (Lib.cut s [46]).1 [44]) (Lib.cut s [46]).2.1 (Lib.cut s [46]).2.2
theorem infoN:(Tryz.prog.info? 175).map (·.size) = some 6:=by kernel_rfl
theorem extr_list {xs:List ByteArray} {gs:List (List UInt8)} (h:xs.map (·.data.toList) = gs) {k:Nat} (hk:k < gs.length):∃ y,xs[k]? = some y ∧ y.size = (gs.getD k []).length:=by
 subst h
 have hk':k < xs.length:=by simpa using hk
 refine ⟨xs[k],List.getElem?_eq_getElem hk',?_⟩
 rw [List.getD_eq_getElem?_getD,List.getElem?_map,List.getElem?_eq_getElem hk']
 simp [size_list]
theorem split_len (sep:List UInt8):∀ (k:Nat) (s:List UInt8),(Lib.splitK sep 0 k s).flatten.length ≤ s.length:=by
 intro k
 induction k with
 | zero=>intro s;simp [Lib.splitK]
 | succ k ih =>
  intro s
  unfold Lib.splitK
  split
  ·simp
  ·have:=ih (s.drop ((Lib.index s sep).toNat + sep.length))
   rw [List.flatten_cons,List.length_append,List.length_take]
   rw [List.length_drop] at this
   omega
theorem splitK_num (sep:List UInt8):∀ (k:Nat) (s:List UInt8),(Lib.splitK sep 0 k s).length ≤ k + 1:=by
 intro k
 induction k with
 | zero=>intro s;simp [Lib.splitK]
 | succ k ih =>
  intro s
  unfold Lib.splitK
  split
  ·simp
  ·have:=ih (s.drop ((Lib.index s sep).toNat + sep.length))
   simp only [List.length_cons];omega
set_option maxHeartbeats 2000000 in
set_option maxRecDepth 100000 in
theorem numberOf_any (s:ByteArray) (w:World) (hs:s.size ≤ 1000) (m:Nb) (hm:prN s.data.toList = some m) :
  Calls Tryz.prog 163 #[.string s] w fun e w'=>e = .returned (.agg #[.int .i64 m.p,.int .i64 m.s,.int .i64 m.mi,.int .i64 m.xi,.int .i64 m.mf,.int .i64 m.xf]) ∧ Q w w':=by
 have hC:=fun w=>Sp.cut_any s 46 w (by omega)
 unfold prN at hm
 obtain ⟨K,hK⟩:∃ K,K = Lib.cut s.data.toList [46]:=⟨_,rfl⟩
 rw [← hK] at hC hm
 have hKl:K.1.length ≤ 1000 ∧ K.2.1.length ≤ 1000:=by
  have hsl:=size_list s
  rw [hK];unfold Lib.cut
  split <;> simp <;> omega
 obtain ⟨k1,k2,k3⟩:=K
 simp only at hC hm hKl
 obtain ⟨hk1,hk2⟩:=hKl
 have hS:=fun w=>Sp.split_any ⟨k1.toArray⟩ 44 w (by simp [ByteArray.size];omega)
 obtain ⟨xs,hxs⟩:∃ xs,xs = Lib.splitB ⟨#[44]⟩ 0 (Lib.countB ⟨k1.toArray⟩ ⟨#[44]⟩) ⟨k1.toArray⟩:=⟨_,rfl⟩
 have hgs:xs.map (·.data.toList) = Lib.split k1 [44]:=by rw [hxs,Lib.splitB_data];rfl
 have hgl:(Lib.split k1 [44]).flatten.length ≤ 1000:=Nat.le_trans (split_len _ _ _) hk1
 have hgn:(Lib.split k1 [44]).length ≤ 1001:=by
  have h1:=splitK_num [44] (Lib.count k1 [44]) k1
  have h2:=Lib.countB_le ⟨#[44]⟩ (Nat.le_refl 1) _ ⟨k1.toArray⟩ (Nat.le_refl _)
  have h3:Lib.count k1 [44] ≤ 1000:=Nat.le_trans h2 (by simp [ByteArray.size];omega)
  exact Nat.le_trans h1 (by omega)
 rw [← hxs] at hS
 clear hxs hK
 generalize Lib.split k1 [44] = gs at *
 have hcat:cat xs = gs.flatten:=by rw [← hgs,List.flatten_eq_flatMap,List.flatMap_map];rfl
 have hlen:xs.length = gs.length:=by rw [← hgs,List.length_map]
 have hX:=fun k hk=>extr_list (k:=k) hgs hk
 unfold prG at hm
 split at hm
 ·cases hm
 rename_i hno
 split at hm
 ·cases hm
 rename_i hord
 split at hm
 ·cases hm
 rename_i hpt
 have hno':decide (0 ≤ Sp.plc ByteArray.empty xs 0) = false:=by
  rw [decide_eq_false_iff_not,Sp.plc_neg]
  intro h
  apply hno
  rw [← hgs]
  exact List.mem_map.2 ⟨_,h,rfl⟩
 have hord:ordL gs.flatten 35 48 = true ∧ ordL k2 48 35 = true:=by
  simp only [Bool.not_eq_false,Bool.and_eq_true] at hord
  exact hord
 have hpt:k3 = !k2.isEmpty:=by cases k3 <;> cases hke:k2.isEmpty <;> simp_all
 have hm:=Option.some.inj hm
 have HA:=fun v w hv=>Sp.has_any v xs ByteArray.empty w hv (by omega)
 rw [hno'] at HA
 have HJ:=fun v w hv=>sjoin_any v xs w hv (by omega) (by rw [hcat];omega)
 rw [hcat] at HJ
 have hz1:(⟨gs.flatten.toArray⟩:ByteArray).size = gs.flatten.length:=by simp only [ByteArray.size,List.size_toArray]
 have O1:=fun w=>ordered_any ⟨gs.flatten.toArray⟩ 35 48 (by decide) (by decide) w (by rw [hz1];omega)
 have O2:=fun w=>ordered_any ⟨k2.toArray⟩ 48 35 (by decide) (by decide) w (by simp [ByteArray.size];omega)
 have C1:=fun w=>Sp.count_any ⟨gs.flatten.toArray⟩ 48 w
 have C2:=fun w=>Sp.count_any ⟨k2.toArray⟩ 48 w
 rw [show (⟨gs.flatten.toArray⟩:ByteArray).data.toList = gs.flatten by simp] at O1 C1
 rw [show (⟨k2.toArray⟩:ByteArray).data.toList = k2 by simp] at O2 C2
 rw [hord.1] at O1
 rw [hord.2] at O2
 have hz2:(⟨k2.toArray⟩:ByteArray).size = k2.length:=by simp [ByteArray.size]
 have he2:(⟨k2.toArray⟩:ByteArray).toList.isEmpty = k2.isEmpty:=by rw [ByteArray.toList_eq]
 rw [hpt] at hC
 obtain ⟨em,hem⟩:∃ em,em = k2.isEmpty:=⟨_,rfl⟩
 rw [← hem] at hC he2
 obtain ⟨l1,hl1⟩:∃ l1,l1 = gs.flatten.length:=⟨_,rfl⟩
 obtain ⟨l2,hl2⟩:∃ l2,l2 = k2.length:=⟨_,rfl⟩
 obtain ⟨c1,hc1⟩:∃ c1,c1 = Lib.countByte gs.flatten 48:=⟨_,rfl⟩
 obtain ⟨c2,hc2⟩:∃ c2,c2 = Lib.countByte k2 48:=⟨_,rfl⟩
 rw [← hl1] at hz1 hm hgl
 rw [← hl2] at hz2 hm
 rw [← hc1] at C1 hm
 rw [← hc2] at C2 hm
 obtain ⟨n,hn⟩:∃ n,n = gs.length:=⟨_,rfl⟩
 rw [← hn] at hlen hgn hm hX
 generalize gs.flatten.toArray = G at *
 generalize (⟨G⟩:ByteArray) = GB at *
 generalize (⟨k2.toArray⟩:ByteArray) = FB at *
 generalize (⟨k1.toArray⟩:ByteArray) = WB at *
 have H1:=Lib.hid hC
 have H2:=Lib.hid hS
 have H3:=Lib.hid HA
 have H4:=Lib.hid HJ
 have H5:=Lib.hid O1
 have H6:=Lib.hid O2
 have H7:=Lib.hid C1
 have H8:=Lib.hid C2
 have HX:=Lib.hid hX
 have HM:=Lib.hid hm
 have HLN:=Lib.hid hlen
 clear hC hS HA HJ O1 O2 C1 C2 hX hm hlen hno hno' hord hpt hcat hgs hl1 hl2 hc1 hc2 hn hem
 go_enter Tryz.func163,Tryz.ntmps163
 go_wp2_with fail
 refine (H1.out _).mono ?_
 rintro e w1 ⟨rfl,hq1⟩
 go_wp2_with fail
 refine (H2.out _).mono ?_
 rintro e w2 ⟨v,rfl,hv,hq2⟩
 have HV2:=Lib.hid hv
 obtain ⟨a,cp,rfl,hcp1,hcp2⟩:=hv.form0 HLN.out
 clear hv
 go_wp2_with fail
 refine (H3.out _ _ HV2.out).mono ?_
 rintro e w3 ⟨rfl,rfl⟩
 go_wp2_with fail
 refine (need_yes _).mono ?_
 rintro e w3 ⟨rfl,rfl⟩
 go_wp2_with fail
 refine (H4.out _ _ HV2.out).mono ?_
 rintro e w3 ⟨rfl,hq3⟩
 go_wp2_with fail
 refine (H5.out _).mono ?_
 rintro e w4 ⟨rfl,hq4⟩
 go_wp2_with fail
 refine (H6.out _).mono ?_
 rintro e w5 ⟨rfl,hq5⟩
 go_wp2_with fail
 refine (need_yes _).mono ?_
 rintro e w5 ⟨rfl,rfl⟩
 go_wp2_with fail
 refine (need_yes _).mono ?_
 rintro e w5 ⟨rfl,rfl⟩
 go_wp2_with fail
 refine (H7.out _).mono ?_
 rintro e w6 ⟨rfl,rfl⟩
 go_wp2_with fail
 refine (H8.out _).mono ?_
 rintro e w6 ⟨rfl,rfl⟩
 have HQ5:=Lib.hid ((((((Q.refl w).alloc (.cells #[.int .i64 0,.int .i64 0,.int .i64 0,.int .i64 0,.int .i64 0,.int .i64 0] 175)).trans hq1).trans hq2).trans (hq3.trans (hq4.trans hq5))))
 have HB5:=Lib.hid (Bk.q (Bk.new w 175 [.int .i64 0,.int .i64 0,.int .i64 0,.int .i64 0,.int .i64 0,.int .i64 0]) (hq1.trans (hq2.trans (hq3.trans (hq4.trans hq5)))))
 have HV5:=Lib.hid (HV2.out.q (hq3.trans (hq4.trans hq5)))
 clear hq1 hq2 hq3 hq4 hq5
 obtain ⟨z,hz⟩:∃ z,z = w5.alloc (.cells #[.int .i64 0,.int .i64 0,.int .i64 c1,.int .i64 l1,.int .i64 c2,.int .i64 l2] 175):=⟨_,rfl⟩
 have HQz:=Lib.hid (show Q w z by rw [hz];exact HQ5.out.alloc _)
 have HBz:=Lib.hid (show Bk z w.heap.size 175 [.int .i64 0,.int .i64 0,.int .i64 0,.int .i64 0,.int .i64 0,.int .i64 0] by rw [hz];exact HB5.out.q ((Q.refl w5).alloc _))
 have HGz:=Lib.hid (show Bk z w5.heap.size 175 [.int .i64 0,.int .i64 0,.int .i64 c1,.int .i64 l1,.int .i64 c2,.int .i64 l2] by rw [hz];exact Bk.new w5 _ _)
 have HVz:=Lib.hid (show SLst z (.slice a n cp) xs by rw [hz];exact HV5.out.q ((Q.refl w5).alloc _))
 have hBG:w.heap.size < w5.heap.size:=HB5.out.lt
 have HVc:=Lib.hid (show ∀ k x,xs[k]? = some x → ∃ g off,a = some ⟨g,off,none⟩ ∧ g < w5.heap.size ∧ z.cell? ⟨g,off + k,none⟩ = some (.string x) from fun k x hk=>by
  obtain ⟨g,off,cap,hvv,hg,_,_,d⟩:=HV5.out.cellOf HLN.out hk
  cases hvv
  refine ⟨g,off,rfl,hg,?_⟩
  rw [hz]
  exact (World.cell?_of_block (w:=w5) (((Q.refl w5).alloc _).block hg)).trans d)
 have hGz:w5.heap.size < z.heap.size:=HGz.out.lt
 have hGw:w.heap.size ≤ w5.heap.size:=by omega
 go_upto_region 8 with fail
 rw [← hz]
 clear hz
 obtain ⟨G,hG⟩:∃ G,G = w5.heap.size:=⟨_,rfl⟩
 rw [← hG] at HGz hBG hGw HVc hGz ⊢
 have HBw:=Lib.hid (show w.heap.size ≤ w.heap.size from Nat.le_refl _)
 have HGw:=Lib.hid hGw
 clear hG hGw HB5 HV5 HQ5
 have HBw:Hid (w.heap.size ≤ w.heap.size):=HBw
 obtain ⟨B,hB⟩:∃ B,B = w.heap.size:=⟨_,rfl⟩
 have HBw:Hid (w.heap.size ≤ B):=Lib.hid (by omega)
 rw [← hB] at HBz hBG ⊢
 clear hB
 have hne1:¬ B = G:=by omega
 have hne2:¬ G = B:=by omega
 by_cases h1:1 < n
 ·have h1i:(1:Int) < (n:Int):=by omega
  obtain ⟨y,hy,hyz⟩:=HX.out (n - 1) (by omega)
  obtain ⟨g,off,rfl,hg,d1⟩:=HVc.out _ _ hy
  have HY:=Lib.hid hyz
  have hn1:(n:Int) - 1 = ((n - 1:Nat):Int):=by omega
  obtain ⟨n1,hn1'⟩:∃ n1,n1 = n - 1:=⟨_,rfl⟩
  rw [← hn1'] at d1 hn1
  have HN1:=Lib.hid hn1'
  have hn1l:n1 < n:=by omega
  have hn1li:(n1:Int) < (n:Int):=by omega
  clear hyz hn1' hy
  have HB1:=Lib.hid (((HBz.out.past (g:=G) (i:=0) hne2 (.int .i64 y.size)).past (g:=G) (i:=1) hne2 (.int .i64 y.size)))
  have HG1:=Lib.hid ((HGz.out.set 0 (.int .i64 y.size)).set 1 (.int .i64 y.size))
  have HQ1:=Lib.hid (Q.setCell (Q.setCell HQz.out (ad:=⟨G,0,none⟩) HGw.out (.int .i64 y.size)) (ad:=⟨G,1,none⟩) HGw.out (.int .i64 y.size))
  have HV1:=Lib.hid (fun k (y2:ByteArray) (hk:xs[k]? = some y2)=>(by
   obtain ⟨g',off',he,hg',d⟩:=HVc.out _ _ hk
   cases he
   exact cell_past (cell_past d (by omega) (by omega) (.int .i64 y.size)) (by rw [World.size_setCell];omega) (by omega) (.int .i64 y.size):((z.setCell ⟨G,0,none⟩ (.int .i64 y.size)).setCell ⟨G,1,none⟩ (.int .i64 y.size)).cell? ⟨g,off + k,none⟩ = some (.string y2)))
  obtain ⟨x,hx⟩:∃ x,x = (z.setCell ⟨G,0,none⟩ (.int .i64 y.size)).setCell ⟨G,1,none⟩ (.int .i64 y.size):=⟨_,rfl⟩
  rw [← hx] at HB1 HG1 HQ1 HV1
  have b0:=HGz.out.cell 0 rfl
  have b1:=HGz.out.cell 1 rfl
  have f0:=HGz.out.free 0
  have f1:=HGz.out.free 1
  go_upto_region 12 with fail
  rw [← hx]
  clear hx b0 b1 f0 f1 d1 HBz HGz HQz HVz
  by_cases h2:2 < n
  ·have h2i:(2:Int) < (n:Int):=by omega
   obtain ⟨y2,hy2,hyz2⟩:=HX.out (n - 2) (by omega)
   have d2:=HV1.out _ _ hy2
   have HY2:=Lib.hid hyz2
   have hn2:(n:Int) - 2 = ((n - 2:Nat):Int):=by omega
   obtain ⟨n2,hn2'⟩:∃ n2,n2 = n - 2:=⟨_,rfl⟩
   rw [← hn2'] at d2 hn2
   have HN2:=Lib.hid hn2'
   have hn2l:n2 < n:=by omega
   have hn2li:(n2:Int) < (n:Int):=by omega
   clear hyz2 hn2' hy2
   have HB2:=Lib.hid (HB1.out.past (g:=G) (i:=1) hne2 (.int .i64 y2.size))
   have HG2:=Lib.hid (HG1.out.set 1 (.int .i64 y2.size))
   have HQ2:=Lib.hid (Q.setCell HQ1.out (ad:=⟨G,1,none⟩) HGw.out (.int .i64 y2.size))
   obtain ⟨x2,hx2⟩:∃ x2,x2 = x.setCell ⟨G,1,none⟩ (.int .i64 y2.size):=⟨_,rfl⟩
   rw [← hx2] at HB2 HG2 HQ2
   have b1:=HG1.out.cell 1 rfl
   have f1:=HG1.out.free 1
   go_upto_region 14 with fail
   rw [← hx2]
   clear hx2 b1 f1 d2 HB1 HG1 HQ1 HV1
   have HB:=HB2
   have HG:=HG2
   have HQ:=HQ2
   have b0:=HB.out.cell 0 rfl
   have f0:=HB.out.free 0
   have b1:=HB.out.cell 1 rfl
   have f1:=HB.out.free 1
   have b2:=HB.out.cell 2 rfl
   have f2:=HB.out.free 2
   have b3:=HB.out.cell 3 rfl
   have f3:=HB.out.free 3
   have b4:=HB.out.cell 4 rfl
   have f4:=HB.out.free 4
   have b5:=HB.out.cell 5 rfl
   have f5:=HB.out.free 5
   have d0:=HG.out.cell 0 rfl
   have e0:=HG.out.free 0
   have d1:=HG.out.cell 1 rfl
   have e1:=HG.out.free 1
   have d2:=HG.out.cell 2 rfl
   have e2:=HG.out.free 2
   have d3:=HG.out.cell 3 rfl
   have e3:=HG.out.free 3
   have d4:=HG.out.cell 4 rfl
   have e4:=HG.out.free 4
   have d5:=HG.out.cell 5 rfl
   have e5:=HG.out.free 5
   have HF:=Lib.hid ((((((HB.out.set 0 (.int .i64 y.size)).set 1 (.int .i64 y2.size)).set 2 (.int .i64 c1)).set 3 (.int .i64 l1)).set 4 (.int .i64 c2)).set 5 (.int .i64 l2))
   have HQF:=Lib.hid (Q.setCell (Q.setCell (Q.setCell (Q.setCell (Q.setCell (Q.setCell HQ.out (ad:=⟨B,0,none⟩) HBw.out (.int .i64 y.size)) (ad:=⟨B,1,none⟩) HBw.out (.int .i64 y2.size)) (ad:=⟨B,2,none⟩) HBw.out (.int .i64 c1)) (ad:=⟨B,3,none⟩) HBw.out (.int .i64 l1)) (ad:=⟨B,4,none⟩) HBw.out (.int .i64 c2)) (ad:=⟨B,5,none⟩) HBw.out (.int .i64 l2))
   go_wp2_with fail
   refine ret_bk rfl Tryz.underlying175 (by exact infoN) rfl HF.out rfl ⟨?_,HQF.out⟩
   rw [← HM.out]
   simp only [if_pos h1,if_pos h2,← HY.out,← HY2.out]
   rfl
  ·have h2i:¬ (2:Int) < (n:Int):=by omega
   have HB:=HB1
   have HG:=HG1
   have HQ:=HQ1
   have b0:=HB.out.cell 0 rfl
   have f0:=HB.out.free 0
   have b1:=HB.out.cell 1 rfl
   have f1:=HB.out.free 1
   have b2:=HB.out.cell 2 rfl
   have f2:=HB.out.free 2
   have b3:=HB.out.cell 3 rfl
   have f3:=HB.out.free 3
   have b4:=HB.out.cell 4 rfl
   have f4:=HB.out.free 4
   have b5:=HB.out.cell 5 rfl
   have f5:=HB.out.free 5
   have d0:=HG.out.cell 0 rfl
   have e0:=HG.out.free 0
   have d1:=HG.out.cell 1 rfl
   have e1:=HG.out.free 1
   have d2:=HG.out.cell 2 rfl
   have e2:=HG.out.free 2
   have d3:=HG.out.cell 3 rfl
   have e3:=HG.out.free 3
   have d4:=HG.out.cell 4 rfl
   have e4:=HG.out.free 4
   have d5:=HG.out.cell 5 rfl
   have e5:=HG.out.free 5
   have HF:=Lib.hid ((((((HB.out.set 0 (.int .i64 y.size)).set 1 (.int .i64 y.size)).set 2 (.int .i64 c1)).set 3 (.int .i64 l1)).set 4 (.int .i64 c2)).set 5 (.int .i64 l2))
   have HQF:=Lib.hid (Q.setCell (Q.setCell (Q.setCell (Q.setCell (Q.setCell (Q.setCell HQ.out (ad:=⟨B,0,none⟩) HBw.out (.int .i64 y.size)) (ad:=⟨B,1,none⟩) HBw.out (.int .i64 y.size)) (ad:=⟨B,2,none⟩) HBw.out (.int .i64 c1)) (ad:=⟨B,3,none⟩) HBw.out (.int .i64 l1)) (ad:=⟨B,4,none⟩) HBw.out (.int .i64 c2)) (ad:=⟨B,5,none⟩) HBw.out (.int .i64 l2))
   go_wp2_with fail
   refine ret_bk rfl Tryz.underlying175 (by exact infoN) rfl HF.out rfl ⟨?_,HQF.out⟩
   rw [← HM.out]
   simp only [if_pos h1,if_neg h2,← HY.out]
   rfl
 ·have h1i:¬ (1:Int) < (n:Int):=by omega
  have h2:¬ 2 < n:=by omega
  have HB:=HBz
  have HG:=HGz
  have HQ:=HQz
  have b0:=HB.out.cell 0 rfl
  have f0:=HB.out.free 0
  have b1:=HB.out.cell 1 rfl
  have f1:=HB.out.free 1
  have b2:=HB.out.cell 2 rfl
  have f2:=HB.out.free 2
  have b3:=HB.out.cell 3 rfl
  have f3:=HB.out.free 3
  have b4:=HB.out.cell 4 rfl
  have f4:=HB.out.free 4
  have b5:=HB.out.cell 5 rfl
  have f5:=HB.out.free 5
  have d0:=HG.out.cell 0 rfl
  have e0:=HG.out.free 0
  have d1:=HG.out.cell 1 rfl
  have e1:=HG.out.free 1
  have d2:=HG.out.cell 2 rfl
  have e2:=HG.out.free 2
  have d3:=HG.out.cell 3 rfl
  have e3:=HG.out.free 3
  have d4:=HG.out.cell 4 rfl
  have e4:=HG.out.free 4
  have d5:=HG.out.cell 5 rfl
  have e5:=HG.out.free 5
  have HF:=Lib.hid ((((((HB.out.set 0 (.int .i64 0)).set 1 (.int .i64 0)).set 2 (.int .i64 c1)).set 3 (.int .i64 l1)).set 4 (.int .i64 c2)).set 5 (.int .i64 l2))
  have HQF:=Lib.hid (Q.setCell (Q.setCell (Q.setCell (Q.setCell (Q.setCell (Q.setCell HQ.out (ad:=⟨B,0,none⟩) HBw.out (.int .i64 0)) (ad:=⟨B,1,none⟩) HBw.out (.int .i64 0)) (ad:=⟨B,2,none⟩) HBw.out (.int .i64 c1)) (ad:=⟨B,3,none⟩) HBw.out (.int .i64 l1)) (ad:=⟨B,4,none⟩) HBw.out (.int .i64 c2)) (ad:=⟨B,5,none⟩) HBw.out (.int .i64 l2))
  go_wp2_with fail
  refine ret_bk rfl Tryz.underlying175 (by exact infoN) rfl HF.out rfl ⟨?_,HQF.out⟩
  rw [← HM.out]
  simp only [if_neg h1,if_neg h2]
  rfl
end Pg
end Go.Proofs.YtghfdapfnoeanaaGreatDoor
