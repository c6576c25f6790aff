/- The document's own answers on clusters, further: where they begin, which they are, whether lists of texts are the same, a character of a class. (and more) -/
import Derived.Test.YtghfdapfnoeanaaGreatDoorR00
import Derived.Test.YtghfdapfnoeanaaGreatDoorR04
import Derived.Test.YtghfdapfnoeanaaGreatDoorR21
import Derived.Test.YtghfdapfnoeanaaGreatDoorR01
import Derived.Test.YtghfdapfnoeanaaGreatDoorRows
import Derived.Deep.QuietTactic
import Derived.Deep.RegionHeld3
import Derived.Deep.AppendLies
import Derived.Deep.DrawnRows
import Derived.BigQuiet
import Derived.IntWalk
set_option linter.unusedVariables false
set_option linter.unusedSimpArgs false
namespace Go.Proofs.YtghfdapfnoeanaaGreatDoor
open Go.RowKit Um Cm Gm
attribute [local go_sem ↓] Go.wp_at_zero Go.wp_at_succ
namespace Gr
theorem refR_jn (xs:List Int) (k:Int):refR (rc xs) k = jn (stL xs) k:=by rw [stL_rev,jn_ref];rfl
theorem allL_take (l:List UInt8) (j:Nat):stL ((allL l).take j) = stMs ((marks l).take j):=by unfold allL stMs;rw [List.map_take]
theorem allL_get (l:List UInt8) (j:Nat) (h:j < (marks l).length):(allL l).getD j 0 = ((marks l)[j]).1:=by
 unfold allL
 rw [List.getD_eq_getElem?_getD,List.getElem?_map,List.getElem?_eq_getElem h];rfl
theorem startsF_get (p:Nat) (ms:List (Int × Nat × Bool)) (j:Nat) (h:j ≤ ms.length):(startsF p ms).getD j 0 = ((p + width (ms.take j):Nat):Int):=by
 induction ms generalizing p j with
 | nil =>
  have:j = 0:=by simpa using h
  subst this
  simp [startsF,width]
 | cons m ms ih =>
  cases j with
  | zero=>simp [startsF,width]
  | succ j =>
   have:=ih (p + m.2.1) j (by simpa using h)
   simp only [startsF,List.getD_cons_succ,this,List.take_succ_cons]
   simp only [width,List.map_cons,List.sum_cons]
   congr 1;omega
theorem begF_take (ms:List (Int × Nat × Bool)) (j:Nat) (h:j < ms.length) :
  begF st0 0 (ms.take (j + 1)) = begF st0 0 (ms.take j) ++ (if jn (stMs (ms.take j)) (cls (ms[j]).1) = true then [] else [(width (ms.take j):Int)]):=by
 rw [List.take_succ_eq_append_getElem h,begF_snoc]
set_option maxRecDepth 100000 in
set_option maxHeartbeats 2000000 in
theorem starts_any (s:ByteArray) (w:World) (hs:s.size ≤ 1073741824) :
  Calls Tryz.prog 23 #[.string s] w fun e w'=>∃ v,e = .returned v ∧ Own w' w.heap.size v (stL1 s.data.toList) ∧ Q w w':=by
 have hml:=marks_length s.data.toList
 rw [size_list] at hml
 have hfin:stL1 s.data.toList = begF st0 0 (marks s.data.toList) ++ [(s.size:Int)]:=by unfold stL1 begL;rw [size_list]
 have hal:(allL s.data.toList).length = (marks s.data.toList).length:=by simp [allL]
 have hsl:(startsL s.data.toList).length = (marks s.data.toList).length + 1:=by unfold startsL;exact startsF_length _ _
 have hat:=allL_take s.data.toList
 have hag:=allL_get s.data.toList
 have hsg:=startsF_get 0 (marks s.data.toList)
 have hall:=fun w=>Ur.all_any s w hs
 obtain ⟨A,hA⟩:∃ A,A = allL s.data.toList:=⟨_,rfl⟩
 obtain ⟨S,hS⟩:∃ S,S = startsL s.data.toList:=⟨_,rfl⟩
 have hS':startsF 0 (marks s.data.toList) = S:=by rw [hS];rfl
 rw [← hA] at hal hat hag hall
 rw [← hS] at hsl hall
 rw [hS'] at hsg
 generalize marks s.data.toList = ms at *
 rw [hfin]
 generalize okL s.data.toList = ok at *
 obtain ⟨m,hm⟩:∃ m,m = ms.length:=⟨_,rfl⟩
 rw [← hm] at hal hsl hml
 have HALL:=Lib.hid hall
 have HAL:=Lib.hid hal
 have HSL:=Lib.hid hsl
 have HAT:=Lib.hid hat
 have HAG:=Lib.hid hag
 have HSG:=Lib.hid hsg
 have HM:=Lib.hid hm
 clear hall hal hsl hat hag hsg hm hA hS hS' hfin
 go_enter Tryz.func23,Tryz.ntmps23
 go_wp2_with fail
 refine (HALL.out _).mono ?_
 rintro e w1 ⟨v,u,rfl,hv,hu,hap,hq1⟩
 have hs1:=hq1.le
 by_cases h0:m = 0
 ·subst h0
  have hms:ms = []:=List.eq_nil_of_length_eq_zero HM.out.symm
  subst hms
  obtain ⟨a1,k1,rfl⟩:=hv.shape
  obtain ⟨a2,k2,rfl⟩:=hu.shape
  rw [HAL.out,HSL.out]
  have hnil:Own w1 w1.heap.size (.slice none 0 0) []:=Own.nil _ _
  go_wp2_with fail
  refine wp_loop_rounds 1 ?_
  rw [rounds_succ]
  go_wp2_with (at_builtin;refine push_int hnil rfl _ _ rfl s.size (by rfl) (by rfl) (by simp) (Nat.le_refl _) ?_;intro v' w4 hown4 hg4 hat4)
  go_ret
  exact ⟨_,rfl,hown4.mono hs1,hq1.grown hg4 (fun k h=>by cases h)⟩
 ·obtain ⟨g,cap,rfl,hgB,hgl,hcp,hcm,hcell⟩:=hv.form1 (by intro h;have:=HAL.out;rw [h] at this;simp at this;omega)
  obtain ⟨gs,caps,rfl,hgsB,hgsl,hcps,hcms,hcells⟩:=hu.form1 (by intro h;have:=HSL.out;rw [h] at this;simp at this)
  have hlv:=hv.lst
  rw [HAL.out] at hcp hcell hlv ⊢
  rw [HSL.out] at hcps hcells ⊢
  have HC:=Lib.hid hcell
  have HCS:=Lib.hid hcells
  clear hcell hcells hv hu hap
  unfold maxLen at hcm hcms
  go_wp2_with fail
  go_loopw [6,7] (fun o i wr=>∃ j:Nat,i = .int .i64 j ∧ j ≤ m ∧ Own wr w1.heap.size o (begF st0 0 (ms.take j)) ∧ Q w1 wr) (fun _ i _=>m - (intOf i).toNat)
  case atStart=>exact ⟨0,rfl,by omega,Own.nil _ _,Q.refl _⟩
  case round =>
   obtain ⟨j,rfl,hj,hown,hq⟩:=hrel
   have hqs:=hq.le
   have hbl:(begF st0 0 (ms.take j)).length < 1099511627776:=by
    have:=begF_length st0 0 (ms.take j)
    have h2:(ms.take j).length ≤ j:=List.length_take_le _ _
    omega
   by_cases hlt:j < m
   ·have hjm:j < ms.length:=by rw [← HM.out];exact hlt
    have hc:=HAG.out j hjm
    have hz:=HSG.out j (by omega)
    rw [Nat.zero_add] at hz
    have c1:=(World.cell?_of_block (w:=w1) (a:=⟨g,j,none⟩) (hq.block hgl)).trans (HC.out j hlt)
    have c2:=(World.cell?_of_block (w:=w1) (a:=⟨gs,j,none⟩) (hq.block hgsl)).trans (HCS.out j (by omega))
    rw [hc] at c1
    rw [hz] at c2
    have hbt:=begF_take ms j hjm
    have hlt':=(hlv.q hq).take j (by rw [HAL.out];omega)
    have hjc:=fun u hu=>joined_any (.slice (some ⟨g,0,none⟩) j cap) (A.take j) (ms[j]).1 u hu (by rw [List.length_take];omega:((A.take j).length ≤ 1073741824))
    rw [refR_jn,HAT.out j] at hjc
    generalize jn (stMs (ms.take j)) (cls (ms[j]).1) = b at hbt hjc
    generalize (ms[j]).1 = c at c1 hjc
    generalize width (ms.take j) = p at c2 hbt
    have hjS:∀ u,(u.cell? ⟨g,j,none⟩ = some (.int .i64 c) ∧ Q wr u) → Calls Tryz.prog 41 #[.slice (some ⟨g,0,none⟩) j cap,.int .i64 c] u fun e u'=>e = .returned (.bool b) ∧ (u'.cell? ⟨g,j,none⟩ = some (.int .i64 c) ∧ Q wr u'):=by
     rintro u ⟨hcu,hqu⟩
     refine (hjc u (hlt'.q hqu)).mono ?_
     rintro e u' ⟨rfl,hqu'⟩
     exact ⟨rfl,(World.cell?_of_block (w:=u) (a:=⟨g,j,none⟩) (hqu'.block (Nat.lt_of_lt_of_le hgl (Nat.le_trans hqs hqu.le)))).trans hcu,hqu.trans hqu'⟩
    have hst:wr.drew.cell? ⟨g,j,none⟩ = some (.int .i64 c) ∧ Q wr wr.drew:=⟨c1,(Q.refl _).drew⟩
    have i0:(0:Int) ≤ (j:Int):=by omega
    have i1:(j:Int) < (m:Int):=by omega
    have i2:(j:Int) ≤ (cap:Int):=by omega
    have HJS:=Lib.hid hjS
    have HBT:=Lib.hid hbt
    have HST:=Lib.hid hst
    clear hjc hlt' hjS hbt hc hz hst
    go_wp2_with fail
    go_region_held3 (fun u=>u.cell? ⟨g,j,none⟩ = some (.int .i64 c) ∧ Q wr u) (first | exact HST.out | assumption) ((go_at_call 41;refine (HJS.out _ ?_).mono ?_;(first | exact HST.out | assumption);rintro e u ⟨rfl,hS⟩))
    all_goals
     have hqu:=(‹_ ∧ Q wr _›:_ ∧ Q wr _).2
     have hown2:=hown.q hqu
     have hq2:=hq.trans hqu
     have hqs2:=hq2.le
     have c2':=(World.cell?_of_block (w:=wr) (a:=⟨gs,j,none⟩) (hqu.block (Nat.lt_of_lt_of_le hgsl hqs))).trans c2
     cases b
     ·go_wp2_with (at_builtin;refine push_int hown2 rfl _ _ rfl _ (by rfl) (by rfl) hbl hqs2 ?_;intro v' w4 hown4 hg4 hat4)
      go_roundw
      case rel=>exact ⟨j + 1,by go_num,by omega,by rw [HBT.out];exact hown4,hq2.grown hg4 (fun k h=>(hown2.lt k h).1)⟩
      case measure=>simp [intOf];omega
     ·go_wp2_with fail
      go_roundw
      case rel=>exact ⟨j + 1,by go_num,by omega,by rw [HBT.out,if_pos rfl,List.append_nil];exact hown2,hq2⟩
      case measure=>simp [intOf];omega
   ·have he:ms.take j = ms:=List.take_of_length_le (by rw [← HM.out];omega)
    rw [he] at hown hbl
    clear he
    go_wp2_with (at_builtin;refine push_int hown rfl _ _ rfl s.size (by rfl) (by rfl) hbl hqs ?_;intro v' w4 hown4 hg4 hat4)
    go_ret
    exact ⟨_,rfl,hown4.mono hs1,(hq1.trans hq).grown hg4 (fun k h=>Nat.le_trans hs1 (hown.lt k h).1)⟩
end Gr
end Go.Proofs.YtghfdapfnoeanaaGreatDoor
