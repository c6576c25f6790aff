/- Split and One. (and more) -/
import Derived.Test.YtghfdapfnoeanaaGreatDoorR00
import Derived.Test.YtghfdapfnoeanaaGreatDoorR04
import Derived.Test.YtghfdapfnoeanaaGreatDoorR18
import Derived.Test.YtghfdapfnoeanaaGreatDoorR01
import Derived.Test.YtghfdapfnoeanaaGreatDoorRows
import Derived.Deep.QuietTactic
import Derived.BigQuiet
set_option linter.unusedVariables false
set_option linter.unusedSimpArgs false
namespace Go.Proofs.YtghfdapfnoeanaaGreatDoor
open Go.RowKit Um Cm Gm
theorem Own.form1 {w:World} {B:Nat} {v:Value} {zs:List Int} (h:Own w B v zs) (hn:zs ≠ []) :
  ∃ g cap,v = .slice (some ⟨g,0,none⟩) zs.length cap ∧ B ≤ g ∧ g < w.heap.size ∧ zs.length ≤ cap ∧ cap ≤ maxLen ∧ ∀ i,i < zs.length → w.cell? ⟨g,i,none⟩ = some (.int .i64 (zs.getD i 0)):=by
 rcases h.2 with ⟨hv,h0⟩ | ⟨g,cap,cur,hv,hB,hh,hnc,hcm,hcs,ht⟩
 ·exact absurd (List.eq_nil_of_length_eq_zero h0) hn
 ·refine ⟨g,cap,hv,hB,(Array.getElem?_eq_some_iff.1 hh).1,hnc,hcm,fun i hi=>?_⟩
  rw [cell_of_row w g i cur 3 (0,0) hh]
  have h1:=congrArg (fun l=>l[i]?) ht
  simp only [List.getElem?_map,Nat.mul_one] at h1
  rw [List.getElem?_take,if_pos hi] at h1
  rw [← Array.getElem?_toList,h1,List.getD_eq_getElem?_getD]
  rw [List.getElem?_eq_getElem hi];rfl
theorem pcs_snoc (s:ByteArray) (st:List Int) (k:Nat):(List.range (k + 1)).map (pc s st) = (List.range k).map (pc s st) ++ [pc s st k]:=by
 rw [List.range_succ,List.map_append];rfl
set_option maxRecDepth 100000 in
set_option maxHeartbeats 2000000 in
theorem csplit_any (s:ByteArray) (w:World) (hs:s.size ≤ 1073741824) :
  Calls Tryz.prog 101 #[.string s] w fun e w'=>∃ v,e = .returned v ∧ SOwn w' w.heap.size v (pcs s) ∧ Q w w':=by
 obtain ⟨i0,hi,hz0,hz1,hz2⟩:=info_parts elemS.info
 obtain ⟨n,hn⟩:∃ n,n = (begL s.data.toList).length:=⟨_,rfl⟩
 have hbl:=begL_length s.data.toList
 rw [size_list,← hn] at hbl
 have hl1:=stL1_length s.data.toList
 rw [← hn] at hl1
 have hpc:pcs s = (List.range n).map (pc s (stL1 s.data.toList)):=by unfold pcs;rw [hn]
 have hst:=fun i (h:i < n)=>stL1_step s.data.toList i (by rw [← hn];exact h)
 have hgt:=fun i (h:i < n + 1)=>stL1_get s.data.toList i (by rw [hl1];exact h)
 rw [size_list] at hgt
 have hcs:=fun w=>cstarts_any s w hs
 have e1:begL s.data.toList ++ [(s.size:Int)] = stL1 s.data.toList:=by unfold stL1;rw [size_list]
 rw [e1] at hcs
 rw [hpc]
 obtain ⟨S,hS⟩:∃ S,S = stL1 s.data.toList:=⟨_,rfl⟩
 rw [← hS] at hl1 hst hgt hcs ⊢
 have HL:=Lib.hid hl1
 have HST:=Lib.hid hst
 have HG:=Lib.hid hgt
 have HC:=Lib.hid hcs
 clear hl1 hst hgt hcs hS hpc hn e1
 go_enter Tryz.func101,Tryz.ntmps101
 go_wp2_with fail
 refine (HC.out _).mono ?_
 rintro e w1 ⟨v,rfl,hv,hq1⟩
 obtain ⟨g,cap,rfl,hgB,hgl,hcp,hcm,hcell⟩:=hv.form1 (by intro h;have:=HL.out;rw [h] at this;simp at this)
 rw [HL.out] at hcp hcell ⊢
 unfold maxLen at hcm
 have hs1:=hq1.le
 have HCell:=Lib.hid hcell
 clear hcell
 have hcast:(((n + 1:Nat):Int) - 1) = n:=by omega
 by_cases h0:n = 0
 ·subst h0
  clear hcast
  by_cases hc1:cap = 1
  ·subst hc1
   go_wp2_with (at_make;refine wpList_make_own _ rfl _ _ 95 rfl w.heap.size 9 i0 (.string ByteArray.empty) 1 Tryz.underlying95 hi hz0 hz1 .i64 .i64 _ 0 rfl rfl rfl (by rw [hz2];omega) (by unfold maxLen;omega) hs1 ?_;intro w2 hown2 hg2)
   refine wp_loop_rounds 1 ?_
   rw [rounds_succ]
   go_wp2_with fail
   go_ret
   exact ⟨_,rfl,hown2,hq1.grown hg2 (fun k h=>by cases h)⟩
  ·have hne:¬ (1 = cap):=by omega
   go_wp2_with (at_make;refine wpList_make_own _ rfl _ _ 95 rfl w.heap.size 9 i0 (.string ByteArray.empty) 1 Tryz.underlying95 hi hz0 hz1 .i64 .i64 _ 0 rfl rfl rfl (by rw [hz2];omega) (by unfold maxLen;omega) hs1 ?_;intro w2 hown2 hg2)
   refine wp_loop_rounds 1 ?_
   rw [rounds_succ]
   go_wp2_with fail
   go_ret
   exact ⟨_,rfl,hown2,hq1.grown hg2 (fun k h=>by cases h)⟩
 ·have hne:¬ (1 = cap):=by omega
  have HNE:=Lib.hid hne
  go_wp2_with (at_make;refine wpList_make_own _ rfl _ _ 95 rfl w1.heap.size 9 i0 (.string ByteArray.empty) 1 Tryz.underlying95 hi hz0 hz1 .i64 .i64 _ n rfl rfl rfl (by rw [hz2];omega) (by unfold maxLen;omega) (Nat.le_refl _) ?_;intro w2 hown2 hg2)
  have hq2:Q w1 w2:=(Q.refl w1).grown hg2 (fun k h=>by cases h)
  have hown2:SOwn w2 w1.heap.size (.slice (some ⟨w1.heap.size,0,none⟩) 0 n) []:=hown2
  go_wp2_with fail
  go_loopw [4,16] (fun v i wr=>∃ k:Nat,i = .int .i64 k ∧ k ≤ n ∧ SOwn wr w1.heap.size v ((List.range k).map (pc s S)) ∧ Q w1 wr) (fun _ i _=>n - (intOf i).toNat)
  case atStart=>exact ⟨0,rfl,by omega,hown2,hq2⟩
  case round =>
   obtain ⟨k,rfl,hk,hown,hq⟩:=hrel
   have hqs:=hq.le
   by_cases hlt:k < n
   ·have hst:=HST.out k hlt
    have hg1:=HG.out k (by omega)
    have hg2':=HG.out (k + 1) (by omega)
    have c2:=(World.cell?_of_block (w:=w1) (a:=⟨g,k,none⟩) (hq.block hgl)).trans (HCell.out k (by omega))
    have c1:=(World.cell?_of_block (w:=w1) (a:=⟨g,1 + k,none⟩) (hq.block hgl)).trans (HCell.out (1 + k) (by omega))
    rw [Nat.add_comm 1 k] at c1
    obtain ⟨a,ha⟩:∃ a:Nat,(a:Int) = S.getD k 0:=⟨(S.getD k 0).toNat,by omega⟩
    obtain ⟨b,hb⟩:∃ b:Nat,(b:Int) = S.getD (k + 1) 0:=⟨(S.getD (k + 1) 0).toNat,by omega⟩
    rw [← ha,← hb] at hst
    rw [← ha] at hg1 c2
    rw [← hb] at hg2' c1
    have hab:a ≤ b:=by omega
    have hbs:b ≤ s.size:=by omega
    have hpc:pc s S k = s.extract a b:=by unfold pc;rw [← ha,← hb];rfl
    have HSN:=Lib.hid (pcs_snoc s S k)
    have HPC:=Lib.hid hpc
    have c1':wr.cell? ⟨g,1 + k,none⟩ = some (.int .i64 b):=by rw [Nat.add_comm 1 k];exact c1
    clear hpc ha hb hst
    have hlen:((List.range k).map (pc s S)).length < 1099511627776:=by rw [List.length_map,List.length_range];omega
    go_wp2_with (at_builtin;refine gpush elemS hown rfl _ _ rfl (s.extract a b) rfl (by rfl) (by rfl) hlen hqs ?_;intro v' w4 hown4 hg4 hat4)
    go_roundw
    case rel=>exact ⟨k + 1,by go_num,by omega,by rw [HSN.out,HPC.out];exact hown4,hq.grown hg4 (fun j h=>(hown.lt j h).1)⟩
    case measure=>simp [intOf];omega
   ·have hke:k = n:=by omega
    have HK:=Lib.hid hke
    clear hke
    go_wp2_with fail
    go_ret
    exact ⟨_,rfl,by rw [← HK.out];exact hown.mono hs1,hq1.trans hq⟩
theorem emp_eq (s:ByteArray):s.toList.isEmpty = s.data.toList.isEmpty:=by rw [ByteArray.toList_eq]
set_option maxRecDepth 100000 in
set_option maxHeartbeats 1000000 in
theorem cone_any (s:ByteArray) (w:World) (hs:s.size ≤ 1073741824) :
  Calls Tryz.prog 133 #[.string s] w fun e w'=>e = .returned (.bool (oneB s.data.toList)) ∧ Q w w':=by
 have hcf:=fun w=>cfirst_any s w hs
 have hsl:=size_list s
 by_cases h0:s.data.toList = []
 ·have hB:oneB s.data.toList = false:=by rw [h0];rfl
  have hb1:s.toList.isEmpty = true:=by rw [emp_eq,h0];rfl
  have hb2:(!s.toList.isEmpty) = false:=by rw [hb1];rfl
  have hb3:s.toList = []:=by rw [ByteArray.toList_eq,h0]
  have HB:=Lib.hid hB
  clear hB hcf hsl h0
  go_enter Tryz.func133,Tryz.ntmps133
  go_wp2_with fail
  go_ret
  rw [HB.out]
  exact ⟨rfl,Q.refl _⟩
 ·have hB:oneB s.data.toList = (frsL s.data.toList == (s.size:Int)):=by
   unfold oneB
   rw [hsl]
   cases h:s.data.toList with
   | nil=>exact absurd h h0
   | cons _ _=>rfl
  have hb1:s.toList.isEmpty = false:=by
   rw [emp_eq]
   cases h:s.data.toList with
   | nil=>exact absurd h h0
   | cons _ _=>rfl
  have hb2:(!s.toList.isEmpty) = true:=by rw [hb1];rfl
  obtain ⟨x,hx⟩:∃ x,x = frsL s.data.toList:=⟨_,rfl⟩
  rw [← hx] at hB hcf
  have HC:=Lib.hid hcf
  have HB:=Lib.hid hB
  clear hB hcf hx hsl h0
  go_enter Tryz.func133,Tryz.ntmps133
  go_wp2_with fail
  refine (HC.out _).mono ?_
  rintro e w1 ⟨rfl,hq1⟩
  go_wp2_with fail
  go_ret
  rw [HB.out]
  exact ⟨rfl,hq1⟩
end Go.Proofs.YtghfdapfnoeanaaGreatDoor
