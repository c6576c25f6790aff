/- Where clusters begin, how many there are, how many bytes the first and the last one have: the four that range over the iterator. (and more) -/
import Derived.Test.YteggfkbnnmpcjaaGreatDoorR27
set_option linter.all false
set_option maxRecDepth 100000
set_option maxHeartbeats 8000000
namespace Go.Proofs.YteggfkbnnmpcjaaGreatDoor
section
open Go.RowKit Go.Shelf Um Cm Gm
attribute [local go_sem] Oper.semAt_some
theorem cstarts_any (s:ByteArray) (w:World) (hs:s.size <= 1073741824) :
  Calls Tryz.prog 77 #[.string s] w fun e w'=>∃ v,e = .returned v /\ Own w' w.heap.size v (begL s.data.toList ++ [(s.size:Int)]) /\ Q w w':=by
 have hbl:=begL_length s.data.toList;rw [size_list] at hbl;refine (callsIn_wide (n:=0)).1 ?_;refine callsIn_of_wp_marks Tryz.func77 rfl trivial ?_ rfl;simp only [Tryz.ntmps77,List.size_toArray,List.length_cons,List.length_nil,Nat.reduceAdd,Nat.reduceSub,Array.replicate_succ,Array.replicate_zero,List.push_toArray,List.append_toArray,List.nil_append,List.cons_append];gi_wp2_with fail
 refine ⟨trivial,rfl,(callsIn_wide.2 (begins_any s _)).mono ?_⟩;rintro e w' ⟨rfl,rfl⟩;gi_wp2_with fail
 have bL:=(Boxed.new w 41 (.slice none 0 0)).alloc (.cells #[.string s] 9);have bS:=Boxed.new (w.alloc (.cells #[.slice none 0 0] 41)) 9 (.string s);have hq0:Q w ((w.alloc (.cells #[.slice none 0 0] 41)).alloc (.cells #[.string s] 9)):=((Q.refl w).alloc _).alloc _;have hz0:((w.alloc (.cells #[.slice none 0 0] 41)).alloc (.cells #[.string s] 9)).heap.size = w.heap.size + 2:=by simp
 rw [World.size_alloc] at bS;generalize (w.alloc (.cells #[.slice none 0 0] 41)).alloc (.cells #[.string s] 9) = W0 at *;have hz1:W0.heap.size <= w.heap.size + 2:=by omega
 have hz2:w.heap.size + 2 <= W0.heap.size:=by omega
 clear hz0;refine range_any (gf:=158) (lb:=#[.pointer (some ⟨w.heap.size + 1,0,none⟩)]) rfl (enters_of Tryz.func158 (by kernel_rfl) rfl) (fun _=>rfl)
  (begins_iter s (w.heap.size + 1) (W0.heap.size + 1 + 1) W0 (by unfold maxLen;omega) bS (by omega)) (by unfold SetB;omega) (by omega)
  (fun pre W=>(∃ v,Boxed W w.heap.size 41 v /\ Own W (W0.heap.size + 1 + 1 + 4) v pre) /\ Q w W) (fun _ _ _=>False) ?hI (fun _ _ _ _ h _=>h) ⟨⟨_,bL,Own.nil _ _⟩,hq0⟩
  (fun x=>{ tmps:=#[.string s,undef,.slice none 0 0,.pointer (some ⟨w.heap.size,0,none⟩),.int .i64 x,.string s,.func (.func 158) #[] #[.pointer (some ⟨w.heap.size + 1,0,none⟩)],.int .i64 x,undef,undef,undef,undef,undef,undef,undef,undef,undef],defers:=[] }) ?assign ?body ?done ?stop
 case hI =>
  rintro pre A A' ⟨⟨v,hb,ho⟩,hq⟩ hg;exact ⟨⟨v,bx_gap hb hg (.inl (by omega)),ho.gap hg (ho.base (Nat.le_refl _))⟩,hq.gapped hg (by omega)⟩
 case assign =>
  intro l x W K hK;gi_wp2
  first | exact hK | simpa using hK
 case body =>
  rintro l pre x W ⟨⟨v,hb,ho⟩,hq⟩ hz hpre;have hc:=hb.cell;have hf:=hb.frozen;have hpl:pre.length < 1073741825:=by
   have:=hpre.length_le;simp at this;omega
  gi_wp2_with (gi_at_builtin;refine push_in ho rfl _ _ rfl x (by rfl) (by rfl) (by omega) hz ?_;intro g' c' w1 ho1 hg1;have hb1:=hb.kept hg1 (box_not_own hb ho (by decide));have hc1:=hb1.cell;have hf1:=hb1.frozen)
  have hlt:∀ k,v.ownBlock = some k -> W0.heap.size + 1 + 1 + 4 <= k:=fun k hk=>(ho.lt k hk).1;refine ⟨(Stand.grown hg1 fun k hk=>?_).trans (Stand.setCell _ _ _ _ _ ?_),⟨_,hb1.set _,ho1.gap (Gap.setCell _ _ _ _ w.heap.size (w.heap.size + 1) (by omega) (by omega)) (ho1.base (by omega))⟩,Below.setCell (p:=⟨w.heap.size,0,none⟩) (hq.grown hg1 fun k hk=>?_) (Nat.le_refl _) _⟩
  ·have:=hlt k hk;unfold SetB;omega
  ·unfold SetB;omega
  ·have:=hlt k hk;omega
 case done =>
  rintro xs W rfl ⟨⟨v,hb,ho⟩,hq⟩ hK;have hc:=hb.cell;have hf:=hb.frozen;have hle:=hq.le;have ho:=ho.mono (B':=w.heap.size) (by omega);gi_wp2_with (gi_at_builtin;refine push_in ho rfl _ _ rfl s.size (by rfl) (by rfl) (by omega) hle ?_;intro g' c' w1 ho1 hg1)
  have hK1:w1.heap[W0.heap.size]? = some (.deferred (some [])):=by
   refine (hg1.block _ (Array.getElem?_eq_some_iff.1 hK).1 fun e=>?_).trans hK;obtain ⟨cur,hcu⟩:=ho.cells _ e.symm;rw [hK] at hcu;cases hcu
  refine ⟨by simp,.inl ⟨_,_,rfl,run_takeDeferred hK1,?_⟩⟩;refine ⟨_,results_tmp rfl _ _ _,_,rfl,?_,?_⟩
  ·refine ho1.same fun g hg=>World.putObj_heap_other fun e=>?_
   obtain ⟨cur,hcu⟩:=ho1.cells g hg;rw [e,hK1] at hcu;cases hcu
  ·exact (hq.grown hg1 fun k hk=>(ho.lt k hk).1).gapped (Gap.putObj w1 _ _ W0.heap.size (W0.heap.size + 1) (by omega) (by omega)) (by omega)
 case stop =>
  rintro c pre W _ h _;exact h.elim
theorem cfirst_any (s:ByteArray) (w:World) (hs:s.size <= 1073741824) :
  Calls Tryz.prog 62 #[.string s] w fun e w'=>e = .returned (.int .i64 (frsL s.data.toList)) /\ Q w w':=by
 refine (callsIn_wide (n:=0)).1 ?_;refine callsIn_of_wp_marks Tryz.func62 rfl trivial ?_ rfl;simp only [Tryz.ntmps62,List.size_toArray,List.length_cons,List.length_nil,Nat.reduceAdd,Nat.reduceSub,Array.replicate_succ,Array.replicate_zero,List.push_toArray,List.append_toArray,List.nil_append,List.cons_append];gi_wp2_with fail
 refine ⟨trivial,rfl,(callsIn_wide.2 (begins_any s _)).mono ?_⟩;rintro e w' ⟨rfl,rfl⟩;gi_wp2_with fail
 have bL:=(Boxed.new w 3 (.int .i64 0)).alloc (.cells #[.string s] 9);have bS:=Boxed.new (w.alloc (.cells #[.int .i64 0] 3)) 9 (.string s);have hq0:Q w ((w.alloc (.cells #[.int .i64 0] 3)).alloc (.cells #[.string s] 9)):=((Q.refl w).alloc _).alloc _;have hz0:((w.alloc (.cells #[.int .i64 0] 3)).alloc (.cells #[.string s] 9)).heap.size = w.heap.size + 2:=by simp
 rw [World.size_alloc] at bS;generalize (w.alloc (.cells #[.int .i64 0] 3)).alloc (.cells #[.string s] 9) = W0 at *;have hz1:W0.heap.size <= w.heap.size + 2:=by omega
 have hz2:w.heap.size + 2 <= W0.heap.size:=by omega
 clear hz0;refine range_any (gf:=158) (lb:=#[.pointer (some ⟨w.heap.size + 1,0,none⟩)]) rfl (enters_of Tryz.func158 (by kernel_rfl) rfl) (fun _=>rfl)
  (begins_iter s (w.heap.size + 1) (W0.heap.size + 1 + 1) W0 (by unfold maxLen;omega) bS (by omega)) (by unfold SetB;omega) (by omega)
  (fun pre W=>Boxed W w.heap.size 3 (.int .i64 0) /\ Q w W /\ ∀ x ∈ pre,¬ 0 < x)
  (fun c pre W=>c = .ret /\ ∃ x r,pre = r ++ [x] /\ 0 < x /\ (∀ y ∈ r,¬ 0 < y) /\ Boxed W w.heap.size 3 (.int .i64 x) /\ Q w W) ?hI ?hIx ⟨bL,hq0,by simp⟩
  (fun x=>{ tmps:=#[.string s,undef,.pointer (some ⟨w.heap.size,0,none⟩),.int .i64 x,.string s,.func (.func 158) #[] #[.pointer (some ⟨w.heap.size + 1,0,none⟩)],.int .i64 x,undef,undef,undef,undef,undef],defers:=[] }) ?assign ?body ?done ?stop
 case hI =>
  rintro pre A A' ⟨hb,hq,hx⟩ hg;exact ⟨bx_gap hb hg (.inl (by omega)),hq.gapped hg (by omega),hx⟩
 case hIx =>
  rintro c pre A A' ⟨hc,x,r,h1,h2,h3,hb,hq⟩ hg;exact ⟨hc,x,r,h1,h2,h3,bx_gap hb hg (.inl (by omega)),hq.gapped hg (by omega)⟩
 case assign =>
  intro l x W K hK;gi_wp2
  first | exact hK | simpa using hK
 case body =>
  rintro l pre x W ⟨hb,hq,hx⟩ hz hpre;have hc:=hb.cell;have hf:=hb.frozen;by_cases h0:0 < x
  ·gi_wp2_with fail
   refine ⟨Stand.setCell _ _ _ _ _ (by unfold SetB;omega),rfl,x,pre,rfl,h0,hx,hb.set _,Below.setCell (p:=⟨w.heap.size,0,none⟩) hq (Nat.le_refl _) _⟩
  ·gi_wp2_with fail
   refine ⟨Stand.refl _ _,hb,hq,fun y hy=>?_⟩;rcases List.mem_append.1 hy with h | h
   ·exact hx y h
   ·rw [List.mem_singleton.1 h];exact h0
 case done =>
  rintro xs W rfl ⟨hb,hq,hx⟩ hK;have hc:=hb.cell;have hf:=hb.frozen;have hle:=hq.le;have HF:=Hd (frsL_none _ hx);rw [size_list] at HF;clear hx;gi_wp2_with fail
  have hb2:=hb.set (.int .i64 s.size);have hK2:(W.setCell ⟨w.heap.size,0,none⟩ (.int .i64 s.size)).heap[W0.heap.size]? = some (.deferred (some [])):=(Below.heap_setCell _ _ _ _ (by show W0.heap.size ≠ w.heap.size;omega)).trans hK;refine ⟨by simp,.inl ⟨_,_,rfl,run_takeDeferred hK2,?_⟩⟩;have hb3:=bx_gap hb2 (Gap.putObj _ W0.heap.size (.deferred none) W0.heap.size (W0.heap.size + 1) (by omega) (by omega)) (.inl (by omega));have hc3:=hb3.cell;rw [HF.out];refine ⟨_,?_,rfl,Q.gapped (a:=w) (Below.setCell (p:=⟨w.heap.size,0,none⟩) hq (Nat.le_refl _) _) (Gap.putObj _ _ _ W0.heap.size (W0.heap.size + 1) (by omega) (by omega)) (by omega)⟩;simp [results,Tryz.results62,go_sem,hc3]
 case stop =>
  rintro c pre W hpre ⟨rfl,x,r,rfl,h1,h2,hb,hq⟩ hK;have hle:=hq.le;have HF:=Hd (frsL_some _ _ _ hpre h1 h2);clear h2 hpre;gi_wp2_with fail
  refine ⟨by simp,.inl ⟨_,_,rfl,run_takeDeferred hK,?_⟩⟩;have hb3:=bx_gap hb (Gap.putObj _ W0.heap.size (.deferred none) W0.heap.size (W0.heap.size + 1) (by omega) (by omega)) (.inl (by omega));have hc3:=hb3.cell;rw [HF.out];refine ⟨_,?_,rfl,hq.gapped (Gap.putObj _ _ _ W0.heap.size (W0.heap.size + 1) (by omega) (by omega)) (by omega)⟩;simp [results,Tryz.results62,go_sem,hc3]
end
section
open Go.RowKit Um Cm Gm
theorem Own.form1 {w:World} {B:Nat} {v:Value} {zs:List Int} (h:Own w B v zs) (hn:zs ≠ []) :
  ∃ g cap,v = .slice (some ⟨g,0,none⟩) zs.length cap /\ B <= g /\ g < w.heap.size /\ zs.length <= cap /\ cap <= maxLen /\ ∀ i,i < zs.length -> w.cell? ⟨g,i,none⟩ = some (.int .i64 (zs.getD i 0)):=by
 rcases h.2 with ⟨hv,h0⟩ | ⟨g,cap,cur,hv,hB,hh,hnc,hcm,hcs,ht⟩
 ·exact absurd (List.eq_nil_of_length_eq_zero h0) hn
 ·refine ⟨g,cap,hv,hB,(Array.getElem?_eq_some_iff.1 hh).1,hnc,hcm,fun i hi=>?_⟩
  rw [cell_of_row w g i cur 3 (0,0) hh];have h1:=congrArg (fun l=>l[i]?) ht;simp only [List.getElem?_map,Nat.mul_one] at h1;rw [List.getElem?_take,if_pos hi] at h1;rw [<- Array.getElem?_toList,h1,List.getD_eq_getElem?_getD];rw [List.getElem?_eq_getElem hi];rfl
theorem pcs_snoc (s:ByteArray) (st:List Int) (k:Nat):(List.range (k + 1)).map (pc s st) = (List.range k).map (pc s st) ++ [pc s st k]:=by
 rw [List.range_succ,List.map_append];rfl
theorem csplit_any (s:ByteArray) (w:World) (hs:s.size <= 1073741824) :
  Calls Tryz.prog 41 #[.string s] w fun e w'=>∃ v,e = .returned v /\ SOwn w' w.heap.size v (pcs s) /\ Q w w':=by
 obtain ⟨i0,hi,hz0,hz1,hz2⟩:=info_parts elemS.info;obtain ⟨n,hn⟩:∃ n,n = (begL s.data.toList).length:=⟨_,rfl⟩;have hbl:=begL_length s.data.toList;rw [size_list,<- hn] at hbl;have hl1:=stL1_length s.data.toList;rw [<- hn] at hl1;have hpc:pcs s = (List.range n).map (pc s (stL1 s.data.toList)):=by unfold pcs;rw [hn]
 have hst:=fun i (h:i < n)=>stL1_step s.data.toList i (by rw [<- hn];exact h);have hgt:=fun i (h:i < n + 1)=>stL1_get s.data.toList i (by rw [hl1];exact h);rw [size_list] at hgt;have hcs:=fun w=>cstarts_any s w hs;have e1:begL s.data.toList ++ [(s.size:Int)] = stL1 s.data.toList:=by unfold stL1;rw [size_list]
 rw [e1] at hcs;rw [hpc];obtain ⟨S,hS⟩:∃ S,S = stL1 s.data.toList:=⟨_,rfl⟩;rw [<- hS] at hl1 hst hgt hcs |-;have HL:=Hd hl1;have HST:=Hd hst;have HG:=Hd hgt;have HC:=Hd hcs;clear hl1 hst hgt hcs hS hpc hn e1;go_enter Tryz.func41,Tryz.ntmps41
 go_wp2_with fail
 refine (HC.out _).mono ?_;rintro e w1 ⟨v,rfl,hv,hq1⟩;obtain ⟨g,cap,rfl,hgB,hgl,hcp,hcm,hcell⟩:=hv.form1 (by intro h;have:=HL.out;rw [h] at this;simp at this);rw [HL.out] at hcp hcell |-;unfold maxLen at hcm;have hs1:=hq1.le;have HCell:=Hd hcell;clear hcell;have hcast:(((n + 1:Nat):Int) - 1) = n:=by omega
 by_cases h0:n = 0
 ·subst h0
  clear hcast;by_cases hc1:cap = 1
  ·subst hc1
   go_wp2_with (at_make;refine wpList_make_own _ rfl _ _ 35 rfl w.heap.size 9 i0 (.string ByteArray.empty) 1 Tryz.underlying35 hi hz0 hz1 .i64 .i64 _ 0 rfl rfl rfl (by rw [hz2];omega) (by unfold maxLen;omega) hs1 ?_;intro w2 hown2 hg2)
   refine wp_loop_rounds 1 ?_;rw [rounds_succ];go_wp2_with fail
   go_ret
   exact ⟨_,rfl,hown2,hq1.grown hg2 (fun k h=>by cases h)⟩
  ·have hne:¬ (1 = cap):=by omega
   go_wp2_with (at_make;refine wpList_make_own _ rfl _ _ 35 rfl w.heap.size 9 i0 (.string ByteArray.empty) 1 Tryz.underlying35 hi hz0 hz1 .i64 .i64 _ 0 rfl rfl rfl (by rw [hz2];omega) (by unfold maxLen;omega) hs1 ?_;intro w2 hown2 hg2)
   refine wp_loop_rounds 1 ?_;rw [rounds_succ];go_wp2_with fail
   go_ret
   exact ⟨_,rfl,hown2,hq1.grown hg2 (fun k h=>by cases h)⟩
 ·have hne:¬ (1 = cap):=by omega
  have HNE:=Hd hne;go_wp2_with (at_make;refine wpList_make_own _ rfl _ _ 35 rfl w1.heap.size 9 i0 (.string ByteArray.empty) 1 Tryz.underlying35 hi hz0 hz1 .i64 .i64 _ n rfl rfl rfl (by rw [hz2];omega) (by unfold maxLen;omega) (Nat.le_refl _) ?_;intro w2 hown2 hg2)
  have hq2:Q w1 w2:=(Q.refl w1).grown hg2 (fun k h=>by cases h);have hown2:SOwn w2 w1.heap.size (.slice (some ⟨w1.heap.size,0,none⟩) 0 n) []:=hown2;go_wp2_with fail
  go_loopw [4,16] (fun v i wr=>∃ k:Nat,i = .int .i64 k /\ k <= n /\ SOwn wr w1.heap.size v ((List.range k).map (pc s S)) /\ Q w1 wr) (fun _ i _=>n - (intOf i).toNat)
  case atStart=>exact ⟨0,rfl,by omega,hown2,hq2⟩
  case round =>
   obtain ⟨k,rfl,hk,hown,hq⟩:=hrel;have hqs:=hq.le;by_cases hlt:k < n
   ·have hst:=HST.out k hlt
    have hg1:=HG.out k (by omega);have hg2':=HG.out (k + 1) (by omega);have c2:=(World.cell?_of_block (w:=w1) (a:=⟨g,k,none⟩) (hq.block hgl)).trans (HCell.out k (by omega));have c1:=(World.cell?_of_block (w:=w1) (a:=⟨g,1 + k,none⟩) (hq.block hgl)).trans (HCell.out (1 + k) (by omega));rw [Nat.add_comm 1 k] at c1;obtain ⟨a,ha⟩:∃ a:Nat,(a:Int) = S.getD k 0:=⟨(S.getD k 0).toNat,by omega⟩;obtain ⟨b,hb⟩:∃ b:Nat,(b:Int) = S.getD (k + 1) 0:=⟨(S.getD (k + 1) 0).toNat,by omega⟩;rw [<- ha,<- hb] at hst;rw [<- ha] at hg1 c2;rw [<- hb] at hg2' c1;have hab:a <= b:=by omega
    have hbs:b <= s.size:=by omega
    have hpc:pc s S k = s.extract a b:=by unfold pc;rw [<- ha,<- hb];rfl
    have HSN:=Hd (pcs_snoc s S k);have HPC:=Hd hpc;have c1':wr.cell? ⟨g,1 + k,none⟩ = some (.int .i64 b):=by rw [Nat.add_comm 1 k];exact c1
    clear hpc ha hb hst;have hlen:((List.range k).map (pc s S)).length < 1099511627776:=by rw [List.length_map,List.length_range];omega
    go_wp2_with (at_builtin;refine gpush elemS hown rfl _ _ rfl (s.extract a b) rfl (by rfl) (by rfl) hlen hqs ?_;intro v' w4 hown4 hg4 hat4)
    go_roundw
    case rel=>exact ⟨k + 1,by go_num,by omega,by rw [HSN.out,HPC.out];exact hown4,hq.grown hg4 (fun j h=>(hown.lt j h).1)⟩
    case measure=>simp [intOf];omega
   ·have hke:k = n:=by omega
    have HK:=Hd hke;clear hke;go_wp2_with fail
    go_ret
    exact ⟨_,rfl,by rw [<- HK.out];exact hown.mono hs1,hq1.trans hq⟩
theorem emp_eq (s:ByteArray):s.toList.isEmpty = s.data.toList.isEmpty:=by rw [ByteArray.toList_eq]
theorem cone_any (s:ByteArray) (w:World) (hs:s.size <= 1073741824) :
  Calls Tryz.prog 28 #[.string s] w fun e w'=>e = .returned (.bool (oneB s.data.toList)) /\ Q w w':=by
 have hcf:=fun w=>cfirst_any s w hs;have hsl:=size_list s;by_cases h0:s.data.toList = []
 ·have hB:oneB s.data.toList = false:=by rw [h0];rfl
  have hb1:s.toList.isEmpty = true:=by rw [emp_eq,h0];rfl
  have hb2:(!s.toList.isEmpty) = false:=by rw [hb1];rfl
  have hb3:s.toList = []:=by rw [ByteArray.toList_eq,h0]
  have HB:=Hd hB;clear hB hcf hsl h0;go_enter Tryz.func28,Tryz.ntmps28
  go_wp2_with fail
  go_ret
  rw [HB.out];exact ⟨rfl,Q.refl _⟩
 ·have hB:oneB s.data.toList = (frsL s.data.toList == (s.size:Int)):=by
   unfold oneB;rw [hsl];cases h:s.data.toList with
   | nil=>exact absurd h h0
   | cons _ _=>rfl
  have hb1:s.toList.isEmpty = false:=by
   rw [emp_eq];cases h:s.data.toList with
   | nil=>exact absurd h h0
   | cons _ _=>rfl
  have hb2:(!s.toList.isEmpty) = true:=by rw [hb1];rfl
  obtain ⟨x,hx⟩:∃ x,x = frsL s.data.toList:=⟨_,rfl⟩;rw [<- hx] at hB hcf;have HC:=Hd hcf;have HB:=Hd hB;clear hB hcf hx hsl h0;go_enter Tryz.func28,Tryz.ntmps28
  go_wp2_with fail
  refine (HC.out _).mono ?_;rintro e w1 ⟨rfl,hq1⟩;go_wp2_with fail
  go_ret
  rw [HB.out];exact ⟨rfl,hq1⟩
end
end Go.Proofs.YteggfkbnnmpcjaaGreatDoor
