/- The document's own answers on clusters, further: where they begin, which they are, whether lists of texts are the same, a character of a class. (and more) -/
import Derived.Test.YteggfkbnnmpcjaaGreatDoorR31
import Derived.Deep.DrawnRows
set_option linter.all false
set_option maxRecDepth 100000
set_option maxHeartbeats 8000000
namespace Go.Proofs.YteggfkbnnmpcjaaGreatDoor
section
open Go.RowKit Um Cm Gm
attribute [local go_sem ↓] Go.wp_at_zero Go.wp_at_succ
namespace Gr
theorem refR_jn (xs:List Int) (k:Int):refR (rc xs) k = jn (stL xs) k:=by rw [stL_rev,jn_ref];rfl
theorem allL_take (l:List UInt8) (j:Nat):stL ((allL l).take j) = stMs ((marks l).take j):=by unfold allL stMs;rw [List.map_take]
theorem allL_get (l:List UInt8) (j:Nat) (h:j < (marks l).length):(allL l).getD j 0 = ((marks l)[j]).1:=by
 unfold allL;rw [List.getD_eq_getElem?_getD,List.getElem?_map,List.getElem?_eq_getElem h];rfl
theorem startsF_get (p:Nat) (ms:List (Int × Nat × Bool)) (j:Nat) (h:j <= ms.length):(startsF p ms).getD j 0 = ((p + width (ms.take j):Nat):Int):=by
 induction ms generalizing p j with
 | nil =>
  have:j = 0:=by simpa using h
  subst this;simp [startsF,width]
 | cons m ms ih =>
  cases j with
  | zero=>simp [startsF,width]
  | succ j =>
   have:=ih (p + m.2.1) j (by simpa using h);simp only [startsF,List.getD_cons_succ,this,List.take_succ_cons];simp only [width,List.map_cons,List.sum_cons];congr 1;omega
theorem begF_take (ms:List (Int × Nat × Bool)) (j:Nat) (h:j < ms.length) :
  begF st0 0 (ms.take (j + 1)) = begF st0 0 (ms.take j) ++ (if jn (stMs (ms.take j)) (cls (ms[j]).1) = true then [] else [(width (ms.take j):Int)]):=by
 rw [List.take_succ_eq_append_getElem h,begF_snoc]
theorem starts_any (s:ByteArray) (w:World) (hs:s.size <= 1073741824) :
  Calls Tryz.prog 27 #[.string s] w fun e w'=>∃ v,e = .returned v /\ Own w' w.heap.size v (stL1 s.data.toList) /\ Q w w':=by
 have hml:=marks_length s.data.toList;rw [size_list] at hml;have hfin:stL1 s.data.toList = begF st0 0 (marks s.data.toList) ++ [(s.size:Int)]:=by unfold stL1 begL;rw [size_list]
 have hal:(allL s.data.toList).length = (marks s.data.toList).length:=by simp [allL]
 have hsl:(startsL s.data.toList).length = (marks s.data.toList).length + 1:=by unfold startsL;exact startsF_length _ _
 have hat:=allL_take s.data.toList;have hag:=allL_get s.data.toList;have hsg:=startsF_get 0 (marks s.data.toList);have hall:=fun w=>Ur.all_any s w hs;obtain ⟨A,hA⟩:∃ A,A = allL s.data.toList:=⟨_,rfl⟩;obtain ⟨S,hS⟩:∃ S,S = startsL s.data.toList:=⟨_,rfl⟩;have hS':startsF 0 (marks s.data.toList) = S:=by rw [hS];rfl
 rw [<- hA] at hal hat hag hall;rw [<- hS] at hsl hall;rw [hS'] at hsg;generalize marks s.data.toList = ms at *;rw [hfin];generalize okL s.data.toList = ok at *;obtain ⟨m,hm⟩:∃ m,m = ms.length:=⟨_,rfl⟩;rw [<- hm] at hal hsl hml;have HALL:=Hd hall;have HAL:=Hd hal;have HSL:=Hd hsl;have HAT:=Hd hat;have HAG:=Hd hag;have HSG:=Hd hsg;have HM:=Hd hm;clear hall hal hsl hat hag hsg hm hA hS hS' hfin;go_enter Tryz.func27,Tryz.ntmps27
 go_wp2_with fail
 refine (HALL.out _).mono ?_;rintro e w1 ⟨v,u,rfl,hv,hu,hap,hq1⟩;have hs1:=hq1.le;by_cases h0:m = 0
 ·subst h0
  have hms:ms = []:=List.eq_nil_of_length_eq_zero HM.out.symm;subst hms;obtain ⟨a1,k1,rfl⟩:=hv.shape;obtain ⟨a2,k2,rfl⟩:=hu.shape;rw [HAL.out,HSL.out];have hnil:Own w1 w1.heap.size (.slice none 0 0) []:=Own.nil _ _;go_wp2_with fail
  refine wp_loop_rounds 1 ?_;rw [rounds_succ];go_wp2_with (at_builtin;refine push_int hnil rfl _ _ rfl s.size (by rfl) (by rfl) (by simp) (Nat.le_refl _) ?_;intro v' w4 hown4 hg4 hat4)
  go_ret
  exact ⟨_,rfl,hown4.mono hs1,hq1.grown hg4 (fun k h=>by cases h)⟩
 ·obtain ⟨g,cap,rfl,hgB,hgl,hcp,hcm,hcell⟩:=hv.form1 (by intro h;have:=HAL.out;rw [h] at this;simp at this;omega)
  obtain ⟨gs,caps,rfl,hgsB,hgsl,hcps,hcms,hcells⟩:=hu.form1 (by intro h;have:=HSL.out;rw [h] at this;simp at this);have hlv:=hv.lst;rw [HAL.out] at hcp hcell hlv |-;rw [HSL.out] at hcps hcells |-;have HC:=Hd hcell;have HCS:=Hd hcells;clear hcell hcells hv hu hap;unfold maxLen at hcm hcms;go_wp2_with fail
  go_loopw [6,7] (fun o i wr=>∃ j:Nat,i = .int .i64 j /\ j <= m /\ Own wr w1.heap.size o (begF st0 0 (ms.take j)) /\ Q w1 wr) (fun _ i _=>m - (intOf i).toNat)
  case atStart=>exact ⟨0,rfl,by omega,Own.nil _ _,Q.refl _⟩
  case round =>
   obtain ⟨j,rfl,hj,hown,hq⟩:=hrel;have hqs:=hq.le;have hbl:(begF st0 0 (ms.take j)).length < 1099511627776:=by
    have:=begF_length st0 0 (ms.take j);have h2:(ms.take j).length <= j:=List.length_take_le _ _;omega
   by_cases hlt:j < m
   ·have hjm:j < ms.length:=by rw [<- HM.out];exact hlt
    have hc:=HAG.out j hjm;have hz:=HSG.out j (by omega);rw [Nat.zero_add] at hz;have c1:=(World.cell?_of_block (w:=w1) (a:=⟨g,j,none⟩) (hq.block hgl)).trans (HC.out j hlt);have c2:=(World.cell?_of_block (w:=w1) (a:=⟨gs,j,none⟩) (hq.block hgsl)).trans (HCS.out j (by omega));rw [hc] at c1;rw [hz] at c2;have hbt:=begF_take ms j hjm;have hlt':=(hlv.q hq).take j (by rw [HAL.out];omega);have hjc:=fun u hu=>joined_any (.slice (some ⟨g,0,none⟩) j cap) (A.take j) (ms[j]).1 u hu (by rw [List.length_take];omega:((A.take j).length <= 1073741824));rw [refR_jn,HAT.out j] at hjc;generalize jn (stMs (ms.take j)) (cls (ms[j]).1) = b at hbt hjc;generalize (ms[j]).1 = c at c1 hjc;generalize width (ms.take j) = p at c2 hbt;have hjS:∀ u,(u.cell? ⟨g,j,none⟩ = some (.int .i64 c) /\ Q wr u) -> Calls Tryz.prog 61 #[.slice (some ⟨g,0,none⟩) j cap,.int .i64 c] u fun e u'=>e = .returned (.bool b) /\ (u'.cell? ⟨g,j,none⟩ = some (.int .i64 c) /\ Q wr u'):=by
     rintro u ⟨hcu,hqu⟩;refine (hjc u (hlt'.q hqu)).mono ?_;rintro e u' ⟨rfl,hqu'⟩;exact ⟨rfl,(World.cell?_of_block (w:=u) (a:=⟨g,j,none⟩) (hqu'.block (Nat.lt_of_lt_of_le hgl (Nat.le_trans hqs hqu.le)))).trans hcu,hqu.trans hqu'⟩
    have hst:wr.drew.cell? ⟨g,j,none⟩ = some (.int .i64 c) /\ Q wr wr.drew:=⟨c1,(Q.refl _).drew⟩;have i0:(0:Int) <= (j:Int):=by omega
    have i1:(j:Int) < (m:Int):=by omega
    have i2:(j:Int) <= (cap:Int):=by omega
    have HJS:=Hd hjS;have HBT:=Hd hbt;have HST:=Hd hst;clear hjc hlt' hjS hbt hc hz hst;go_wp2_with fail
    go_region_held3 (fun u=>u.cell? ⟨g,j,none⟩ = some (.int .i64 c) /\ Q wr u) (first | exact HST.out | assumption) ((go_at_call 61;refine (HJS.out _ ?_).mono ?_;(first | exact HST.out | assumption);rintro e u ⟨rfl,hS⟩))
    all_goals
     have hqu:=(‹_ /\ Q wr _›:_ /\ Q wr _).2;have hown2:=hown.q hqu;have hq2:=hq.trans hqu;have hqs2:=hq2.le;have c2':=(World.cell?_of_block (w:=wr) (a:=⟨gs,j,none⟩) (hqu.block (Nat.lt_of_lt_of_le hgsl hqs))).trans c2;cases b
     ·go_wp2_with (at_builtin;refine push_int hown2 rfl _ _ rfl _ (by rfl) (by rfl) hbl hqs2 ?_;intro v' w4 hown4 hg4 hat4)
      go_roundw
      case rel=>exact ⟨j + 1,by go_num,by omega,by rw [HBT.out];exact hown4,hq2.grown hg4 (fun k h=>(hown2.lt k h).1)⟩
      case measure=>simp [intOf];omega
     ·go_wp2_with fail
      go_roundw
      case rel=>exact ⟨j + 1,by go_num,by omega,by rw [HBT.out,if_pos rfl,List.append_nil];exact hown2,hq2⟩
      case measure=>simp [intOf];omega
   ·have he:ms.take j = ms:=List.take_of_length_le (by rw [<- HM.out];omega)
    rw [he] at hown hbl;clear he;go_wp2_with (at_builtin;refine push_int hown rfl _ _ rfl s.size (by rfl) (by rfl) hbl hqs ?_;intro v' w4 hown4 hg4 hat4)
    go_ret
    exact ⟨_,rfl,hown4.mono hs1,(hq1.trans hq).grown hg4 (fun k h=>Nat.le_trans hs1 (hown.lt k h).1)⟩
theorem gpush_step {α:Type} {T ST:TypeId} {z:Value} {bytes:Nat} (he:Elem T ST z bytes) {en:α -> Value} {u:World} {B:Nat} {v:Value} {zs:List α} (hown:GOwn T en u B v zs) {ops:Array Oper} {o:Oper} {a:Act} {K:Act -> World -> Prop} {R:Exit -> Act -> World -> Prop} {E:Prop} (hgd:o.guard = none) (s x:Operand)
  (ho:o.op = .call { callee:=.builtin .append,args:=#[s,x],argTypes:=#[ST,ST] })
  (y:α) (h1c:(en y).oneCell' = true) (hs:a.eval s = v) (hx:a.eval x = .slice (some ⟨u.heap.size,0,none⟩) 1 1) (hlen:zs.length < 1099511627776) (hB:B <= u.heap.size)
  (h:∀ g c w',GOwn T en w' B (.slice (some ⟨g,0,none⟩) (zs.length + 1) c) (zs ++ [y]) -> u.grownBy w' v.ownBlock -> K (a.put o.dst (.slice (some ⟨g,0,none⟩) (zs.length + 1) c)) w') :
  if Region.wanted o (yielded ops a.tmps) = true then Oper.wp Tryz.prog o a (u.alloc (.cells #[en y] T)) K R else E:=by
 obtain ⟨i0,hi,hz0,hz1,hz2⟩:=info_parts he.info;refine step_append_lies (w:=u.alloc (.cells #[en y] T)) hgd s x ST ho B T i0 z 1 bytes he.under hi hz0 hz1 hz2 he.one (by decide) v zs.length _ hs (World.ownsRow.alloc hown _) ⟨u.heap.size,0,none⟩ 1 1 [en y] hx rfl (cell_one_new _ _ _) ?_ (by decide) ?_ ?_ ?_ _ rfl ?_
 ·intro c hcm;simp at hcm;subst hcm;exact h1c
 ·unfold maxLen;omega
 ·have h1:(zs.length + 1) * bytes <= (zs.length + 1) * 64:=Nat.mul_le_mul_left _ he.small
  omega
 ·simp;omega
 ·intro g c w' hown' hg _ _
  refine h g c w' ?_ ((World.grownBy_alloc u _ _).trans hg);have e1:(zs ++ [y]).length = zs.length + 1:=by simp
  unfold GOwn;rw [e1,List.map_append];exact hown'
theorem split_any (s:ByteArray) (w:World) (hs:s.size <= 1073741824) :
  Calls Tryz.prog 10 #[.string s] w fun e w'=>∃ v,e = .returned v /\ SOwn w' w.heap.size v (pcs s) /\ Q w w':=by
 obtain ⟨n,hn⟩:∃ n,n = (begL s.data.toList).length:=⟨_,rfl⟩;have hbl:=begL_length s.data.toList;rw [size_list,<- hn] at hbl;have hl1:=stL1_length s.data.toList;rw [<- hn] at hl1;have hpc:pcs s = (List.range n).map (pc s (stL1 s.data.toList)):=by unfold pcs;rw [hn]
 have hst:=fun i (h:i < n)=>stL1_step s.data.toList i (by rw [<- hn];exact h);have hgt:=fun i (h:i < n + 1)=>stL1_get s.data.toList i (by rw [hl1];exact h);rw [size_list] at hgt;have hcs:=fun w=>starts_any s w hs;rw [hpc];obtain ⟨S,hS⟩:∃ S,S = stL1 s.data.toList:=⟨_,rfl⟩;rw [<- hS] at hl1 hst hgt hcs |-;have HL:=Hd hl1;have HST:=Hd hst;have HG:=Hd hgt;have HC:=Hd hcs;clear hl1 hst hgt hcs hS hpc hn;go_enter Tryz.func10,Tryz.ntmps10
 go_wp2_with fail
 refine (HC.out _).mono ?_;rintro e w1 ⟨v,rfl,hv,hq1⟩;obtain ⟨g,cap,rfl,hgB,hgl,hcp,hcm,hcell⟩:=hv.form1 (by intro h;have:=HL.out;rw [h] at this;simp at this);rw [HL.out] at hcp hcell |-;unfold maxLen at hcm;have hs1:=hq1.le;have HCell:=Hd hcell;clear hcell;go_wp2_with fail
 go_loopw [4,5] (fun o i wr=>∃ k:Nat,i = .int .i64 ((k:Int) + 1) /\ k <= n /\ SOwn wr w1.heap.size o ((List.range k).map (pc s S)) /\ Q w1 wr) (fun _ i _=>n + 1 - (intOf i).toNat)
 case atStart=>exact ⟨0,rfl,by omega,GOwn.nil _ _ _ _,Q.refl _⟩
 case round =>
  obtain ⟨k,rfl,hk,hown,hq⟩:=hrel;have hqs:=hq.le;by_cases hlt:k < n
  ·have hst:=HST.out k hlt
   have hg1:=HG.out k (by omega);have hg2':=HG.out (k + 1) (by omega);obtain ⟨a,ha⟩:∃ a:Nat,(a:Int) = S.getD k 0:=⟨(S.getD k 0).toNat,by omega⟩;obtain ⟨b,hb⟩:∃ b:Nat,(b:Int) = S.getD (k + 1) 0:=⟨(S.getD (k + 1) 0).toNat,by omega⟩;have hsa:∀ u,Q w1 u -> u.cell? ⟨g,k,none⟩ = some (.int .i64 a) /\ u.cell? ⟨g,k + 1,none⟩ = some (.int .i64 b):=by
    intro u hu;rw [ha,hb];exact ⟨(World.cell?_of_block (w:=w1) (a:=⟨g,k,none⟩) (hu.block hgl)).trans (HCell.out k (by omega)),(World.cell?_of_block (w:=w1) (a:=⟨g,k + 1,none⟩) (hu.block hgl)).trans (HCell.out (k + 1) (by omega))⟩
   rw [<- ha,<- hb] at hst;rw [<- ha] at hg1;rw [<- hb] at hg2';have hab:(a:Int) <= (b:Int):=by omega
   have hbs:(b:Int) <= (s.size:Int):=by omega
   have ha0:(0:Int) <= (a:Int):=by omega
   have hpc:pc s S k = s.extract a b:=by unfold pc;rw [<- ha,<- hb];rfl
   have HSN:=Hd (pcs_snoc s S k);have HPC:=Hd hpc;have HSA:=Hd hsa;have HQD:=Hd hq.drew;have k0:(0:Int) <= (k:Int):=by omega
   have k1:(k:Int) < (n:Int) + 1:=by omega
   have k2:(k:Int) + 1 < (n:Int) + 1:=by omega
   have k3:(0:Int) <= (k:Int) + 1:=by omega
   have k4:((k:Int) + 1).toNat = k + 1:=by omega
   have wr1:IntKind.i64.wrap ((k:Int) + 1 - 1) = (k:Int):=by rw [show (k:Int) + 1 - 1 = k from by omega];exact IntWalk.i64_in _ (by omega)
   have wr2:IntKind.i64.wrap (k:Int) = (k:Int):=IntWalk.i64_in _ (by omega);clear hpc ha hb hst hsa;have hlen:((List.range k).map (pc s S)).length < 1099511627776:=by rw [List.length_map,List.length_range];omega
   have hod:SOwn wr.drew w1.heap.size _ _:=hown.q (Q.refl wr).drew;go_wp2_with fail
   go_region_held3 (fun u=>u.cell? ⟨g,k,none⟩ = some (.int .i64 a) /\ u.cell? ⟨g,k + 1,none⟩ = some (.int .i64 b)) (first | exact HSA.out _ HQD.out | exact HSA.out _ (HQD.out.alloc _) | exact HSA.out _ (HQD.out.grown hg4 (fun j h=>(hown.lt j h).1))) ((refine gpush_step elemS hod (by rfl) _ _ (by rfl) (s.extract a b) rfl (by rfl) (by rfl) hlen hqs ?_;intro g4 c4 w4 hown4 hg4))
   all_goals
    have hq4:=hq.drew.grown hg4 (fun j h=>(hown.lt j h).1);go_wp2_with fail
    go_roundw
    case rel=>exact ⟨k + 1,by go_num,by omega,by rw [List.length_map,List.length_range] at hown4;rw [HSN.out,HPC.out];exact hown4,hq4⟩
    case measure=>simp [intOf];omega
  ·have hke:k = n:=by omega
   have HK:=Hd hke;clear hke;go_wp2_with fail
   go_ret
   exact ⟨_,rfl,by rw [<- HK.out];exact hown.mono hs1,hq1.trans hq⟩
end Gr
end
end Go.Proofs.YteggfkbnnmpcjaaGreatDoor
