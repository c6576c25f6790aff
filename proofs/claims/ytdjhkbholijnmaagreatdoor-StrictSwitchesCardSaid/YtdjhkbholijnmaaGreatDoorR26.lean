/- The document's own answers on clusters, further: where they begin, which they are, whether lists of texts are the same, a character of a class. (and more) -/
import Derived.Test.YtdjhkbholijnmaaGreatDoorR24
import Derived.Test.YtdjhkbholijnmaaGreatDoorR21
import Derived.Deep.DrawnRows
import Derived.Defers
import Derived.Recover
import Derived.Laws.Pointers
set_option linter.all false
set_option maxRecDepth 100000
set_option maxHeartbeats 8000000
namespace Go.Proofs.YtdjhkbholijnmaaGreatDoor
section
open Go.RowKit Um Cm Gm
attribute [local go_sem ↓] Go.wp_at_zero Go.wp_at_succ
namespace Gr
theorem refR_jn (xs:List Int) (k:Int):refR (rc xs) k = jn (stL xs) k:=by rw [stL_rev,jn_ref];rfl
theorem allL_take (l:List UInt8) (j:Nat):stL ((allL l).take j) = stMs ((marks l).take j):=by unfold allL stMs;rw [List.map_take]
theorem allL_get (l:List UInt8) (j:Nat) (h:j < (marks l).length):(allL l).getD j 0 = ((marks l)[j]).1:=by
 unfold allL;rw [List.getD_eq_getElem?_getD,List.getElem?_map,List.getElem?_eq_getElem h];rfl
theorem startsF_get (p:Nat) (ms:List (Int × Nat × Bool)) (j:Nat) (h:j <= ms.length):(startsF p ms).getD j 0 = ((p + width (ms.take j):Nat):Int):=by
 induction ms generalizing p j with
 | nil =>
  have:j = 0:=by simpa using h
  subst this;simp [startsF,width]
 | cons m ms ih =>
  cases j with
  | zero=>simp [startsF,width]
  | succ j =>
   have:=ih (p + m.2.1) j (by simpa using h);simp only [startsF,List.getD_cons_succ,this,List.take_succ_cons];simp only [width,List.map_cons,List.sum_cons];congr 1;omega
theorem begF_take (ms:List (Int × Nat × Bool)) (j:Nat) (h:j < ms.length) :
  begF st0 0 (ms.take (j + 1)) = begF st0 0 (ms.take j) ++ (if jn (stMs (ms.take j)) (cls (ms[j]).1) = true then [] else [(width (ms.take j):Int)]):=by
 rw [List.take_succ_eq_append_getElem h,begF_snoc]
theorem starts_any (s:ByteArray) (w:World) (hs:s.size <= 1073741824) :
  Calls Tryz.prog 71 #[.string s] w fun e w'=>∃ v,e = .returned v /\ Own w' w.heap.size v (stL1 s.data.toList) /\ Q w w':=by
 have hml:=marks_length s.data.toList;rw [size_list] at hml;have hfin:stL1 s.data.toList = begF st0 0 (marks s.data.toList) ++ [(s.size:Int)]:=by unfold stL1 begL;rw [size_list]
 have hal:(allL s.data.toList).length = (marks s.data.toList).length:=by simp [allL]
 have hsl:(startsL s.data.toList).length = (marks s.data.toList).length + 1:=by unfold startsL;exact startsF_length _ _
 have hat:=allL_take s.data.toList;have hag:=allL_get s.data.toList;have hsg:=startsF_get 0 (marks s.data.toList);have hall:=fun w=>Ur.all_any s w hs;obtain ⟨A,hA⟩:∃ A,A = allL s.data.toList:=⟨_,rfl⟩;obtain ⟨S,hS⟩:∃ S,S = startsL s.data.toList:=⟨_,rfl⟩;have hS':startsF 0 (marks s.data.toList) = S:=by rw [hS];rfl
 rw [<- hA] at hal hat hag hall;rw [<- hS] at hsl hall;rw [hS'] at hsg;generalize marks s.data.toList = ms at *;rw [hfin];generalize okL s.data.toList = ok at *;obtain ⟨m,hm⟩:∃ m,m = ms.length:=⟨_,rfl⟩;rw [<- hm] at hal hsl hml;have HALL:=Hd hall;have HAL:=Hd hal;have HSL:=Hd hsl;have HAT:=Hd hat;have HAG:=Hd hag;have HSG:=Hd hsg;have HM:=Hd hm;clear hall hal hsl hat hag hsg hm hA hS hS' hfin;go_enter Tryz.func71,Tryz.ntmps71
 go_wp2_with fail
 refine (HALL.out _).mono ?_;rintro e w1 ⟨v,u,rfl,hv,hu,hap,hq1⟩;have hs1:=hq1.le;by_cases h0:m = 0
 ·subst h0
  have hms:ms = []:=List.eq_nil_of_length_eq_zero HM.out.symm;subst hms;obtain ⟨a1,k1,rfl⟩:=hv.shape;obtain ⟨a2,k2,rfl⟩:=hu.shape;rw [HAL.out,HSL.out];have hnil:Own w1 w1.heap.size (.slice none 0 0) []:=Own.nil _ _;go_wp2_with fail
  refine wp_loop_rounds 1 ?_;rw [rounds_succ];go_wp2_with (at_builtin;refine push_int hnil rfl _ _ rfl s.size (by rfl) (by rfl) (by simp) (Nat.le_refl _) ?_;intro v' w4 hown4 hg4 hat4)
  go_ret
  exact ⟨_,rfl,hown4.mono hs1,hq1.grown hg4 (fun k h=>by cases h)⟩
 ·obtain ⟨g,cap,rfl,hgB,hgl,hcp,hcm,hcell⟩:=hv.form1 (by intro h;have:=HAL.out;rw [h] at this;simp at this;omega)
  obtain ⟨gs,caps,rfl,hgsB,hgsl,hcps,hcms,hcells⟩:=hu.form1 (by intro h;have:=HSL.out;rw [h] at this;simp at this);have hlv:=hv.lst;rw [HAL.out] at hcp hcell hlv |-;rw [HSL.out] at hcps hcells |-;have HC:=Hd hcell;have HCS:=Hd hcells;clear hcell hcells hv hu hap;unfold maxLen at hcm hcms;go_wp2_with fail
  go_loopw [6,7] (fun o i wr=>∃ j:Nat,i = .int .i64 j /\ j <= m /\ Own wr w1.heap.size o (begF st0 0 (ms.take j)) /\ Q w1 wr) (fun _ i _=>m - (intOf i).toNat)
  case atStart=>exact ⟨0,rfl,by omega,Own.nil _ _,Q.refl _⟩
  case round =>
   obtain ⟨j,rfl,hj,hown,hq⟩:=hrel;have hqs:=hq.le;have hbl:(begF st0 0 (ms.take j)).length < 1099511627776:=by
    have:=begF_length st0 0 (ms.take j);have h2:(ms.take j).length <= j:=List.length_take_le _ _;omega
   by_cases hlt:j < m
   ·have hjm:j < ms.length:=by rw [<- HM.out];exact hlt
    have hc:=HAG.out j hjm;have hz:=HSG.out j (by omega);rw [Nat.zero_add] at hz;have c1:=(World.cell?_of_block (w:=w1) (a:=⟨g,j,none⟩) (hq.block hgl)).trans (HC.out j hlt);have c2:=(World.cell?_of_block (w:=w1) (a:=⟨gs,j,none⟩) (hq.block hgsl)).trans (HCS.out j (by omega));rw [hc] at c1;rw [hz] at c2;have hbt:=begF_take ms j hjm;have hlt':=(hlv.q hq).take j (by rw [HAL.out];omega);have hjc:=fun u hu=>joined_any (.slice (some ⟨g,0,none⟩) j cap) (A.take j) (ms[j]).1 u hu (by rw [List.length_take];omega:((A.take j).length <= 1073741824));rw [refR_jn,HAT.out j] at hjc;generalize jn (stMs (ms.take j)) (cls (ms[j]).1) = b at hbt hjc;generalize (ms[j]).1 = c at c1 hjc;generalize width (ms.take j) = p at c2 hbt;have hjS:∀ u,(u.cell? ⟨g,j,none⟩ = some (.int .i64 c) /\ Q wr u) -> Calls Tryz.prog 132 #[.slice (some ⟨g,0,none⟩) j cap,.int .i64 c] u fun e u'=>e = .returned (.bool b) /\ (u'.cell? ⟨g,j,none⟩ = some (.int .i64 c) /\ Q wr u'):=by
     rintro u ⟨hcu,hqu⟩;refine (hjc u (hlt'.q hqu)).mono ?_;rintro e u' ⟨rfl,hqu'⟩;exact ⟨rfl,(World.cell?_of_block (w:=u) (a:=⟨g,j,none⟩) (hqu'.block (Nat.lt_of_lt_of_le hgl (Nat.le_trans hqs hqu.le)))).trans hcu,hqu.trans hqu'⟩
    have hst:wr.drew.cell? ⟨g,j,none⟩ = some (.int .i64 c) /\ Q wr wr.drew:=⟨c1,(Q.refl _).drew⟩;have i0:(0:Int) <= (j:Int):=by omega
    have i1:(j:Int) < (m:Int):=by omega
    have i2:(j:Int) <= (cap:Int):=by omega
    have HJS:=Hd hjS;have HBT:=Hd hbt;have HST:=Hd hst;clear hjc hlt' hjS hbt hc hz hst;go_wp2_with fail
    go_region_held3 (fun u=>u.cell? ⟨g,j,none⟩ = some (.int .i64 c) /\ Q wr u) (first | exact HST.out | assumption) ((go_at_call 132;refine (HJS.out _ ?_).mono ?_;(first | exact HST.out | assumption);rintro e u ⟨rfl,hS⟩))
    all_goals
     have hqu:=(‹_ /\ Q wr _›:_ /\ Q wr _).2;have hown2:=hown.q hqu;have hq2:=hq.trans hqu;have hqs2:=hq2.le;have c2':=(World.cell?_of_block (w:=wr) (a:=⟨gs,j,none⟩) (hqu.block (Nat.lt_of_lt_of_le hgsl hqs))).trans c2;cases b
     ·go_wp2_with (at_builtin;refine push_int hown2 rfl _ _ rfl _ (by rfl) (by rfl) hbl hqs2 ?_;intro v' w4 hown4 hg4 hat4)
      go_roundw
      case rel=>exact ⟨j + 1,by go_num,by omega,by rw [HBT.out];exact hown4,hq2.grown hg4 (fun k h=>(hown2.lt k h).1)⟩
      case measure=>simp [intOf];omega
     ·go_wp2_with fail
      go_roundw
      case rel=>exact ⟨j + 1,by go_num,by omega,by rw [HBT.out,if_pos rfl,List.append_nil];exact hown2,hq2⟩
      case measure=>simp [intOf];omega
   ·have he:ms.take j = ms:=List.take_of_length_le (by rw [<- HM.out];omega)
    rw [he] at hown hbl;clear he;go_wp2_with (at_builtin;refine push_int hown rfl _ _ rfl s.size (by rfl) (by rfl) hbl hqs ?_;intro v' w4 hown4 hg4 hat4)
    go_ret
    exact ⟨_,rfl,hown4.mono hs1,(hq1.trans hq).grown hg4 (fun k h=>Nat.le_trans hs1 (hown.lt k h).1)⟩
theorem gpush_step {α:Type} {T ST:TypeId} {z:Value} {bytes:Nat} (he:Elem T ST z bytes) {en:α -> Value} {u:World} {B:Nat} {v:Value} {zs:List α} (hown:GOwn T en u B v zs) {ops:Array Oper} {o:Oper} {a:Act} {K:Act -> World -> Prop} {R:Exit -> Act -> World -> Prop} {E:Prop} (hgd:o.guard = none) (s x:Operand)
  (ho:o.op = .call { callee:=.builtin .append,args:=#[s,x],argTypes:=#[ST,ST] })
  (y:α) (h1c:(en y).oneCell' = true) (hs:a.eval s = v) (hx:a.eval x = .slice (some ⟨u.heap.size,0,none⟩) 1 1) (hlen:zs.length < 1099511627776) (hB:B <= u.heap.size)
  (h:∀ g c w',GOwn T en w' B (.slice (some ⟨g,0,none⟩) (zs.length + 1) c) (zs ++ [y]) -> u.grownBy w' v.ownBlock -> K (a.put o.dst (.slice (some ⟨g,0,none⟩) (zs.length + 1) c)) w') :
  if Region.wanted o (yielded ops a.tmps) = true then Oper.wp Tryz.prog o a (u.alloc (.cells #[en y] T)) K R else E:=by
 obtain ⟨i0,hi,hz0,hz1,hz2⟩:=info_parts he.info;refine step_append_lies (w:=u.alloc (.cells #[en y] T)) hgd s x ST ho B T i0 z 1 bytes he.under hi hz0 hz1 hz2 he.one (by decide) v zs.length _ hs (World.ownsRow.alloc hown _) ⟨u.heap.size,0,none⟩ 1 1 [en y] hx rfl (cell_one_new _ _ _) ?_ (by decide) ?_ ?_ ?_ _ rfl ?_
 ·intro c hcm;simp at hcm;subst hcm;exact h1c
 ·unfold maxLen;omega
 ·have h1:(zs.length + 1) * bytes <= (zs.length + 1) * 64:=Nat.mul_le_mul_left _ he.small
  omega
 ·simp;omega
 ·intro g c w' hown' hg _ _
  refine h g c w' ?_ ((World.grownBy_alloc u _ _).trans hg);have e1:(zs ++ [y]).length = zs.length + 1:=by simp
  unfold GOwn;rw [e1,List.map_append];exact hown'
theorem split_any (s:ByteArray) (w:World) (hs:s.size <= 1073741824) :
  Calls Tryz.prog 36 #[.string s] w fun e w'=>∃ v,e = .returned v /\ SOwn w' w.heap.size v (pcs s) /\ Q w w':=by
 obtain ⟨n,hn⟩:∃ n,n = (begL s.data.toList).length:=⟨_,rfl⟩;have hbl:=begL_length s.data.toList;rw [size_list,<- hn] at hbl;have hl1:=stL1_length s.data.toList;rw [<- hn] at hl1;have hpc:pcs s = (List.range n).map (pc s (stL1 s.data.toList)):=by unfold pcs;rw [hn]
 have hst:=fun i (h:i < n)=>stL1_step s.data.toList i (by rw [<- hn];exact h);have hgt:=fun i (h:i < n + 1)=>stL1_get s.data.toList i (by rw [hl1];exact h);rw [size_list] at hgt;have hcs:=fun w=>starts_any s w hs;rw [hpc];obtain ⟨S,hS⟩:∃ S,S = stL1 s.data.toList:=⟨_,rfl⟩;rw [<- hS] at hl1 hst hgt hcs |-;have HL:=Hd hl1;have HST:=Hd hst;have HG:=Hd hgt;have HC:=Hd hcs;clear hl1 hst hgt hcs hS hpc hn;go_enter Tryz.func36,Tryz.ntmps36
 go_wp2_with fail
 refine (HC.out _).mono ?_;rintro e w1 ⟨v,rfl,hv,hq1⟩;obtain ⟨g,cap,rfl,hgB,hgl,hcp,hcm,hcell⟩:=hv.form1 (by intro h;have:=HL.out;rw [h] at this;simp at this);rw [HL.out] at hcp hcell |-;unfold maxLen at hcm;have hs1:=hq1.le;have HCell:=Hd hcell;clear hcell;go_wp2_with fail
 go_loopw [4,5] (fun o i wr=>∃ k:Nat,i = .int .i64 ((k:Int) + 1) /\ k <= n /\ SOwn wr w1.heap.size o ((List.range k).map (pc s S)) /\ Q w1 wr) (fun _ i _=>n + 1 - (intOf i).toNat)
 case atStart=>exact ⟨0,rfl,by omega,GOwn.nil _ _ _ _,Q.refl _⟩
 case round =>
  obtain ⟨k,rfl,hk,hown,hq⟩:=hrel;have hqs:=hq.le;by_cases hlt:k < n
  ·have hst:=HST.out k hlt
   have hg1:=HG.out k (by omega);have hg2':=HG.out (k + 1) (by omega);obtain ⟨a,ha⟩:∃ a:Nat,(a:Int) = S.getD k 0:=⟨(S.getD k 0).toNat,by omega⟩;obtain ⟨b,hb⟩:∃ b:Nat,(b:Int) = S.getD (k + 1) 0:=⟨(S.getD (k + 1) 0).toNat,by omega⟩;have hsa:∀ u,Q w1 u -> u.cell? ⟨g,k,none⟩ = some (.int .i64 a) /\ u.cell? ⟨g,k + 1,none⟩ = some (.int .i64 b):=by
    intro u hu;rw [ha,hb];exact ⟨(World.cell?_of_block (w:=w1) (a:=⟨g,k,none⟩) (hu.block hgl)).trans (HCell.out k (by omega)),(World.cell?_of_block (w:=w1) (a:=⟨g,k + 1,none⟩) (hu.block hgl)).trans (HCell.out (k + 1) (by omega))⟩
   rw [<- ha,<- hb] at hst;rw [<- ha] at hg1;rw [<- hb] at hg2';have hab:(a:Int) <= (b:Int):=by omega
   have hbs:(b:Int) <= (s.size:Int):=by omega
   have ha0:(0:Int) <= (a:Int):=by omega
   have hpc:pc s S k = s.extract a b:=by unfold pc;rw [<- ha,<- hb];rfl
   have HSN:=Hd (pcs_snoc s S k);have HPC:=Hd hpc;have HSA:=Hd hsa;have HQD:=Hd hq.drew;have k0:(0:Int) <= (k:Int):=by omega
   have k1:(k:Int) < (n:Int) + 1:=by omega
   have k2:(k:Int) + 1 < (n:Int) + 1:=by omega
   have k3:(0:Int) <= (k:Int) + 1:=by omega
   have k4:((k:Int) + 1).toNat = k + 1:=by omega
   have wr1:IntKind.i64.wrap ((k:Int) + 1 - 1) = (k:Int):=by rw [show (k:Int) + 1 - 1 = k from by omega];exact IntWalk.i64_in _ (by omega)
   have wr2:IntKind.i64.wrap (k:Int) = (k:Int):=IntWalk.i64_in _ (by omega);clear hpc ha hb hst hsa;have hlen:((List.range k).map (pc s S)).length < 1099511627776:=by rw [List.length_map,List.length_range];omega
   have hod:SOwn wr.drew w1.heap.size _ _:=hown.q (Q.refl wr).drew;go_wp2_with fail
   go_region_held3 (fun u=>u.cell? ⟨g,k,none⟩ = some (.int .i64 a) /\ u.cell? ⟨g,k + 1,none⟩ = some (.int .i64 b)) (first | exact HSA.out _ HQD.out | exact HSA.out _ (HQD.out.alloc _) | exact HSA.out _ (HQD.out.grown hg4 (fun j h=>(hown.lt j h).1))) ((refine gpush_step elemS hod (by rfl) _ _ (by rfl) (s.extract a b) rfl (by rfl) (by rfl) hlen hqs ?_;intro g4 c4 w4 hown4 hg4))
   all_goals
    have hq4:=hq.drew.grown hg4 (fun j h=>(hown.lt j h).1);go_wp2_with fail
    go_roundw
    case rel=>exact ⟨k + 1,by go_num,by omega,by rw [List.length_map,List.length_range] at hown4;rw [HSN.out,HPC.out];exact hown4,hq4⟩
    case measure=>simp [intOf];omega
  ·have hke:k = n:=by omega
   have HK:=Hd hke;clear hke;go_wp2_with fail
   go_ret
   exact ⟨_,rfl,by rw [<- HK.out];exact hown.mono hs1,hq1.trans hq⟩
end Gr
end
section
open Go.RowKit
namespace Lo
open Um Cm Gm
/-! ### the program's -/
theorem word_any (s:ByteArray) (w:World) (hs:s.size <= 1000000) :
  Calls Tryz.prog 154 #[.string s] w fun e w'=>e = .returned (.bool (Lm.wordB s.data.toList)) /\ Q w w':=by
 have hsl:=size_list s;have hm:s.size <= maxLen:=by unfold maxLen;omega
 have hv:=fun w=>valid_any s w hm;by_cases h16:s.size <= 16
 ·have h16i:(s.size:Int) <= 16:=by omega
  cases hb:okL s.data.toList with
  | false =>
   have HF:=Hd (show Lm.wordB s.data.toList = false by unfold Lm.wordB;rw [hb];simp);simp only [hb] at hv;have HV:=Hd hv;clear hv hb hsl hm;rw [HF.out];go_enter Tryz.func154,Tryz.ntmps154
   go_wp2_with fail
   refine (HV.out _).mono ?_;rintro e w1 ⟨rfl,hq1⟩;go_wp2_with fail
   go_ret
   exact ⟨rfl,hq1⟩
  | true =>
   have hml:=marks_length s.data.toList;have hal:(allL s.data.toList).length <= 1073741824:=by unfold allL;rw [List.length_map];omega
   have ha:=Hd fun w=>all_any s w (by omega);have hp:=Hd fun v w hv=>plain_any v (allL s.data.toList) w hv hal;have HF:=Hd (show Lm.wordB s.data.toList = plainB (allL s.data.toList) by unfold Lm.wordB;rw [hb,hsl];simp [h16]);simp only [hb] at hv;have HV:=Hd hv;rw [HF.out];clear hv hb hsl hm hml hal HF;generalize plainB (allL s.data.toList) = P at *;generalize allL s.data.toList = A at *;go_enter Tryz.func154,Tryz.ntmps154
   go_wp2_with fail
   refine (HV.out _).mono ?_;rintro e w1 ⟨rfl,hq1⟩;go_wp2_with fail
   refine (ha.out _).mono ?_;rintro e w2 ⟨v2,rfl,hv2,hq2⟩;go_wp2_with fail
   refine (hp.out _ _ hv2.lst).mono ?_;rintro e w3 ⟨rfl,hq3⟩;go_wp2_with fail
   go_ret
   exact ⟨rfl,hq1.trans (hq2.trans hq3)⟩
 ·have h16i:¬ (s.size:Int) <= 16:=by omega
  have HF:=Hd (show Lm.wordB s.data.toList = false by unfold Lm.wordB;rw [hsl];simp [h16]);clear hv hsl hm;rw [HF.out];go_enter Tryz.func154,Tryz.ntmps154
  go_wp2_with fail
  go_ret
  exact ⟨rfl,Q.refl _⟩
theorem symbol_any (s:ByteArray) (w:World) (hs:s.size <= 1000000) :
  Calls Tryz.prog 97 #[.string s] w fun e w'=>e = .returned (.bool (Lm.symB s.data.toList)) /\ Q w w':=by
 have hw:=fun w=>word_any s w hs;have hc:=fun w=>cone_any s w (by omega);have HF:=Hd (show Lm.symB s.data.toList = (Lm.wordB s.data.toList && oneB s.data.toList) from rfl);rw [HF.out];clear HF;generalize Lm.wordB s.data.toList = W at *;generalize oneB s.data.toList = C at *;have HW:=Hd hw;have HC:=Hd hc;clear hw hc;cases W with
 | false =>
  go_enter Tryz.func97,Tryz.ntmps97
  go_wp2_with fail
  refine (HW.out _).mono ?_;rintro e w1 ⟨rfl,hq1⟩;go_wp2_with fail
  go_ret
  exact ⟨rfl,hq1⟩
 | true =>
  go_enter Tryz.func97,Tryz.ntmps97
  go_wp2_with fail
  refine (HW.out _).mono ?_;rintro e w1 ⟨rfl,hq1⟩;go_wp2_with fail
  refine (HC.out _).mono ?_;rintro e w2 ⟨rfl,hq2⟩;go_wp2_with fail
  go_ret
  exact ⟨rfl,hq1.trans hq2⟩
/-! ### the document's -/
/-! ### a system's name -/
theorem known_ok (x:ByteArray) (w:World) (hx:x.size <= maxLen) (h:Sm.nz x.data.toList ≠ -1) :
  Calls Tryz.prog 95 #[.string x] w fun e w'=>e = .returned (.bool true) /\ Q w w':=by
 have hz:=Hd fun w=>Sy.zero_some x w hx h;clear h;go_enter Tryz.func95,Tryz.ntmps95
 go_wp2_with fail
 refine (hz.out _).mono ?_;rintro e w1 ⟨rfl,hq1⟩;go_wp2_with fail
 go_ret
 exact ⟨rfl,hq1⟩
end Lo
end
section
open Go.RowKit
namespace Lo
open Um Cm Gm
def recC (r:Lm.Rec):List Value:=[.string (Lm.bs r.nam),.string (Lm.bs r.pat),.string (Lm.bs r.sys),.string (Lm.bs r.dec),.string (Lm.bs r.grp),.string (Lm.bs r.min),.string (Lm.bs r.per),.string (Lm.bs r.cur)]
def locC (r:Lm.Rec) (X:Pt.Pat) (a b c d cl:Value):List Value:=[.string (Lm.bs r.nam),.string (Lm.bs r.pat),.string (Lm.bs r.sys),.string (Lm.bs r.dec),.string (Lm.bs r.grp),.string (Lm.bs r.min),.string (Lm.bs r.per),.string (Lm.bs r.cur),a,b,c,d,.int .i64 X.pr,.int .i64 X.se,.int .i64 X.mi,.int .i64 X.mf,.int .i64 X.xf,.string (Lm.dgt r 0),.string (Lm.dgt r 1),.string (Lm.dgt r 2),.string (Lm.dgt r 3),.string (Lm.dgt r 4),.string (Lm.dgt r 5),.string (Lm.dgt r 6),.string (Lm.dgt r 7),.string (Lm.dgt r 8),.string (Lm.dgt r 9),.string (Lm.bs r.dec),.string (Lm.bs r.grp),.string (Lm.bs r.min),cl]
@[reducible] def recV (r:Lm.Rec):Value:=.agg #[.string (Lm.bs r.nam),.string (Lm.bs r.pat),.string (Lm.bs r.sys),.string (Lm.bs r.dec),.string (Lm.bs r.grp),.string (Lm.bs r.min),.string (Lm.bs r.per),.string (Lm.bs r.cur)]
def LB (w:World) (g:Nat) (r:Lm.Rec) (X:Pt.Pat) (a b c d cl:Value):Prop :=
 Bk w g 126 (locC r X a b c d cl) /\ Pc.LstP w a X.pre /\ Pc.LstP w b X.suf /\ Pc.LstP w c X.npre /\ Pc.LstP w d X.nsuf
theorem LB.q {w w':World} {g:Nat} {r:Lm.Rec} {X:Pt.Pat} {a b c d cl:Value} (h:LB w g r X a b c d cl) (hq:Q w w'):LB w' g r X a b c d cl :=
 ⟨h.1.q hq,h.2.1.q hq,h.2.2.1.q hq,h.2.2.2.1.q hq,h.2.2.2.2.q hq⟩
theorem LB.syms {w:World} {g:Nat} {r:Lm.Rec} {X:Pt.Pat} {a b c d cl:Value} (h:LB w g r X a b c d cl) (n:Nat) (hn:n <= 13):SLst w (.slice (some ⟨g,17,none⟩) n 13) ((Lm.syms r).take n):=by
 have hl:((Lm.syms r).take n).length = n:=by rw [List.length_take];show min n 13 = n;omega
 refine .inr ⟨g,17,13,by rw [hl],h.1.lt,by rw [hl];exact hn,by unfold maxLen;omega,fun i x hi=>?_⟩;have hin:i < n:=by have:=(List.getElem?_eq_some_iff.1 hi).1;omega
 rw [List.getElem?_take,if_pos hin] at hi;refine h.1.cell (17 + i) ?_;have e:(locC r X a b c d cl)[17 + i]? = ((Lm.syms r)[i]?).map Value.string:=by
  have hi13:i < 13:=by omega
  match i,hi13 with
  | 0,_=>rfl
  | 1,_=>rfl
  | 2,_=>rfl
  | 3,_=>rfl
  | 4,_=>rfl
  | 5,_=>rfl
  | 6,_=>rfl
  | 7,_=>rfl
  | 8,_=>rfl
  | 9,_=>rfl
  | 10,_=>rfl
  | 11,_=>rfl
  | 12,_=>rfl
 rw [e,hi];rfl
theorem plc_sp (x:ByteArray) (xs:List ByteArray):∀ k,Sp.plc x xs k = Lm.plc x xs k:=by
 induction xs with
 | nil=>intro k;rfl
 | cons y r ih=>intro k;unfold Sp.plc Lm.plc;rw [ih]
theorem rs_ptx (r:Lm.Rec) (A:List Pc.E):A.flatMap (Pg.rsP (Lm.bs r.cur) (Lm.bs r.per) ⟨#[]⟩) = Lm.atx r A:=by
 unfold Lm.atx;congr 1
 funext x
 unfold Pg.rsP Lm.ptx;rw [Lm.bs_list,Lm.bs_list];by_cases h0:x.1 = 0
 ·rw [if_pos h0,if_pos h0]
 ·by_cases h1:x.1 = 1
  ·rw [if_neg h0,if_neg h0,if_pos h1,if_pos h1]
  ·by_cases h2:x.1 = 2
   ·rw [if_neg h0,if_neg h0,if_neg h1,if_neg h1,if_pos h2,if_pos h2]
   ·rw [if_neg h0,if_neg h0,if_neg h1,if_neg h1,if_neg h2,if_neg h2]
    split <;> rfl
theorem text_any (g:Nat) (r:Lm.Rec) (X:Pt.Pat) (a b c d cl v:Value) (A:List Pc.E) (w:World) (hB:LB w g r X a b c d cl) (hv:Pc.LstP w v A) (hA:A.length <= 1000000) (hz:(Lm.atx r A).length <= 1000000) :
  Calls Tryz.prog 118 #[.pointer (some ⟨g,0,none⟩),v] w fun e w'=>e = .returned (.string (Lm.bs (Lm.atx r A))) /\ Q w w':=by
 have hR:=fun u (hq:Q w u)=>Pg.resolveP_any v A (Lm.bs r.cur) (Lm.bs r.per) ⟨#[]⟩ u (hv.q hq) hA (by rw [rs_ptx];exact hz);rw [rs_ptx] at hR;have HR:=Hd hR;have HB:=Hd hB.1;obtain ⟨a0,c0,rfl,_,_⟩:=hv.shape2;generalize A.length = n at *;have HF:Hid ((⟨(Lm.atx r A).toArray⟩:ByteArray) = Lm.bs (Lm.atx r A)):=Hd rfl;rw [HF.out] at HR;generalize Lm.bs (Lm.atx r A) = Z at *;clear hB hv hA hz hR HF;go_enter Tryz.func118,Tryz.ntmps118
 go_upto_region 1 with fail
 refine wp_region_held_drew (S:=fun u=>Q w u) (by kernel_rfl) (by exact (Q.refl w).drew) (fun hHeld=>?_);have hS:Q w w.drew:=hHeld;clear hHeld;have hq:Q w w.drew:=(Q.refl _).drew;clear hq;generalize w.drew = yR1x0 at *;refine tk 0 (by simp only [gA,gB,gC];rfl) (by first | kernel_rfl | rfl) (fun uz _=>by go_simp;try with_reducible rfl) pq hS ?_;try simp only [Act.put,sA,sB,sC]
 refine tk 1 (by simp only [gA,gB,gC];rfl) (by first | kernel_rfl | rfl) (fun uz _=>by go_simp;try with_reducible rfl) pq hS ?_;try simp only [Act.put,sA,sB,sC]
 refine tk 2 (by simp only [gA,gB,gC];rfl) (by first | kernel_rfl | rfl) (fun uz _=>by go_simp;try with_reducible rfl) pq hS ?_;try simp only [Act.put,sA,sB,sC]
 refine tk 3 (by simp only [gA,gB,gC];rfl) (by first | kernel_rfl | rfl) (fun uz _=>by go_simp;try with_reducible rfl) pq hS ?_;try simp only [Act.put,sA,sB,sC]
 refine tk 4 (by simp only [gA,gB,gC];rfl) (by first | kernel_rfl | rfl) (fun uz _=>by go_simp;try with_reducible rfl) pq hS ?_;try simp only [Act.put,sA,sB,sC]
 refine tk 5 (by simp only [gA,gB,gC];rfl) (by first | kernel_rfl | rfl) (fun uz hSw=>by (try dsimp only at hSw);have kb:=HB.out.q hSw;have k6:=kb.cell 6 rfl;have k7:=kb.cell 7 rfl;clear kb;go_simp;try with_reducible rfl) pq hS ?_;try simp only [Act.put,sA,sB,sC]
 refine tk 6 (by simp only [gA,gB,gC];rfl) (by first | kernel_rfl | rfl) (fun uz _=>by go_simp;try with_reducible rfl) pq hS ?_;try simp only [Act.put,sA,sB,sC]
 refine tk 7 (by simp only [gA,gB,gC];rfl) (by first | kernel_rfl | rfl) (fun uz _=>by go_simp;try with_reducible rfl) pq hS ?_;try simp only [Act.put,sA,sB,sC]
 refine tk 8 (by simp only [gA,gB,gC];rfl) (by first | kernel_rfl | rfl) (fun uz _=>by go_simp;try with_reducible rfl) pq hS ?_;try simp only [Act.put,sA,sB,sC]
 refine tk 9 (by simp only [gA,gB,gC];rfl) (by first | kernel_rfl | rfl) (fun uz _=>by go_simp;try with_reducible rfl) pq hS ?_;try simp only [Act.put,sA,sB,sC]
 refine tk 10 (by simp only [gA,gB,gC];rfl) (by first | kernel_rfl | rfl) (fun uz hSw=>by (try dsimp only at hSw);have kb:=HB.out.q hSw;have k6:=kb.cell 6 rfl;have k7:=kb.cell 7 rfl;clear kb;go_simp;try with_reducible rfl) pq hS ?_;try simp only [Act.put,sA,sB,sC]
 refine wpAnyH_ready (rs:=[11]) (by kernel_rfl) (by simp) ?_;refine ar rfl fun K hK=>?_;go_simp
 refine (HR.out _ hS).mono ?_;rintro e yR1x12 ⟨rfl,hq⟩;try (go_wp2_with fail)
 have hS2:=Q.trans hS hq;refine hK.out _ _ (by exact hS2) (fun hHeld=>?_);clear hK K hHeld hS hq;have hS:=hS2;clear hS2;try simp only [Act.put,sA,sB,sC]
 refine tk 12 (by simp only [gA,gB,gC];rfl) (by first | kernel_rfl | rfl) (fun uz _=>by go_simp;try with_reducible rfl) pq hS ?_;try simp only [Act.put,sA,sB,sC]
 refine wpAnyH_done (by kernel_rfl) ?_ _;have HQ:=Hd hS;clear hS;go_wp2_with fail
 try (rename_i dx1 d1 hx1;have hy1:(some 4:Option Tmp) = some d1:=hx1;obtain rfl:=Option.some.inj hy1;clear hx1 hy1)
 go_ret
 exact ⟨rfl,HQ.out⟩
theorem long_ok (g:Nat) (r:Lm.Rec) (X:Pt.Pat) (a b c d cl v:Value) (A:List Pc.E) (w:World) (hB:LB w g r X a b c d cl) (hv:Pc.LstP w v A) (hA:A.length <= 1000000) (hz:(Lm.atx r A).length <= 64) :
  Calls Tryz.prog 109 #[.pointer (some ⟨g,0,none⟩),v] w fun e w'=>e = .returned (.bool false) /\ Q w w':=by
 have ht:=Hd (text_any g r X a b c d cl v A w hB hv hA (by omega));have hs:=Lm.bs_size (Lm.atx r A);generalize Lm.bs (Lm.atx r A) = Z at *;have hz2:¬ (64:Int) < (Z.size:Int):=by omega
 obtain ⟨a0,c0,rfl,_,_⟩:=hv.shape2;generalize A.length = n at *;clear hB hv hA hz hs;go_enter Tryz.func109,Tryz.ntmps109
 go_wp2_with fail
 refine ht.out.mono ?_;rintro e w1 ⟨rfl,hq1⟩;go_wp2_with fail
 go_ret
 exact ⟨retB (decide_eq_false (by omega)),hq1⟩
theorem sizes_any (g:Nat) (r:Lm.Rec) (X:Pt.Pat) (a b c d cl:Value) (w:World) (hB:LB w g r X a b c d cl) :
  Calls Tryz.prog 79 #[.pointer (some ⟨g,0,none⟩)] w fun e w'=>e = .returned (.tuple #[.int .i64 X.pr,.int .i64 X.se]) /\ Q w w':=by
 have HB:=Hd hB.1;clear hB;go_enter Tryz.func79,Tryz.ntmps79
 go_upto_region 1 with fail
 refine wp_region_held_drew (S:=fun u=>Q w u) (by kernel_rfl) (by exact (Q.refl w).drew) (fun hHeld=>?_);have hS:Q w w.drew:=hHeld;clear hHeld;have hq:Q w w.drew:=(Q.refl _).drew;clear hq;generalize w.drew = yR2x0 at *;refine tk 0 (by simp only [gA,gB,gC];rfl) (by first | kernel_rfl | rfl) (fun uz _=>by go_simp;try with_reducible rfl) pq hS ?_;try simp only [Act.put,sA,sB,sC]
 refine tk 1 (by simp only [gA,gB,gC];rfl) (by first | kernel_rfl | rfl) (fun uz _=>by go_simp;try with_reducible rfl) pq hS ?_;try simp only [Act.put,sA,sB,sC]
 refine tk 2 (by simp only [gA,gB,gC];rfl) (by first | kernel_rfl | rfl) (fun uz _=>by go_simp;try with_reducible rfl) pq hS ?_;try simp only [Act.put,sA,sB,sC]
 refine tk 3 (by simp only [gA,gB,gC];rfl) (by first | kernel_rfl | rfl) (fun uz _=>by go_simp;try with_reducible rfl) pq hS ?_;try simp only [Act.put,sA,sB,sC]
 refine tk 4 (by simp only [gA,gB,gC];rfl) (by first | kernel_rfl | rfl) (fun uz hSw=>by (try dsimp only at hSw);have kb:=HB.out.q hSw;have k12:=kb.cell 12 rfl;have k13:=kb.cell 13 rfl;clear kb;go_simp;try with_reducible rfl) pq hS ?_;try simp only [Act.put,sA,sB,sC]
 refine tk 5 (by simp only [gA,gB,gC];rfl) (by first | kernel_rfl | rfl) (fun uz _=>by go_simp;try with_reducible rfl) pq hS ?_;try simp only [Act.put,sA,sB,sC]
 refine tk 6 (by simp only [gA,gB,gC];rfl) (by first | kernel_rfl | rfl) (fun uz _=>by go_simp;try with_reducible rfl) pq hS ?_;try simp only [Act.put,sA,sB,sC]
 refine tk 7 (by simp only [gA,gB,gC];rfl) (by first | kernel_rfl | rfl) (fun uz _=>by go_simp;try with_reducible rfl) pq hS ?_;try simp only [Act.put,sA,sB,sC]
 refine tk 8 (by simp only [gA,gB,gC];rfl) (by first | kernel_rfl | rfl) (fun uz _=>by go_simp;try with_reducible rfl) pq hS ?_;try simp only [Act.put,sA,sB,sC]
 refine tk 9 (by simp only [gA,gB,gC];rfl) (by first | kernel_rfl | rfl) (fun uz hSw=>by (try dsimp only at hSw);have kb:=HB.out.q hSw;have k12:=kb.cell 12 rfl;have k13:=kb.cell 13 rfl;clear kb;go_simp;try with_reducible rfl) pq hS ?_;try simp only [Act.put,sA,sB,sC]
 refine tk 10 (by simp only [gA,gB,gC];rfl) (by first | kernel_rfl | rfl) (fun uz _=>by go_simp;try with_reducible rfl) pq hS ?_;try simp only [Act.put,sA,sB,sC]
 refine tk 11 (by simp only [gA,gB,gC];rfl) (by first | kernel_rfl | rfl) (fun uz _=>by go_simp;try with_reducible rfl) pq hS ?_;try simp only [Act.put,sA,sB,sC]
 refine wpAnyH_done (by kernel_rfl) ?_ _;have HQ:=Hd hS;clear hS;go_wp2_with fail
 first
  | (rename_i dx1 d1 hx1 dx2 d2 hx2;have hy1:(some 3:Option Tmp) = some d1:=hx1;have hy2:(some 2:Option Tmp) = some d2:=hx2;obtain rfl:=Option.some.inj hy1;obtain rfl:=Option.some.inj hy2;clear hx1 hx2 hy1 hy2)
  | (rename_i dx1 d1 hx1;have hy1:(some 3:Option Tmp) = some d1:=hx1;obtain rfl:=Option.some.inj hy1;clear hx1 hy1)
  | (rename_i dx1 d1 hx1;have hy1:(some 2:Option Tmp) = some d1:=hx1;obtain rfl:=Option.some.inj hy1;clear hx1 hy1)
  | skip
 go_ret2
 exact ⟨rfl,HQ.out⟩
theorem digit_in (g:Nat) (r:Lm.Rec) (X:Pt.Pat) (a b c d cl:Value) (k:Nat) (w:World) (hB:LB w g r X a b c d cl) (hk:k < 10) :
  Calls Tryz.prog 80 #[.pointer (some ⟨g,0,none⟩),.int .i64 k] w fun e w'=>e = .returned (.string (Lm.dgt r k)) /\ Q w w':=by
 have HC:∃ z,z = Lm.dgt r k /\ w.cell? ⟨g,17 + k,none⟩ = some (.string z):=by
  refine ⟨_,rfl,hB.1.cell (17 + k) ?_⟩;match k,hk with
  | 0,_=>rfl
  | 1,_=>rfl
  | 2,_=>rfl
  | 3,_=>rfl
  | 4,_=>rfl
  | 5,_=>rfl
  | 6,_=>rfl
  | 7,_=>rfl
  | 8,_=>rfl
  | 9,_=>rfl
 obtain ⟨z,hz,c1⟩:=HC;have HZ:=Hd hz;have h0:¬ (k:Int) < 0:=by omega
 have h1:¬ (10:Int) <= (k:Int):=by omega
 have h2:k < 13:=by omega
 have h3:(k:Int) < 13:=by omega
 rw [<- hz];clear hB hz;go_enter Tryz.func80,Tryz.ntmps80
 go_wp2_with fail
 go_ret
 exact ⟨rfl,Q.refl _⟩
theorem sign_any (g:Nat) (r:Lm.Rec) (X:Pt.Pat) (a b c d cl:Value) (x:ByteArray) (w:World) (hB:LB w g r X a b c d cl) :
  Calls Tryz.prog 124 #[.pointer (some ⟨g,0,none⟩),.string x] w fun e w'=>e = .returned (.int .i64 (Lm.sgn r x)) /\ Q w w':=by
 by_cases h0:x.size = 0
 ·have HF:=Hd (show Lm.sgn r x = -1 from if_pos h0)
  have hx:x = ⟨#[]⟩:=by
   obtain ⟨⟨l⟩⟩:=x;simp [ByteArray.size] at h0;subst h0;rfl
  subst hx;have hb:((⟨#[]⟩:ByteArray).toList == (⟨#[]⟩:ByteArray).toList) = true:=by simp
  have hb1:(⟨#[]⟩:ByteArray).toList.isEmpty = true:=by decide +kernel
  clear h0 hB;go_enter Tryz.func124,Tryz.ntmps124
  go_wp2_with fail
  go_ret
  rw [HF.out];exact ⟨rfl,Q.refl _⟩
 ·have HF:=Hd (show Lm.sgn r x = Lm.plc x (Lm.syms r) 0 from if_neg h0)
  have hb:(x.toList == (⟨#[]⟩:ByteArray).toList) = false:=str_ne (fun e=>h0 (by rw [e];rfl));have hb1:x.toList.isEmpty = false:=by
   rw [emp_eq];have:=size_list x;cases h:x.data.toList with
   | nil=>rw [h] at this;exact absurd this.symm h0
   | cons _ _=>rfl
  have hb2:(x.toList == []) = false:=by
   cases h:x.toList with
   | nil=>rw [h] at hb1;cases hb1
   | cons _ _=>rfl
  have hI:=fun w' (hq:Q w w')=>Sp.idx_any (.slice (some ⟨g,17,none⟩) 13 13) (Lm.syms r) x w' ((hB.q hq).syms 13 (by omega)) (by show (13:Nat) <= _;omega);simp only [plc_sp] at hI;rw [HF.out];have HI:=Hd hI;generalize Lm.plc x (Lm.syms r) 0 = R at *;clear h0 hB hI HF;go_enter Tryz.func124,Tryz.ntmps124
  go_wp2_with fail
  refine (HI.out _ (Q.refl _)).mono ?_;rintro e w1 ⟨rfl,rfl⟩;go_wp2_with fail
  go_ret
  exact ⟨rfl,Q.refl _⟩
theorem symbol_none (g:Nat) (r:Lm.Rec) (X:Pt.Pat) (a b c d cl:Value) (x:ByteArray) (w:World) (hB:LB w g r X a b c d cl) (hx:Lm.sgn r x = -1) :
  Calls Tryz.prog 116 #[.pointer (some ⟨g,0,none⟩),.string x] w fun e w'=>e = .returned (.bool false) /\ Q w w':=by
 have hs:=sign_any g r X a b c d cl x w hB;rw [hx] at hs;have HS:=Hd hs;clear hs hx hB;go_enter Tryz.func116,Tryz.ntmps116
 go_wp2_with fail
 refine HS.out.mono ?_;rintro e w1 ⟨rfl,hq1⟩;go_wp2_with fail
 go_ret
 exact ⟨rfl,hq1⟩
theorem taken_no (g:Nat) (r:Lm.Rec) (X:Pt.Pat) (a b c d cl:Value) (k:Nat) (x:ByteArray) (w:World) (hB:LB w g r X a b c d cl) (hk:k < 13) (hx:(Lm.syms r)[k]? = some x) (hno:x ∉ (Lm.syms r).take k) :
  Calls Tryz.prog 111 #[.pointer (some ⟨g,0,none⟩),.int .i64 k] w fun e w'=>e = .returned (.bool false) /\ Q w w':=by
 have hI:=fun w' (hq:Q w w')=>(Sp.has_any (.slice (some ⟨g,17,none⟩) k 13) ((Lm.syms r).take k) x w' ((hB.q hq).syms k (by omega)) (by rw [List.length_take];omega)).mono (fun e u h=>(⟨h.1,h.2 ▸ Q.refl _⟩:_ /\ Q w' u));simp only [plc_sp,Lm.plc_none _ _ hno] at hI;have HI:=Hd hI;have HC:Hid (∀ u,Q w u -> u.cell? ⟨g,17 + k,none⟩ = some (.string x)):=Hd (fun u hq=>by
  have hl:=(hB.q hq).syms 13 (by omega);have h2:((Lm.syms r).take 13)[k]? = some x:=by rw [List.getElem?_take,if_pos hk];exact hx
  obtain ⟨g',off,cap,hv,_,_,_,hc⟩:=hl.cellOf (n:=13) (by rw [List.length_take];rfl) h2;cases hv;exact hc)
 have h0:¬ (k:Int) < 0:=by omega
 have h1:(k:Int) < 13:=by omega
 have h2:(k:Int) <= 13:=by omega
 have h3:k <= 13:=by omega
 clear hB hx hno hI;go_enter Tryz.func111,Tryz.ntmps111
 go_upto_region 1 with fail
 refine wp_region_held_drew (S:=fun u=>Q w u) (by kernel_rfl) (by exact (Q.refl w).drew) (fun hHeld=>?_);have hS:Q w w.drew:=hHeld;clear hHeld;have hq:Q w w.drew:=(Q.refl _).drew;clear hq;generalize w.drew = yR4x0 at *;refine tk 0 (by simp only [gA,gB,gC];rfl) (by first | kernel_rfl | rfl) (fun uz _=>by go_simp;try with_reducible rfl) pq hS ?_;try simp only [Act.put,sA,sB,sC]
 refine tk 1 (by simp only [gA,gB,gC];rfl) (by first | kernel_rfl | rfl) (fun uz _=>by go_simp;try with_reducible rfl) pq hS ?_;try simp only [Act.put,sA,sB,sC]
 refine tk 2 (by simp only [gA,gB,gC];rfl) (by first | kernel_rfl | rfl) (fun uz _=>by go_simp;try with_reducible rfl) pq hS ?_;try simp only [Act.put,sA,sB,sC]
 refine tk 3 (by simp only [gA,gB,gC];rfl) (by first | kernel_rfl | rfl) (fun uz _=>by go_simp;try with_reducible rfl) pq hS ?_;try simp only [Act.put,sA,sB,sC]
 refine tk 4 (by simp only [gA,gB,gC];rfl) (by first | kernel_rfl | rfl) (fun uz _=>by go_simp;try with_reducible rfl) pq hS ?_;try simp only [Act.put,sA,sB,sC]
 refine tk 5 (by simp only [gA,gB,gC];rfl) (by first | kernel_rfl | rfl) (fun uz _=>by go_simp;try with_reducible rfl) pq hS ?_;try simp only [Act.put,sA,sB,sC]
 refine tk 6 (by simp only [gA,gB,gC];rfl) (by first | kernel_rfl | rfl) (fun uz _=>by go_simp;try with_reducible rfl) pq hS ?_;try simp only [Act.put,sA,sB,sC]
 refine tk 7 (by simp only [gA,gB,gC];rfl) (by first | kernel_rfl | rfl) (fun uz _=>by go_simp;try with_reducible rfl) pq hS ?_;try simp only [Act.put,sA,sB,sC]
 refine tk 8 (by simp only [gA,gB,gC];rfl) (by first | kernel_rfl | rfl) (fun uz _=>by go_simp;try with_reducible rfl) pq hS ?_;try simp only [Act.put,sA,sB,sC]
 refine tk 9 (by simp only [gA,gB,gC];rfl) (by first | kernel_rfl | rfl) (fun uz _=>by go_simp;try with_reducible rfl) pq hS ?_;try simp only [Act.put,sA,sB,sC]
 refine tk 10 (by simp only [gA,gB,gC];rfl) (by first | kernel_rfl | rfl) (fun uz hSw=>by (try dsimp only at hSw);have k1:=HC.out _ hSw;go_simp;try with_reducible rfl) pq hS ?_;try simp only [Act.put,sA,sB,sC]
 refine wpAnyH_ready (rs:=[11]) (by kernel_rfl) (by simp) ?_;refine ar rfl fun K hK=>?_;go_simp
 refine (HI.out _ hS).mono ?_;rintro e yR4x12 ⟨rfl,hq⟩;try (go_wp2_with fail)
 have hS2:=Q.trans hS hq;refine hK.out _ _ (by exact hS2) (fun hHeld=>?_);clear hK K hHeld hS hq;have hS:=hS2;clear hS2;try simp only [Act.put,sA,sB,sC]
 refine tk 12 (by simp only [gA,gB,gC];rfl) (by first | kernel_rfl | rfl) (fun uz _=>by go_simp;try with_reducible rfl) pq hS ?_;try simp only [Act.put,sA,sB,sC]
 refine wpAnyH_done (by kernel_rfl) ?_ _;have HQ:=Hd hS;clear hS;go_wp2_with fail
 try (rename_i dx1 d1 hx1;have hy1:(some 4:Option Tmp) = some d1:=hx1;obtain rfl:=Option.some.inj hy1;clear hx1 hy1)
 go_ret
 exact ⟨rfl,HQ.out⟩
end Lo
end
section
open Go.RowKit
namespace Pg
open Pt Um
theorem catch_idle (p q:Addr) (w:World) :
  CallsD Tryz.prog 86 #[.pointer (some p),.pointer (some q)] .returning w fun e u' w'=>e = .returned (.tuple #[]) /\ u' = .returning /\ w' = w:=by
 refine callsD_of_wpS Tryz.func86 rfl fun c₀ cs hu=>?_;apply wpS_seq;apply wpS_region;simp [wpOpsS,go_sem,recoverD,hu,Tryz.ntmps86,Exit.thenS];refine wpS_of_wp ?_;simp only [List.push_append_toArray,Array.replicate,List.replicate,List.setIfInBounds_toArray,List.set_cons_zero,List.set_cons_succ,List.append_toArray,List.cons_append,List.nil_append];go_wp2_with fail
 cases c₀;simp_all [bodyPostS,results,Tryz.results86]
theorem New.pastB {w:World} {B b:Nat} {v:Value} {l:List Pc.E} (h:Pc.New w B v l) (hbB:b < B) (i:Nat) (u:Value):Pc.New (w.setCell ⟨b,i,none⟩ u) B v l:=by
 refine ⟨?_,h.2⟩;rcases h.1 with hn | ⟨g,off,cap,rfl,hg,h1,h2,hc⟩
 ·exact .inl hn
 ·refine .inr ⟨g,off,cap,rfl,by rw [World.size_setCell];exact hg,h1,h2,fun j hj=>?_⟩
  have hb:=h.2 _ _ _ rfl (by omega);have hb:B <= g:=hb;exact ⟨cell_past (hc j hj).1 hg (by omega) u,cell_past (hc j hj).2 hg (by omega) u⟩
theorem res2 {fn:Func} {p q:Tmp} (h:fn.results = #[.cell p 120,.cell q 40]) {tmps:Array Value} {w:World} {g g2:Nat} {l:List Value} {k:Int} (hp:tmps.getD p undef = .pointer (some ⟨g,0,none⟩)) (hq:tmps.getD q undef = .pointer (some ⟨g2,0,none⟩)) (hl:l.length = 9)
  (hB:Bk w g 120 l) (hE:Bk w g2 40 [.int .i64 k]):(results fn tmps).run Tryz.prog w = .ok (.tuple #[.agg l.toArray,.int .i64 k]) w:=by
 have e:(results fn tmps).run Tryz.prog w = ((asAddr (tmps.getD p undef)).run Tryz.prog w).andThen fun a w₁=>((loadVar 120 a).run Tryz.prog w₁).andThen fun v w₂=>((asAddr (tmps.getD q undef)).run Tryz.prog w₂).andThen fun a w₃=>((loadVar 40 a).run Tryz.prog w₃).andThen fun v2 w₄=>.ok (.tuple #[v,v2]) w₄:=by
  simp only [results,h];simp [Sem.run_bind,Result.andThen]
 have e1:=run_loadVar_row w g 120 120 l.toArray (0,0) _ hB Tryz.underlying120 rfl (by simpa [hl] using infoPt);have e2:=hE.cell 0 rfl;rw [e,hp,hq];simp [asAddr,Result.andThen,e1];simp [go_sem,e2]
theorem mk_fn (fn:Fn) (first cap:Array Value) (w:World):(Instr.makeFunc fn first cap).run Tryz.prog w = .ok (.func fn first cap) w:=rfl
theorem parse_ok (s:ByteArray) (w:World) (X:Pat) (hr:∀ u,Q w u -> Calls Tryz.prog 87 #[.string s] u fun e w'=>Q u w' /\ ∃ v,e = .returned v /\ PV w' u.heap.size v X) :
  Calls Tryz.prog 54 #[.string s] w fun e w'=>∃ v,e = .returned (.tuple #[v,.int .i64 0]) /\ PV w' w.heap.size v X /\ Q w w':=by
 have hmf:=mk_fn;have HR:=Hd hr;clear hr;go_enter_defers Tryz.func54,Tryz.ntmps54
 go_wp2_with fail
 refine (HR.out _ (((Q.refl w).alloc _).alloc _)).mono ?_;rintro e w1 ⟨hq1,v,rfl,hv⟩;obtain ⟨a,b,c,d,rfl,ha,hb,hc,hd⟩:=hv;obtain ⟨l1,hl1⟩:∃ l,X.pre.length = l:=⟨_,rfl⟩;obtain ⟨l2,hl2⟩:∃ l,X.suf.length = l:=⟨_,rfl⟩;obtain ⟨l3,hl3⟩:∃ l,X.npre.length = l:=⟨_,rfl⟩;obtain ⟨l4,hl4⟩:∃ l,X.nsuf.length = l:=⟨_,rfl⟩;obtain ⟨a,a',rfl,_,_⟩:=ha.1.form0 hl1;obtain ⟨b,b',rfl,_,_⟩:=hb.1.form0 hl2;obtain ⟨c,c',rfl,_,_⟩:=hc.1.form0 hl3;obtain ⟨d,d',rfl,_,_⟩:=hd.1.form0 hl4;have hne:w.heap.size + 1 ≠ w.heap.size:=by omega
 have HB:=Hd (((Bk.new w 120 [.slice none 0 0,.slice none 0 0,.slice none 0 0,.slice none 0 0,.int .i64 0,.int .i64 0,.int .i64 0,.int .i64 0,.int .i64 0]).q ((Q.refl _).alloc (.cells #[.int .i64 0] 40))).q hq1);have HE:=Hd ((show Bk ((w.alloc (.cells #[.slice none 0 0,.slice none 0 0,.slice none 0 0,.slice none 0 0,.int .i64 0,.int .i64 0,.int .i64 0,.int .i64 0,.int .i64 0] 120)).alloc (.cells #[.int .i64 0] 40)) (w.heap.size + 1) 40 [.int .i64 0] from heap_alloc2_new _ _ _).q hq1);have HQ:=Hd ((((Q.refl w).alloc (.cells #[.slice none 0 0,.slice none 0 0,.slice none 0 0,.slice none 0 0,.int .i64 0,.int .i64 0,.int .i64 0,.int .i64 0,.int .i64 0] 120)).alloc (.cells #[.int .i64 0] 40)).trans hq1);have hbig:w.heap.size + 2 <= ((w.alloc (.cells #[.slice none 0 0,.slice none 0 0,.slice none 0 0,.slice none 0 0,.int .i64 0,.int .i64 0,.int .i64 0,.int .i64 0,.int .i64 0] 120)).alloc (.cells #[.int .i64 0] 40)).heap.size:=by rw [World.size_alloc,World.size_alloc];omega
 have b0:=HB.out.cell 0 rfl;have f0:=HB.out.free 0;have b1:=HB.out.cell 1 rfl;have f1:=HB.out.free 1;have b2:=HB.out.cell 2 rfl;have f2:=HB.out.free 2;have b3:=HB.out.cell 3 rfl;have f3:=HB.out.free 3;have b4:=HB.out.cell 4 rfl;have f4:=HB.out.free 4;have b5:=HB.out.cell 5 rfl;have f5:=HB.out.free 5;have b6:=HB.out.cell 6 rfl;have f6:=HB.out.free 6;have b7:=HB.out.cell 7 rfl;have f7:=HB.out.free 7;have b8:=HB.out.cell 8 rfl;have f8:=HB.out.free 8;have e0:=HE.out.cell 0 rfl;have g0:=HE.out.free 0;have HB2:=Hd ((Bk.past (((((((((HB.out.set 0 (.slice a l1 a')).set 1 (.slice b l2 b')).set 2 (.slice c l3 c')).set 3 (.slice d l4 d')).set 4 (.int .i64 X.pr)).set 5 (.int .i64 X.se)).set 6 (.int .i64 X.mi)).set 7 (.int .i64 X.mf)).set 8 (.int .i64 X.xf)) (g:=w.heap.size + 1) (i:=0) hne (.int .i64 0)));have HE2:=Hd (((Bk.past (Bk.past (Bk.past (Bk.past (Bk.past (Bk.past (Bk.past (Bk.past (Bk.past HE.out (g:=w.heap.size) (i:=0) hne.symm (.slice a l1 a')) (g:=w.heap.size) (i:=1) hne.symm (.slice b l2 b')) (g:=w.heap.size) (i:=2) hne.symm (.slice c l3 c')) (g:=w.heap.size) (i:=3) hne.symm (.slice d l4 d')) (g:=w.heap.size) (i:=4) hne.symm (.int .i64 X.pr)) (g:=w.heap.size) (i:=5) hne.symm (.int .i64 X.se)) (g:=w.heap.size) (i:=6) hne.symm (.int .i64 X.mi)) (g:=w.heap.size) (i:=7) hne.symm (.int .i64 X.mf)) (g:=w.heap.size) (i:=8) hne.symm (.int .i64 X.xf)).set 0 (.int .i64 0)));have HQ2:=Hd ((Q.setCell (Q.setCell (Q.setCell (Q.setCell (Q.setCell (Q.setCell (Q.setCell (Q.setCell (Q.setCell (Q.setCell HQ.out (ad:=⟨w.heap.size,0,none⟩) (Nat.le_refl _) (.slice a l1 a')) (ad:=⟨w.heap.size,1,none⟩) (Nat.le_refl _) (.slice b l2 b')) (ad:=⟨w.heap.size,2,none⟩) (Nat.le_refl _) (.slice c l3 c')) (ad:=⟨w.heap.size,3,none⟩) (Nat.le_refl _) (.slice d l4 d')) (ad:=⟨w.heap.size,4,none⟩) (Nat.le_refl _) (.int .i64 X.pr)) (ad:=⟨w.heap.size,5,none⟩) (Nat.le_refl _) (.int .i64 X.se)) (ad:=⟨w.heap.size,6,none⟩) (Nat.le_refl _) (.int .i64 X.mi)) (ad:=⟨w.heap.size,7,none⟩) (Nat.le_refl _) (.int .i64 X.mf)) (ad:=⟨w.heap.size,8,none⟩) (Nat.le_refl _) (.int .i64 X.xf)) (ad:=⟨w.heap.size + 1,0,none⟩) (Nat.le_succ _) (.int .i64 0)));have H1:=Hd ((New.pastB (New.pastB (New.pastB (New.pastB (New.pastB (New.pastB (New.pastB (New.pastB (New.pastB (New.pastB (New.past0 ha hbig) (show w.heap.size < w.heap.size + 2 by omega) 0 (.slice a l1 a')) (show w.heap.size < w.heap.size + 2 by omega) 1 (.slice b l2 b')) (show w.heap.size < w.heap.size + 2 by omega) 2 (.slice c l3 c')) (show w.heap.size < w.heap.size + 2 by omega) 3 (.slice d l4 d')) (show w.heap.size < w.heap.size + 2 by omega) 4 (.int .i64 X.pr)) (show w.heap.size < w.heap.size + 2 by omega) 5 (.int .i64 X.se)) (show w.heap.size < w.heap.size + 2 by omega) 6 (.int .i64 X.mi)) (show w.heap.size < w.heap.size + 2 by omega) 7 (.int .i64 X.mf)) (show w.heap.size < w.heap.size + 2 by omega) 8 (.int .i64 X.xf)) (show w.heap.size + 1 < w.heap.size + 2 by omega) 0 (.int .i64 0)).mono (show w.heap.size <= w.heap.size + 2 by omega));have H2:=Hd ((New.pastB (New.pastB (New.pastB (New.pastB (New.pastB (New.pastB (New.pastB (New.pastB (New.pastB (New.pastB (New.past0 hb hbig) (show w.heap.size < w.heap.size + 2 by omega) 0 (.slice a l1 a')) (show w.heap.size < w.heap.size + 2 by omega) 1 (.slice b l2 b')) (show w.heap.size < w.heap.size + 2 by omega) 2 (.slice c l3 c')) (show w.heap.size < w.heap.size + 2 by omega) 3 (.slice d l4 d')) (show w.heap.size < w.heap.size + 2 by omega) 4 (.int .i64 X.pr)) (show w.heap.size < w.heap.size + 2 by omega) 5 (.int .i64 X.se)) (show w.heap.size < w.heap.size + 2 by omega) 6 (.int .i64 X.mi)) (show w.heap.size < w.heap.size + 2 by omega) 7 (.int .i64 X.mf)) (show w.heap.size < w.heap.size + 2 by omega) 8 (.int .i64 X.xf)) (show w.heap.size + 1 < w.heap.size + 2 by omega) 0 (.int .i64 0)).mono (show w.heap.size <= w.heap.size + 2 by omega));have H3:=Hd ((New.pastB (New.pastB (New.pastB (New.pastB (New.pastB (New.pastB (New.pastB (New.pastB (New.pastB (New.pastB (New.past0 hc hbig) (show w.heap.size < w.heap.size + 2 by omega) 0 (.slice a l1 a')) (show w.heap.size < w.heap.size + 2 by omega) 1 (.slice b l2 b')) (show w.heap.size < w.heap.size + 2 by omega) 2 (.slice c l3 c')) (show w.heap.size < w.heap.size + 2 by omega) 3 (.slice d l4 d')) (show w.heap.size < w.heap.size + 2 by omega) 4 (.int .i64 X.pr)) (show w.heap.size < w.heap.size + 2 by omega) 5 (.int .i64 X.se)) (show w.heap.size < w.heap.size + 2 by omega) 6 (.int .i64 X.mi)) (show w.heap.size < w.heap.size + 2 by omega) 7 (.int .i64 X.mf)) (show w.heap.size < w.heap.size + 2 by omega) 8 (.int .i64 X.xf)) (show w.heap.size + 1 < w.heap.size + 2 by omega) 0 (.int .i64 0)).mono (show w.heap.size <= w.heap.size + 2 by omega));have H4:=Hd ((New.pastB (New.pastB (New.pastB (New.pastB (New.pastB (New.pastB (New.pastB (New.pastB (New.pastB (New.pastB (New.past0 hd hbig) (show w.heap.size < w.heap.size + 2 by omega) 0 (.slice a l1 a')) (show w.heap.size < w.heap.size + 2 by omega) 1 (.slice b l2 b')) (show w.heap.size < w.heap.size + 2 by omega) 2 (.slice c l3 c')) (show w.heap.size < w.heap.size + 2 by omega) 3 (.slice d l4 d')) (show w.heap.size < w.heap.size + 2 by omega) 4 (.int .i64 X.pr)) (show w.heap.size < w.heap.size + 2 by omega) 5 (.int .i64 X.se)) (show w.heap.size < w.heap.size + 2 by omega) 6 (.int .i64 X.mi)) (show w.heap.size < w.heap.size + 2 by omega) 7 (.int .i64 X.mf)) (show w.heap.size < w.heap.size + 2 by omega) 8 (.int .i64 X.xf)) (show w.heap.size + 1 < w.heap.size + 2 by omega) 0 (.int .i64 0)).mono (show w.heap.size <= w.heap.size + 2 by omega));go_wp2_with fail
 refine leaves_cons (f:=86 ) (args:=#[.pointer (some ⟨w.heap.size,0,none⟩),.pointer (some ⟨w.heap.size + 1,0,none⟩)]) (by simp) (by simp [go_sem]) ?_;refine (catch_idle _ _ _).mono ?_;rintro e u' w2 ⟨rfl,rfl,rfl⟩;exact ⟨_,res2 rfl rfl rfl rfl HB2.out HE2.out,_,rfl,⟨_,_,_,_,rfl,H1.out,H2.out,H3.out,H4.out⟩,HQ2.out⟩
end Pg
end
section
open Go.RowKit
namespace Pg
open Pt Um
def okPr (cs:List Int):Bool:=match num cs,prN (cs.flatMap encL) with
 | some n,some b=>n.pr == b.p && n.se == b.s && n.mi == b.mi && n.mf == b.mf && n.xf == b.xf && decide (b.xi <= 64) && decide (b.xf <= 64) && !n.long
 | _,_=>false
theorem okPr_of {cs:List Int} (h:okPr cs = true):∃ (n:Nm) (b:Nb),num cs = some n /\ prN (cs.flatMap encL) = some b /\ n.long = false /\ ¬ b.long /\ n.pr = b.p /\ n.se = b.s /\ n.mi = b.mi /\ n.mf = b.mf /\ n.xf = b.xf:=by
 unfold okPr at h;split at h
 ·rename_i n b h1 h2
  simp only [Bool.and_eq_true,beq_iff_eq,decide_eq_true_eq,Bool.not_eq_true'] at h;obtain ⟨⟨⟨⟨⟨⟨⟨e1,e2⟩,e3⟩,e4⟩,e5⟩,e6⟩,e7⟩,e8⟩:=h;exact ⟨n,b,h1,h2,e8,by unfold Nb.long;omega,e1,e2,e3,e4,e5⟩
 ·cases h
theorem ah_app {f:Int × Int -> Bool} {a b:List (Int × Int)} (ha:∀ x ∈ a,f x = true) (hb:b = [] \/ ∃ x r,b = x :: r /\ f x = false):ah f (a ++ b) = a.length:=by
 have h:=(Pt.tw_all (f:=f) (b:=b) ha).1;unfold ah;rw [h];rcases hb with rfl | ⟨x,r,rfl,hx⟩
 ·simp
 ·simp [List.takeWhile_cons,hx]
theorem ah_hv {P N S:List (Int × Int)} (h:Hv P N S) (hN:1 <= N.length):ah ntN (P ++ N ++ S) = P.length /\ (P ++ N ++ S).drop P.length = N ++ S /\ ah isN (N ++ S) = N.length:=by
 have hNn:∀ x ∈ N,isN x = true:=fun x hx=>by unfold isN;rw [h.n x hx];rfl
 refine ⟨?_,by rw [List.append_assoc,List.drop_left],?_⟩
 ·rw [List.append_assoc]
  refine ah_app (fun x hx=>by unfold ntN;rw [okT_isN h.p x hx];rfl) (.inr ?_);cases N with
  | nil=>simp at hN
  | cons x r=>exact ⟨x,r ++ S,rfl,by unfold ntN;rw [hNn x List.mem_cons_self];rfl⟩
 ·refine ah_app hNn ?_
  cases S with
  | nil=>exact .inl rfl
  | cons x r=>exact .inr ⟨x,r,rfl,okT_isN h.s x List.mem_cons_self⟩
theorem hv_kinds {P N S:List (Int × Int)} (h:Hv P N S):∀ x ∈ P ++ N ++ S,x.1 <= 4:=by
 intro x hx;rcases List.mem_append.1 hx with hx | hx
 ·rcases List.mem_append.1 hx with hx | hx
  ·have:=h.p x hx;omega
  ·have:=h.n x hx;omega
 ·have:=h.s x hx;omega
theorem encL_ne {c:Int} (h:vld c = true):encL c ≠ []:=by unfold encL;exact encB_some h
theorem out_vld (cs:List Int):∀ q p l q' p',Vl cs -> outS q p cs = some (l,q',p') -> ∀ x ∈ l,vld x.2 = true:=by
 induction cs with
 | nil=>intro q p l q' p' hv h;simp [outS] at h;obtain ⟨rfl,_⟩:=h;simp
 | cons c r ih =>
  intro q p l q' p' hv h;have hr:Vl r:=fun d hd=>hv d (List.mem_cons_of_mem _ hd);have h39:vld 39 = true:=(vld_iff _).2 (by omega);have hc:=hv c List.mem_cons_self;rw [outS_cons] at h;split at h
  ·split at h
   ·obtain ⟨⟨m,a,b⟩,hm,he⟩:=Option.map_eq_some_iff.1 h
    simp only [Prod.mk.injEq] at he;obtain ⟨rfl,rfl,rfl⟩:=he;intro x hx;rcases List.mem_cons.1 hx with rfl | hx
    ·exact h39
    ·exact ih _ _ _ _ _ hr hm x hx
   ·exact ih _ _ _ _ _ hr h
  ·split at h
   ·obtain ⟨⟨m,a,b⟩,hm,he⟩:=Option.map_eq_some_iff.1 h
    simp only [Prod.mk.injEq] at he;obtain ⟨rfl,rfl,rfl⟩:=he;intro x hx;rcases List.mem_cons.1 hx with rfl | hx
    ·exact hc
    ·exact ih _ _ _ _ _ hr hm x hx
   ·split at h
    ·cases h
    ·obtain ⟨⟨m,a,b⟩,hm,he⟩:=Option.map_eq_some_iff.1 h
     simp only [Prod.mk.injEq] at he;obtain ⟨rfl,rfl,rfl⟩:=he;intro x hx;rcases List.mem_cons.1 hx with rfl | hx
     ·exact hc
     ·exact ih _ _ _ _ _ hr hm x hx
theorem hok_of {P N S:List (Int × Int)} (hch:∀ x ∈ P ++ N ++ S,vld x.2 = true) (h:Hv P N S) (hN:1 <= N.length) (h250:N.length <= 250) (nb:Nb) (hnb:prN ((N.map (·.2)).flatMap encL) = some nb) :
  HalfOk (P ++ N ++ S) nb /\ prP (P ++ N ++ S) = joinT [] P /\ suP (P ++ N ++ S) = joinT [] S:=by
 obtain ⟨e1,e2,e3⟩:=ah_hv h hN;have e4:(P ++ N ++ S).drop (P.length + N.length) = S:=by
  rw [<- List.drop_drop,e2,List.drop_left]
 refine ⟨⟨hv_kinds h,fun x hx=>encL_ne (hch x hx),?_,?_,?_,?_⟩,?_,?_⟩
 ·rw [e1];simp;omega
 ·rw [e1,e2,e3,e4,List.any_eq_false]
  intro x hx;rw [okT_isN h.s x hx];simp
 ·rw [e1,e2,e3,List.take_left,<- hnb,List.flatMap_map]
 ·rw [e1,e2,e3];exact h250
 ·unfold prP;rw [e1,List.append_assoc,List.take_left]
 ·unfold suP;rw [e1,e2,e3,e4]
theorem split_one {P N S:List (Int × Int)} (h:Hv P N S):splitD (P ++ N ++ S) = [P ++ N ++ S]:=by
 refine splitD_end _ ?_;have:=ah_app (f:=ntD) (a:=P ++ N ++ S) (b:=[]) (fun x hx=>by unfold ntD;rw [h.noD x hx];rfl) (.inl rfl);rwa [List.append_nil] at this
theorem split_two {P N S P' N' S':List (Int × Int)} (h:Hv P N S) (h':Hv P' N' S'):splitD (P ++ N ++ S ++ (5,59) :: (P' ++ N' ++ S')) = [P ++ N ++ S,P' ++ N' ++ S']:=by
 have e:=ah_app (f:=ntD) (a:=P ++ N ++ S) (b:=(5,59) :: (P' ++ N' ++ S')) (fun x hx=>by unfold ntD;rw [h.noD x hx];rfl) (.inr ⟨_,_,rfl,rfl⟩);have hc:=splitD_cut (P ++ N ++ S ++ (5,59) :: (P' ++ N' ++ S')) (by rw [e];simp);rw [e,List.take_left,<- List.drop_drop,List.drop_left] at hc;rw [hc];simp only [List.drop_succ_cons,List.drop_zero,split_one h']
theorem parse1 {cs:List Int} (hv:Vl cs) (hz:cs.length <= 10000) {P N S:List (Int × Int)} {c:Bool} (ho:outS false false cs = some (P ++ N ++ S,c,c)) (h:Hv P N S) (hN:1 <= N.length) (h250:N.length <= 250) (hp:okPr (N.map (·.2)) = true) (w:World) :
  Calls Tryz.prog 54 #[.string ⟨(joinL cs).toArray⟩] w fun e w'=>∃ v,e = .returned (.tuple #[v,.int .i64 0]) /\ PV w' w.heap.size v (parseC cs).1 /\ Q w w':=by
 obtain ⟨n,b,h1,h2,h3,h4,h5,h6,h7,h8,h9⟩:=okPr_of hp;obtain ⟨k1,k2,k3⟩:=hok_of (out_vld _ _ _ _ _ _ hv ho) h hN h250 b h2;have ht:tkn cs = some (P ++ N ++ S):=by
  unfold tkn;rw [tok_out,ho];simp
 have hpc:(parseC cs).1 = patOf [(P ++ N ++ S,b)]:=by
  unfold parseC;rw [ht];simp only [parse_one h hN h1 h3,patOf,k2,k3,mkP,h5,h6,h7,h8,h9]
 rw [hpc];refine parse_ok _ w _ fun u hu=>?_;refine (read_any ⟨(joinL cs).toArray⟩ u ?_ (okL_join cs hv) (P ++ N ++ S) ?_ [(P ++ N ++ S,b)] (split_one h) (fun x hx=>by rw [List.mem_singleton.1 hx];exact k1) (by simp) (by simp)).mono ?_
 ·have:=joinL_length cs
  simp only [ByteArray.size,List.size_toArray];omega
 ·rw [allL_join cs hv];exact tok_q _ _ _ _ ht
 ·rintro e w' ⟨hq,⟨⟨x,hx,hxl⟩,_⟩ | ⟨_,v,hv,hpv⟩⟩
  ·rw [List.mem_singleton.1 hx] at hxl;exact absurd hxl h4
  ·exact ⟨hq,v,hv,hpv⟩
theorem parse2 {cs:List Int} (hv:Vl cs) (hz:cs.length <= 10000) {P N S P' N' S':List (Int × Int)} {c:Bool} (ho:outS false false cs = some (P ++ N ++ S ++ (5,59) :: (P' ++ N' ++ S'),c,c)) (h:Hv P N S) (hN:1 <= N.length) (h250:N.length <= 250) (hp:okPr (N.map (·.2)) = true)
  (h':Hv P' N' S') (hN':1 <= N'.length) (h250':N'.length <= 250) (hp':okPr (N'.map (·.2)) = true) (w:World) :
  Calls Tryz.prog 54 #[.string ⟨(joinL cs).toArray⟩] w fun e w'=>∃ v,e = .returned (.tuple #[v,.int .i64 0]) /\ PV w' w.heap.size v (parseC cs).1 /\ Q w w':=by
 obtain ⟨n,b,h1,h2,h3,h4,h5,h6,h7,h8,h9⟩:=okPr_of hp;obtain ⟨n',b',h1',h2',h3',h4',_⟩:=okPr_of hp';have hch:=out_vld _ _ _ _ _ _ hv ho;obtain ⟨k1,k2,k3⟩:=hok_of (fun x hx=>hch x (List.mem_append_left _ hx)) h hN h250 b h2;obtain ⟨k1',k2',k3'⟩:=hok_of (fun x hx=>hch x (List.mem_append_right _ (List.mem_cons_of_mem _ hx))) h' hN' h250' b' h2';have ht:tkn cs = some (P ++ N ++ S ++ (5,59) :: (P' ++ N' ++ S')):=by
  unfold tkn;rw [tok_out,ho];simp
 have hpc:(parseC cs).1 = patOf [(P ++ N ++ S,b),(P' ++ N' ++ S',b')]:=by
  unfold parseC;rw [ht];simp only [parse_two h hN h1 h3 h' hN' h1' h3',patOf,k2,k3,k2',k3',mkP,h5,h6,h7,h8,h9]
 rw [hpc];refine parse_ok _ w _ fun u hu=>?_;refine (read_any ⟨(joinL cs).toArray⟩ u ?_ (okL_join cs hv) _ ?_ [(P ++ N ++ S,b),(P' ++ N' ++ S',b')] (split_two h h') (fun x hx=>by
  rcases List.mem_cons.1 hx with rfl | hx
  ·exact k1
  ·rw [List.mem_singleton.1 hx];exact k1') (by simp) (by simp)).mono ?_
 ·have:=joinL_length cs
  simp only [ByteArray.size,List.size_toArray];omega
 ·rw [allL_join cs hv];exact tok_q _ _ _ _ ht
 ·rintro e w' ⟨hq,⟨⟨x,hx,hxl⟩,_⟩ | ⟨_,v,hv,hpv⟩⟩
  ·simp at hx
   rcases hx with rfl | rfl
   ·exact absurd hxl h4
   ·exact absurd hxl h4'
  ·exact ⟨hq,v,hv,hpv⟩
end Pg
end
end Go.Proofs.YtdjhkbholijnmaaGreatDoor
