/- What the library's Grow, Concat, Index, Contains and Equal come to at lists of numbers, by a walk through each. (and more) -/
import Derived.Test.YteggfkbnnmpcjaaGreatDoorR03
import Derived.Lib.AppendZerosOnto
set_option linter.all false
set_option maxRecDepth 100000
set_option maxHeartbeats 8000000
namespace Go.Proofs.YteggfkbnnmpcjaaGreatDoor
section
open Go.RowKit
namespace Tm
def cat (ls:List Sl):List Int:=(ls.map Sl.zs).flatten
theorem cat_take (ls:List Sl) (k:Nat) (s:Sl) (h:ls[k]? = some s):cat (ls.take (k + 1)) = cat (ls.take k) ++ s.zs:=by
 have hk:=(List.getElem?_eq_some_iff.1 h).1;rw [List.getElem?_eq_getElem hk] at h;unfold cat;rw [List.take_succ_eq_append_getElem hk,Option.some.inj h,List.map_append,List.flatten_append];simp
end Tm
namespace Ts
theorem equal_any (va vb:Value) (xs ys:List Int) (w:World) (ha:Lst w va xs) (hb:Lst w vb ys) (hx:xs.length < 1099511627776) (hy:ys.length < 1099511627776) :
  Calls Tryz.prog 51 #[va,vb] w fun e w'=>e = .returned (.bool (decide (xs = ys))) /\ Q w w':=by
 by_cases hl:xs.length = ys.length
 ·by_cases h0:xs.length = 0
  ·have hx0:xs = []:=List.eq_nil_of_length_eq_zero h0
   have hy0:ys = []:=List.eq_nil_of_length_eq_zero (by omega);subst hx0;subst hy0;obtain ⟨a,c,rfl⟩:=ha.shape;obtain ⟨b,d,rfl⟩:=hb.shape;clear ha hb hl h0 hx hy;go_enter Tryz.func51,Tryz.ntmps51
   go_wp2
   refine wp_loop_rounds 1 ?_;rw [rounds_succ];go_wp2
   go_ret
   exact ⟨rfl,Q.refl _⟩
  ·rcases ha with ⟨rfl,_⟩ | ⟨g,off,cap,rfl,hg,_,_,hca⟩
   ·exact absurd rfl h0
   rcases hb with ⟨rfl,_⟩ | ⟨g2,off2,cap2,rfl,hg2,_,_,hcb⟩
   ·exact absurd hl h0
   have HL:=Hd hl;have hle:((xs.length:Int) == (ys.length:Int)) = true:=by rw [hl];simp
   have hne:((xs.length:Int) != (ys.length:Int)) = false:=by rw [hl];simp
   clear hl h0;go_enter Tryz.func51,Tryz.ntmps51
   go_wp2
   go_loopw [13] (fun i wr=>∃ k:Nat,i = .int .i64 k /\ k <= xs.length /\ Q w wr /\ xs.take k = ys.take k) (fun i _=>xs.length - (intOf i).toNat)
   case atStart=>exact ⟨0,rfl,by omega,Q.refl _,by simp⟩
   case round =>
    obtain ⟨k,rfl,hk,hq,he⟩:=hrel;have HE:=Hd he;clear he;by_cases hlt:k < xs.length
    ·have c1:wr.cell? ⟨g,off + k,none⟩ = some (.int .i64 (xs.getD k 0)):=(World.cell?_of_block (w:=w) (hq.block hg)).trans (hca k hlt)
     have c2:wr.cell? ⟨g2,off2 + k,none⟩ = some (.int .i64 (ys.getD k 0)):=(World.cell?_of_block (w:=w) (hq.block hg2)).trans (hcb k (by rw [<- HL.out];exact hlt));have hky:(k:Int) < (ys.length:Int):=by rw [<- HL.out];omega
     have hkx:(k:Int) < (xs.length:Int):=by omega
     generalize hgx:xs.getD k 0 = p at c1;generalize hgy:ys.getD k 0 = q at c2;have HX:=Hd hgx;have HY:=Hd hgy;clear hgx hgy;have hsx:xs.take (k + 1) = xs.take k ++ [p]:=by
      rw [List.take_succ_eq_append_getElem hlt,<- HX.out,List.getD_eq_getElem?_getD,List.getElem?_eq_getElem hlt];rfl
     have hly:k < ys.length:=by rw [<- HL.out];exact hlt
     have hsy:ys.take (k + 1) = ys.take k ++ [q]:=by
      rw [List.take_succ_eq_append_getElem hly,<- HY.out,List.getD_eq_getElem?_getD,List.getElem?_eq_getElem hly];rfl
     have HSX:=Hd hsx;have HSY:=Hd hsy;clear hsx hsy;by_cases hpq:p = q
     ·have ht:(p != q) = false:=by rw [hpq];simp
      have HP:=Hd hpq;clear hpq;go_wp2_with fail
      go_quiet (fail)
      go_wp2_with fail
      exact ⟨⟨k + 1,by go_num,by omega,hq.drewN _,by rw [HSX.out,HSY.out,HE.out,HP.out]⟩,by simp [intOf];omega⟩
     ·have ht:(p != q) = true:=by rw [bne_iff_ne];exact hpq
      have HF:Hid (decide (xs = ys) = false):=Hd (decide_eq_false (fun h=>hpq (by
       have h1:=HX.out;have h2:=HY.out;rw [<- h1,<- h2,h])))
      clear hpq;go_wp2_with fail
      go_quiet (fail)
      go_wp2_with fail
      go_ret
      rw [HF.out];exact ⟨rfl,hq.drewN _⟩
    ·have HF:Hid (decide (xs = ys) = true):=Hd (decide_eq_true (by
      have h1:=HE.out;have h2:=HL.out;rw [List.take_of_length_le (by omega),List.take_of_length_le (by omega)] at h1;exact h1))
     go_wp2_with fail
     go_ret
     rw [HF.out];exact ⟨rfl,hq⟩
 ·have hne:((xs.length:Int) == (ys.length:Int)) = false:=by rw [beq_eq_false_iff_ne];omega
  have hne2:((xs.length:Int) != (ys.length:Int)) = true:=by rw [bne_iff_ne];omega
  have HF:Hid (decide (xs = ys) = false):=Hd (decide_eq_false (fun h=>hl (by rw [h])));obtain ⟨a,c,rfl⟩:=ha.shape;obtain ⟨b,d,rfl⟩:=hb.shape;clear ha hb hl;go_enter Tryz.func51,Tryz.ntmps51
  go_wp2
  go_ret
  rw [HF.out];exact ⟨rfl,Q.refl _⟩
end Ts
end
end Go.Proofs.YteggfkbnnmpcjaaGreatDoor
