/- What the document's own answers on drafts come to, by a walk through each: May, Same, Fits, Few, Points, Atoms, Dec, Text. (and more) -/
import Derived.Test.YteggfkbnnmpcjaaGreatDoorR18
set_option linter.all false
set_option maxRecDepth 100000
set_option maxHeartbeats 8000000
namespace Go.Proofs.YteggfkbnnmpcjaaGreatDoor
section
open Go.RowKit
namespace Tm
def ptL (xs:List Int) (m:Nat):List Int:=(xs.take m).map fun x=>Um.around x 11
theorem ptL_len (xs:List Int) (m:Nat):(ptL xs m).length = min m xs.length:=by unfold ptL;rw [List.length_map,List.length_take]
theorem ptL_snoc (xs:List Int) (k:Nat) (hk:k < xs.length):ptL xs (k + 1) = ptL xs k ++ [Um.around (xs.getD k 0) 11]:=by
 unfold ptL;rw [List.take_succ_eq_append_getElem hk,List.map_append,List.getD_eq_getElem?_getD,List.getElem?_eq_getElem hk];rfl
theorem ptL_min (xs:List Int) (m:Nat):ptL xs (min m xs.length) = ptL xs m:=by
 unfold ptL;rcases Nat.le_total m xs.length with h | h
 ·rw [Nat.min_eq_left h]
 ·rw [Nat.min_eq_right h,List.take_length,List.take_of_length_le h]
end Tm
namespace Tr
open Tm
theorem points_any (v:Value) (xs:List Int) (m:Nat) (w:World) (hv:Lst w v xs) (hl:xs.length <= 9223372036854775807) (hm:m < 1000000) (hb:∀ n ∈ xs,-9223372036854775808 <= n /\ n <= 9223372036854775807) :
  Calls Tryz.prog 19 #[v,.int .i64 m] w fun e w'=>∃ u,e = .returned u /\ Own w' w.heap.size u (ptL xs m) /\ Q w w':=by
 obtain ⟨n,hn⟩:∃ n,n = xs.length:=⟨_,rfl⟩;obtain ⟨a,c,rfl,hnc,hcm⟩:=hv.form0 hn.symm;have HV:=Hd (fun k (hk:k < n)=>hv.cellOf (n:=n) (k:=k) hn.symm hk);have HB:=Hd (fun k (hk:k < n)=>(by rw [List.getD_eq_getElem?_getD,List.getElem?_eq_getElem (by omega)];exact hb _ (List.getElem_mem _):-9223372036854775808 <= xs.getD k 0 /\ xs.getD k 0 <= 9223372036854775807));have HS:=Hd (fun k (hk:k < n)=>ptL_snoc xs k (by omega));have HE:=Hd (fun k (h1:k = min m n)=>(by rw [h1,hn];exact ptL_min xs m:ptL xs k = ptL xs m));have HL:=Hd (fun k=>(by rw [ptL_len,<- hn]:(ptL xs k).length = min k n));have HA:=Hd (fun x w h0 h1=>Ur.around_any x 11 w h0 h1 (by omega) (by omega));rw [<- hn] at hl;unfold maxLen at hcm;clear hv hn hb;go_enter Tryz.func19,Tryz.ntmps19
 go_wp2_with fail
 go_loopw [5,6] (fun u t wr=>∃ k:Nat,t = .int .i64 k /\ k <= n /\ k <= m /\ Own wr w.heap.size u (ptL xs k) /\ Q w wr) (fun _ t _=>n - (intOf t).toNat)
 case atStart=>exact ⟨0,rfl,by omega,by omega,Own.nil _ _,Q.refl _⟩
 case round =>
  obtain ⟨k,rfl,hk,hkm,ho,hq⟩:=hrel;by_cases hlt:k < n
  ·by_cases hlm:k < m
   ·obtain ⟨g,off,cap,hvv,hg,_,_,c0⟩:=HV.out k hlt
    cases hvv;have c1:=(World.cell?_of_block (w:=w) (hq.block hg) (a:=⟨g,off + k,none⟩)).trans c0;have hbk:=HB.out k hlt;have hs:=HS.out k hlt;generalize xs.getD k 0 = x at *;have HS2:=Hd hs;have hwl:(ptL xs k).length < 1099511627776:=by rw [HL.out];omega
    have hB:=hq.le;have HAR:=Hd (HA.out x wr hbk.1 hbk.2);have HQ:=Hd hq;clear hs c0 hbk;generalize Um.around x 11 = y at *;go_wp2_with fail
    refine HAR.out.mono ?_;rintro e w1 ⟨rfl,rfl⟩;go_wp2_with (at_builtin;refine push_int ho rfl _ _ rfl _ (by rfl) (by rfl) hwl hB ?_)
    intro v2 w2 ho2 hg2 hat2;rw [<- HS2.out] at ho2;have HO2:=Hd ho2;have HQ2:=Hd (HQ.out.grown hg2 (fun g h=>(ho.lt g h).1));clear ho ho2 hg2 hat2;go_wp2_with fail
    exact ⟨⟨k + 1,by go_num,by omega,by omega,HO2.out,HQ2.out⟩,by simp [intOf];omega⟩
   ·have he:=HE.out k (by omega)
    rw [he] at ho;have HO:=Hd ho;have HQ:=Hd hq;clear he ho hq;go_wp2_with fail
    go_ret
    exact ⟨_,rfl,HO.out,HQ.out⟩
  ·have he:=HE.out k (by omega)
   rw [he] at ho;have HO:=Hd ho;have HQ:=Hd hq;clear he ho hq;go_wp2_with fail
   go_ret
   exact ⟨_,rfl,HO.out,HQ.out⟩
end Tr
end
end Go.Proofs.YteggfkbnnmpcjaaGreatDoor
