/- What the document's own answers on one list of digits come to, by a walk through each. (and more) -/
import Derived.Test.YtnehhbobhnmbcaaR04
import Derived.Laws.Tables
set_option linter.all false
set_option maxRecDepth 100000
set_option maxHeartbeats 8000000
namespace Go.Proofs.Ytnehhbobhnmbcaa
section
open Go.RowKit
namespace Dm
def gdL (xs:List Int) (m:Nat):List Int:=(xs.take m).map fun x=>Um.around x 10
theorem gdL_len (xs:List Int) (m:Nat):(gdL xs m).length = min m xs.length:=by unfold gdL;rw [List.length_map,List.length_take]
theorem gdL_ok (xs:List Int) (m:Nat):okD (gdL xs m):=by
 intro d hd;obtain ⟨x,hx,rfl⟩:=List.mem_map.1 hd;have:=Um.around_bd x 10 (by omega);omega
theorem gdL_snoc (xs:List Int) (k:Nat) (hk:k < xs.length):gdL xs (k + 1) = gdL xs k ++ [Um.around (xs.getD k 0) 10]:=by
 unfold gdL;rw [List.take_succ_eq_append_getElem hk,List.map_append,List.getD_eq_getElem?_getD,List.getElem?_eq_getElem hk];rfl
theorem gdL_min (xs:List Int) (m:Nat):gdL xs (min m xs.length) = gdL xs m:=by
 unfold gdL;rcases Nat.le_total m xs.length with h | h
 ·rw [Nat.min_eq_left h]
 ·rw [Nat.min_eq_right h,List.take_length,List.take_of_length_le h]
end Dm
namespace Dr
theorem may_any (v:Value) (xs:List Int) (w:World) (hv:Lst w v xs) (hl:xs.length < 1099511627776) :
  Calls Try.prog 68 #[v] w fun e w'=>e = .returned (.bool (Dm.okB xs)) /\ w = w':=by
 obtain ⟨a,c,rfl⟩:=hv.shape;obtain ⟨n,hn⟩:∃ n,n = xs.length:=⟨_,rfl⟩;obtain ⟨r,hr⟩:∃ r,r = Dm.okB xs:=⟨_,rfl⟩;rw [<- hr];have HB:=Hd (Dm.okB_bad xs);have HO:=Hd (Dm.okB_on xs);have HE:=Hd (Dm.okB_end xs);have HR:=Hd hr;rw [<- hn] at hv hl HB HO HE |-;have HV:=Hd (fun k h=>hv.cellOf (n:=n) (k:=k) hn.symm h);clear hv hn hr;go_enter Try.func68,Try.ntmps68
 go_wp2_with fail
 go_loop [3] (fun i=>∃ k:Nat,i = .int .i64 k /\ k <= n /\ Dm.okB (xs.drop k) = r) (fun i=>n - (intOf i).toNat)
 case atStart=>exact ⟨0,rfl,by omega,by rw [HR.out];rfl⟩
 case round =>
  obtain ⟨k,rfl,hk,hc⟩:=hrel;have HC:=Hd hc;clear hc;by_cases hlt:k < n
  ·obtain ⟨g,off,cap,hvv,hg,_,_,c1⟩:=HV.out k hlt
   cases hvv;have hb:=HB.out k hlt;have ho:=HO.out k hlt;obtain ⟨y,hy⟩:∃ y,y = xs.getD k 0:=⟨_,rfl⟩;rw [<- hy] at c1 hb ho;clear hy;have HB1:=Hd hb;have HO1:=Hd ho;clear hb ho;by_cases h1:y < 0
   ·have HF:Hid (r = false):=Hd (by rw [<- HC.out];exact HB1.out (by omega))
    go_wp2_with fail
    go_ret
    rw [HF.out];exact ⟨rfl,rfl⟩
   ·by_cases h2:9 < y
    ·have HF:Hid (r = false):=Hd (by rw [<- HC.out];exact HB1.out (by omega))
     have h3:10 <= y:=h2;go_wp2_with fail
     go_ret
     rw [HF.out];exact ⟨rfl,rfl⟩
    ·have HN:=Hd ((HO1.out (by omega)).symm.trans HC.out)
     have h3:¬ 10 <= y:=by omega
     go_wp2_with fail
     exact ⟨⟨k + 1,by go_num,by omega,HN.out⟩,by simp [intOf];omega⟩
  ·have HF:Hid (r = true):=Hd (by rw [<- HC.out];exact HE.out k (by omega))
   go_wp2_with fail
   go_ret
   rw [HF.out];exact ⟨rfl,rfl⟩
theorem good_any (v:Value) (xs:List Int) (m:Nat) (w:World) (hv:Lst w v xs) (hl:xs.length <= 9223372036854775807) (hm:m < 1000000) (hb:∀ n ∈ xs,-9223372036854775808 <= n /\ n <= 9223372036854775807) :
  Calls Try.prog 54 #[v,.int .i64 m] w fun e w'=>∃ u,e = .returned u /\ Own w' w.heap.size u (Dm.gdL xs m) /\ Q w w':=by
 obtain ⟨n,hn⟩:∃ n,n = xs.length:=⟨_,rfl⟩;obtain ⟨a,c,rfl,hnc,hcm⟩:=hv.form0 hn.symm;have HV:=Hd (fun k (hk:k < n)=>hv.cellOf (n:=n) (k:=k) hn.symm hk);have HB:=Hd (fun k (hk:k < n)=>(by rw [List.getD_eq_getElem?_getD,List.getElem?_eq_getElem (by omega)];exact hb _ (List.getElem_mem _):-9223372036854775808 <= xs.getD k 0 /\ xs.getD k 0 <= 9223372036854775807));have HS:=Hd (fun k (hk:k < n)=>Dm.gdL_snoc xs k (by omega));have HE:=Hd (fun k (h1:k = min m n)=>(by rw [h1,hn];exact Dm.gdL_min xs m:Dm.gdL xs k = Dm.gdL xs m));have HL:=Hd (fun k=>(by rw [Dm.gdL_len,<- hn]:(Dm.gdL xs k).length = min k n));have HA:=Hd (fun x w h0 h1=>Ur.around_any x 10 w h0 h1 (by omega) (by omega));rw [<- hn] at hl;unfold maxLen at hcm;clear hv hn hb;go_enter Try.func54,Try.ntmps54
 go_wp2_with fail
 go_loopw [5,6] (fun u t wr=>∃ k:Nat,t = .int .i64 k /\ k <= n /\ k <= m /\ Own wr w.heap.size u (Dm.gdL xs k) /\ Q w wr) (fun _ t _=>n - (intOf t).toNat)
 case atStart=>exact ⟨0,rfl,by omega,by omega,Own.nil _ _,Q.refl _⟩
 case round =>
  obtain ⟨k,rfl,hk,hkm,ho,hq⟩:=hrel;by_cases hlt:k < n
  ·by_cases hlm:k < m
   ·obtain ⟨g,off,cap,hvv,hg,_,_,c0⟩:=HV.out k hlt
    cases hvv;have c1:=(World.cell?_of_block (w:=w) (hq.block hg) (a:=⟨g,off + k,none⟩)).trans c0;have hbk:=HB.out k hlt;have hs:=HS.out k hlt;generalize xs.getD k 0 = x at *;have HS2:=Hd hs;have hwl:(Dm.gdL xs k).length < 1099511627776:=by rw [HL.out];omega
    have hB:=hq.le;have HAR:=Hd (HA.out x wr hbk.1 hbk.2);have HQ:=Hd hq;clear hs c0 hbk;generalize Um.around x 10 = y at *;go_wp2_with fail
    refine HAR.out.mono ?_;rintro e w1 ⟨rfl,rfl⟩;go_wp2_with (at_builtin;refine push_int ho rfl _ _ rfl _ (by rfl) (by rfl) hwl hB ?_)
    intro v2 w2 ho2 hg2 hat2;rw [<- HS2.out] at ho2;have HO2:=Hd ho2;have HQ2:=Hd (HQ.out.grown hg2 (fun g h=>(ho.lt g h).1));clear ho ho2 hg2 hat2;go_wp2_with fail
    exact ⟨⟨k + 1,by go_num,by omega,by omega,HO2.out,HQ2.out⟩,by simp [intOf];omega⟩
   ·have he:=HE.out k (by omega)
    rw [he] at ho;have HO:=Hd ho;have HQ:=Hd hq;clear he ho hq;go_wp2_with fail
    go_ret
    exact ⟨_,rfl,HO.out,HQ.out⟩
  ·have he:=HE.out k (by omega)
   rw [he] at ho;have HO:=Hd ho;have HQ:=Hd hq;clear he ho hq;go_wp2_with fail
   go_ret
   exact ⟨_,rfl,HO.out,HQ.out⟩
end Dr
end
section
open Go.RowKit
namespace Rw
theorem all1 {l:List Value} (h:l.all (·.oneCell') = true):l.toArray.all (·.oneCell') = true:=by simpa using h
theorem Q_row {w u:World} (h:Q w u) {b:Nat} (hb:w.heap.size <= b) (cs:Array Value):Q w (u.setRow b cs):=below_setRow h hb cs
theorem Bk_row {u:World} {b:Nat} {T:TypeId} {l:List Value} (h:Bk u b T l) (l':List Value):Bk (u.setRow b l'.toArray) b T l':=setRow_heap u b l.toArray l'.toArray T (0,0) h
theorem Bk_other {u:World} {b g:Nat} {T:TypeId} {l:List Value} (h:Bk u b T l) (hg:b ≠ g) (cs:Array Value):Bk (u.setRow g cs) b T l:=(setRow_other u g b cs hg).trans h
end Rw
end
end Go.Proofs.Ytnehhbobhnmbcaa
