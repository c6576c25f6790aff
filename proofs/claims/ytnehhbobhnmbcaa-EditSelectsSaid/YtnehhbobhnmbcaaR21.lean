/- The document's own answers on states: a word's end, whether one may be, whether two are the same, where a way leads. (and more) -/
import Derived.Test.YtnehhbobhnmbcaaR19
import Derived.Laws.Rows
set_option linter.all false
set_option maxRecDepth 100000
set_option maxHeartbeats 8000000
namespace Go.Proofs.Ytnehhbobhnmbcaa
section
open Go.RowKit
namespace Re
open Ed Tm
theorem word_right (v:Value) (l:List Int) (k:Nat) (w:World) (hv:Lst w v l) (hk:k <= l.length) (hl:l.length <= 1000000) :
  Calls Try.prog 65 #[v,.int .i64 k,.bool true] w fun e w'=>e = .returned (.int .i64 (wordR l k:Nat)) /\ w' = w:=by
 obtain ⟨va,vc,rfl⟩:=hv.shape;obtain ⟨n,hn⟩:∃ n,n = l.length:=⟨_,rfl⟩;rw [<- hn] at hv hk hl |-;have HN:=Hd hn.symm;have HV:=Hd (fun k (hk:k < n)=>hv.cellOf (n:=n) (k:=k) hn.symm hk);have HW:=Hd (wordR_ten l k);have HWN:=Hd (wordR_no l k);have HS:=Hd (nR_step l);have HT:=Hd (nR_ten l);have HE:=Hd (nR_end l);rw [HN.out] at HW HWN HS HT HE;generalize wordR l k = R at *;generalize nR l = NR at *;clear hn hv;have key:∀ j:Nat,j < n -> max ((n:Int) - 1) 0 = (n:Int) - 1 /\ min (j:Int) ((n:Int) - 1) = (j:Int) /\ ¬ (n:Int) - 1 < 0 /\ ¬ (n:Int) - 1 < (j:Int):=fun j hj=>by omega
 by_cases h1:k < n /\ l.getD k 0 = 10
 ·have hr:=Hd (HW.out h1.1 h1.2)
  obtain ⟨gl,off,cap,hvv,hgl,_,_,cl0⟩:=HV.out k h1.1;cases hvv;rw [h1.2] at cl0;obtain ⟨q1,q2,q3,q4⟩:=key k h1.1;have h2:=h1.1;clear key h1;go_enter Try.func65,Try.ntmps65
  go_wp2_with fail
  go_ret
  exact ⟨by rw [hr.out] <;> rfl,by first | rfl | trivial⟩
 ·have hr:=Hd (HWN.out h1)
  have loop:∀ (K:Act -> World -> Prop),True:=fun _=>trivial;clear loop;by_cases hkn:k < n
  ·have hx:¬ l.getD k 0 = 10:=fun e=>h1 ⟨hkn,e⟩
   obtain ⟨gl,off,cap,hvv,hgl,_,_,cl0⟩:=HV.out k hkn;cases hvv;generalize hxx:l.getD k 0 = x at cl0 hx;obtain ⟨q1,q2,q3,q4⟩:=key k hkn;clear h1 hxx;go_enter Try.func65,Try.ntmps65
   go_wp2_with fail
   try clear cl0 q1 q2 q3 q4 hx
   go_loopw [1] (fun i wr=>∃ j:Nat,i = .int .i64 j /\ k <= j /\ j <= n /\ j + NR j = k + NR k /\ wr = w) (fun i _=>n - (intOf i).toNat)
   case atStart=>exact ⟨_,rfl,by omega,by omega,rfl,rfl⟩
   case round =>
    obtain ⟨j,rfl,hkj,hj,hje,rfl⟩:=hrel;by_cases hjn:j < n
    ·obtain ⟨gl,off,cap,hvv,hgl,_,_,cl1⟩:=HV.out j hjn
     cases hvv;obtain ⟨q1,q2,q3,q4⟩:=key j hjn;by_cases hx:l.getD j 0 = 10
     ·have ht:=Hd (HT.out j hjn hx)
      rw [hx] at cl1;go_wp2_with fail
      go_ret
      refine ⟨?_,by first | rfl | trivial⟩;rw [hr.out,<- hje,ht.out] <;> rfl
     ·have ht:=Hd (HS.out j hjn hx)
      generalize l.getD j 0 = x2 at cl1 hx;go_wp2_with fail
      exact ⟨⟨j + 1,by go_num,by omega,by omega,by rw [<- hje,ht.out];omega,by first | rfl | trivial⟩,by simp [intOf] <;> omega⟩
    ·have ht:=Hd (HE.out j (by omega))
     go_wp2_with fail
     go_ret
     refine ⟨?_,by first | rfl | trivial⟩;rw [hr.out,<- hje,ht.out] <;> rfl
  ·have hkn2:k = n:=by omega
   subst hkn2;clear h1;go_enter Try.func65,Try.ntmps65
   go_wp2_with fail
   go_loopw [1] (fun i wr=>i = .int .i64 k /\ wr = w) (fun i _=>k - (intOf i).toNat)
   case atStart=>exact ⟨rfl,rfl⟩
   case round =>
    obtain ⟨rfl,rfl⟩:=hrel;have ht:=Hd (HE.out k (by omega));go_wp2_with fail
    go_ret
    refine ⟨?_,by first | rfl | trivial⟩;rw [hr.out,ht.out] <;> rfl
theorem word_left (v:Value) (l:List Int) (k:Nat) (w:World) (hv:Lst w v l) (hk:k <= l.length) (hl:l.length <= 1000000) :
  Calls Try.prog 65 #[v,.int .i64 k,.bool false] w fun e w'=>e = .returned (.int .i64 (wordL l k:Nat)) /\ w' = w:=by
 obtain ⟨va,vc,rfl⟩:=hv.shape;obtain ⟨n,hn⟩:∃ n,n = l.length:=⟨_,rfl⟩;rw [<- hn] at hv hk hl |-;have HN:=Hd hn.symm;have HV:=Hd (fun k (hk:k < n)=>hv.cellOf (n:=n) (k:=k) hn.symm hk);have HW:=Hd (fun j=>wordL_ten l j);have HWN:=Hd (fun j=>wordL_no l j);have HWZ:=Hd (wordL_zero l);have HS:=Hd (fun j=>nL_step l j);have HT:=Hd (fun j=>nL_ten l j);have HZ:=Hd (nL_zero l);have HLE:=Hd (fun j=>nL_le l j);rw [HN.out] at HW HWN HS HT;generalize nL l = NL at *;clear hn hv;cases k with
 | zero =>
  go_enter Try.func65,Try.ntmps65
  go_wp2_with fail
  go_loopw [1] (fun i wr=>i = .int .i64 (0:Nat) /\ wr = w) (fun _ _=>0)
  case atStart=>exact ⟨rfl,rfl⟩
  case round =>
   obtain ⟨rfl,rfl⟩:=hrel;go_wp2_with fail
   go_ret
   exact ⟨by rw [HWZ.out] <;> rfl,by first | rfl | trivial⟩
 | succ k =>
  by_cases h10:l.getD k 0 = 10
  ·have hr:=Hd (HW.out k hk h10)
   obtain ⟨gl,off,cap,hvv,hgl,_,_,cl0⟩:=HV.out k (by omega);cases hvv;rw [h10] at cl0;have q1:((k + 1:Nat):Int) - 1 = (k:Int):=by omega
   have q2:max (k:Int) 0 = (k:Int):=by omega
   have q3:(0:Int) < ((k + 1:Nat):Int):=by omega
   have q4:¬ (k:Int) < 0:=by omega
   have HQ:=Hd q1;go_enter Try.func65,Try.ntmps65
   go_wp2_with fail
   go_ret
   exact ⟨by rw [hr.out] <;> rfl,by first | rfl | trivial⟩
  ·have hr:=Hd (HWN.out k hk h10)
   have hle:=HLE.out (k + 1);obtain ⟨gl,off,cap,hvv,hgl,_,_,cl0⟩:=HV.out k (by omega);cases hvv;generalize hxx:l.getD k 0 = x at cl0 h10;have q1:((k + 1:Nat):Int) - 1 = (k:Int):=by omega
   have q2:max (k:Int) 0 = (k:Int):=by omega
   have q3:(0:Int) < ((k + 1:Nat):Int):=by omega
   have q4:¬ (k:Int) < 0:=by omega
   clear hxx;go_enter Try.func65,Try.ntmps65
   go_wp2_with fail
   clear cl0 q1 q2 q3 q4 h10;go_loopw [1] (fun i wr=>∃ j:Nat,i = .int .i64 j /\ j <= k + 1 /\ NL j <= j /\ j - NL j = k + 1 - NL (k + 1) /\ wr = w) (fun i _=>(intOf i).toNat)
   case atStart=>exact ⟨k + 1,by first | rfl | go_num,by omega,hle,rfl,rfl⟩
   case round =>
    obtain ⟨j,rfl,hj,hjl,hje,rfl⟩:=hrel;cases j with
    | zero =>
     go_wp2_with fail
     go_ret
     exact ⟨by rw [hr.out,<- hje];simp,by first | rfl | trivial⟩
    | succ j =>
     obtain ⟨gl,off,cap,hvv,hgl,_,_,cl1⟩:=HV.out j (by omega);cases hvv;have q1:((j + 1:Nat):Int) - 1 = (j:Int):=by omega
     have q2:max (j:Int) 0 = (j:Int):=by omega
     have q3:(0:Int) < ((j + 1:Nat):Int):=by omega
     have q4:¬ (j:Int) < 0:=by omega
     by_cases hx:l.getD j 0 = 10
     ·have ht:=Hd (HT.out j (by omega) hx)
      rw [hx] at cl1;go_wp2_with fail
      go_ret
      refine ⟨?_,by first | rfl | trivial⟩;rw [ht.out] at hje;rw [hr.out,<- hje];simp
     ·have ht:=Hd (HS.out j (by omega) hx)
      have hl2:=HLE.out j;generalize l.getD j 0 = x2 at cl1 hx;go_wp2_with fail
      refine ⟨⟨j,by first | rfl | (congr 1;omega),by omega,hl2,?_,by first | rfl | trivial⟩,by simp [intOf]⟩;rw [ht.out] at hje;omega
theorem may_any (g s:Bool) (a1 a2:Option Addr) (n1 n2 c1 c2:Nat) (I F:List Int) (c a:Int) (w:World) (hi:Lst w (.slice a1 n1 c1) I) (hf:Lst w (.slice a2 n2 c2) F) (k1:I.length = n1) (k2:F.length = n2) (l1:n1 <= 100000) (l2:n2 <= 100000) :
  Calls Try.prog 30 #[.agg #[.bool g,.slice a1 n1 c1,.bool s,.slice a2 n2 c2,.int .i64 c,.int .i64 a]] w fun e w'=>e = .returned (.bool (mayS ⟨⟨g,I,s,F⟩,c,a⟩)) /\ Q w w':=by
 have HM:=Hd (fun u (q:Q w u)=>Tr.may_any g s _ _ I F u (hi.q q) (hf.q q) (by omega) (by omega));have HA:=Hd (fun u (q:Q w u)=>Tr.atoms_any g s a1 a2 n1 n2 c1 c2 I F u (hi.q q) (hf.q q) k1 k2 l1 l2);have hn:(ats ⟨g,I,s,F⟩).length = n1 + (sep s).length + n2:=by rw [ats_len,k1,k2]
 have hsl:=sep_len s;have HR:=Hd (show mayS ⟨⟨g,I,s,F⟩,c,a⟩ = (may ⟨g,I,s,F⟩ && decide (0 <= c /\ c <= ((n1 + (sep s).length + n2:Nat):Int)) && decide (0 <= a /\ a <= ((n1 + (sep s).length + n2:Nat):Int))) from by
  unfold mayS len;dsimp only;rw [hn])
 generalize mayS ⟨⟨g,I,s,F⟩,c,a⟩ = R at *;generalize may ⟨g,I,s,F⟩ = M at *;generalize n1 + (sep s).length + n2 = n at *;obtain ⟨y,hy⟩:∃ z,z = w.alloc (.cells #[.bool g,.slice a1 n1 c1,.bool s,.slice a2 n2 c2,.int .i64 c,.int .i64 a] 26):=⟨_,rfl⟩;have HQY:=Hd (show Q w y by rw [hy];exact (Q.refl w).alloc _);obtain ⟨bS,hbS⟩:∃ b,b = w.heap.size:=⟨_,rfl⟩;have hby:Bk y bS 26 [.bool g,.slice a1 n1 c1,.bool s,.slice a2 n2 c2,.int .i64 c,.int .i64 a]:=by rw [hy,hbS];exact Bk.new _ _ _
 have HBY:=Hd hby
 have x0:=hby.cell 0 rfl;have x1:=hby.cell 1 rfl;have x2:=hby.cell 2 rfl;have x3:=hby.cell 3 rfl;clear hi hf k1 k2 hn hby
 go_enter Try.func30,Try.ntmps30
 go_upto_region 1 with fail
 rw [<- hy,<- hbS];clear hy hbS;go_wp2_with fail
 refine (HM.out _ HQY.out).mono ?_;rintro e y1 ⟨rfl,hq1⟩;have HQ1:=Hd (HQY.out.trans hq1);have hb1:=HBY.out.q hq1;have HB1:=Hd hb1;clear x0 x1 x2 x3 hq1;have x0:=hb1.cell 0 rfl;have x1:=hb1.cell 1 rfl;have x2:=hb1.cell 2 rfl;have x3:=hb1.cell 3 rfl;clear hb1;go_wp2_with fail
 refine (HA.out _ HQ1.out).mono ?_;rintro e y2 ⟨av,ac,rfl,_,hq2⟩;have HQ2:=Hd (HQ1.out.trans hq2);have hb2:=HB1.out.q hq2;clear x0 x1 x2 x3 hq2;have x4:=hb2.cell 4 rfl;have x5:=hb2.cell 5 rfl;clear hb2;cases M with
 | false =>
  go_wp2_with fail
  go_ret
  exact ⟨by rw [HR.out];rfl,HQ2.out⟩
 | true =>
  rw [Bool.true_and] at HR;by_cases h1:0 <= c
  ·by_cases h2:c <= (n:Int)
   ·by_cases h3:0 <= a
    ·by_cases h4:a <= (n:Int)
     ·go_wp2_with fail
      go_ret
      exact ⟨by rw [HR.out,decide_eq_true ⟨h1,h2⟩,decide_eq_true ⟨h3,h4⟩];first | rfl | exact retB rfl | exact retB (by simp <;> omega),HQ2.out⟩
     ·go_wp2_with fail
      go_ret
      exact ⟨by rw [HR.out,decide_eq_false (show ¬ (0 <= a /\ a <= (n:Int)) by omega),Bool.and_false];first | rfl | exact retB rfl | exact retB (by simp <;> omega),HQ2.out⟩
    ·go_wp2_with fail
     go_ret
     exact ⟨by rw [HR.out,decide_eq_false (show ¬ (0 <= a /\ a <= (n:Int)) by omega),Bool.and_false];first | rfl | exact retB rfl | exact retB (by simp <;> omega),HQ2.out⟩
   ·go_wp2_with fail
    go_ret
    exact ⟨by rw [HR.out,decide_eq_false (show ¬ (0 <= c /\ c <= (n:Int)) by omega),Bool.false_and];first | rfl | exact retB rfl | exact retB (by simp <;> omega),HQ2.out⟩
  ·go_wp2_with fail
   go_ret
   exact ⟨by rw [HR.out,decide_eq_false (show ¬ (0 <= c /\ c <= (n:Int)) by omega),Bool.false_and];first | rfl | exact retB rfl | exact retB (by simp <;> omega),HQ2.out⟩
end Re
end
end Go.Proofs.Ytnehhbobhnmbcaa
