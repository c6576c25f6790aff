/- The program's small parts of edit: whether a place is one, whether a state may be, what is selected, where the ways lead. (and more) -/
import Derived.Test.YtnehhbobhnmbcaaR18
import Derived.Laws.Rows
set_option linter.all false
set_option maxRecDepth 100000
set_option maxHeartbeats 8000000
namespace Go.Proofs.Ytnehhbobhnmbcaa
section
open Go.RowKit
namespace Pe
open Ed Tm
theorem infoS:(Try.prog.info? 39).map (·.size) = some 6:=by kernel_rfl
theorem infoD:(Try.prog.info? 37).map (·.size) = some 4:=by kernel_rfl
theorem isPlace_any (g s:Bool) (a1 a2:Option Addr) (n1 n2 c1 c2:Nat) (x:Int) (w:World) (l1:n1 <= 100000) (l2:n2 <= 100000) :
  Calls Try.prog 50 #[.agg #[.bool g,.slice a1 n1 c1,.bool s,.slice a2 n2 c2],.int .i64 x] w fun e w'=>e = .returned (.bool (decide (0 <= x /\ x <= ((n1 + (sep s).length + n2:Nat):Int)))) /\ Q w w':=by
 have HLN:=Hd (fun u=>Tp.len_any g s a1 a2 n1 n2 c1 c2 u l1 l2);generalize n1 + (sep s).length + n2 = n at *;obtain ⟨R,hR⟩:∃ R,R = decide (0 <= x /\ x <= (n:Int)):=⟨_,rfl⟩;rw [<- hR];have HR:=Hd hR;clear hR;obtain ⟨y,hy⟩:∃ z,z = w.alloc (.cells #[.bool g,.slice a1 n1 c1,.bool s,.slice a2 n2 c2] 37):=⟨_,rfl⟩;have HQY:=Hd (show Q w y by rw [hy];exact (Q.refl w).alloc _);obtain ⟨bS,hbS⟩:∃ b,b = w.heap.size:=⟨_,rfl⟩;have HBY:=Hd (show Bk y bS 37 [.bool g,.slice a1 n1 c1,.bool s,.slice a2 n2 c2] by rw [hy,hbS];exact Bk.new _ _ _);have x0:=HBY.out.cell 0 rfl;have x1:=HBY.out.cell 1 rfl;have x2:=HBY.out.cell 2 rfl;have x3:=HBY.out.cell 3 rfl;by_cases h0:0 <= x
 ·have h0':¬ x < 0:=by omega
  go_enter Try.func50,Try.ntmps50
  go_upto_region 1 with fail
  rw [<- hy,<- hbS];clear hy hbS;go_wp2_with fail
  refine (HLN.out _).mono ?_;rintro e y1 ⟨rfl,hq⟩;have HQ1:=Hd (HQY.out.trans hq);clear hq x0 x1 x2 x3;by_cases h1:x <= (n:Int)
  ·have h1':¬ (n:Int) < x:=by omega
   go_wp2_with fail
   go_ret
   exact ⟨by rw [HR.out.trans (decide_eq_true ⟨h0,h1⟩)] <;> rfl,HQ1.out⟩
  ·have h1':(n:Int) < x:=by omega
   go_wp2_with fail
   go_ret
   exact ⟨by rw [HR.out.trans (decide_eq_false (show ¬ (0 <= x /\ x <= (n:Int)) by omega))];first | rfl | exact retB (by simp <;> omega),HQ1.out⟩
 ·have h0':x < 0:=by omega
  go_enter Try.func50,Try.ntmps50
  go_upto_region 1 with fail
  rw [<- hy,<- hbS];clear hy hbS;go_wp2_with fail
  go_ret
  exact ⟨by rw [HR.out.trans (decide_eq_false (show ¬ (0 <= x /\ x <= (n:Int)) by omega))];first | rfl | exact retB (by simp <;> omega),HQY.out⟩
theorem may_any (g s:Bool) (a1 a2:Option Addr) (n1 n2 c1 c2:Nat) (I F:List Int) (c a:Int) (w:World) (hi:Lst w (.slice a1 n1 c1) I) (hf:Lst w (.slice a2 n2 c2) F) (k1:I.length = n1) (k2:F.length = n2) (l1:n1 <= 100000) (l2:n2 <= 100000) :
  Calls Try.prog 31 #[.agg #[.bool g,.slice a1 n1 c1,.bool s,.slice a2 n2 c2,.int .i64 c,.int .i64 a]] w fun e w'=>e = .returned (.bool (mayS ⟨⟨g,I,s,F⟩,c,a⟩)) /\ Q w w':=by
 have HM:=Hd (fun u (q:Q w u)=>Tp.may_any g s _ _ I F u (hi.q q) (hf.q q) (by omega) (by omega));have HP:=Hd (fun u x=>isPlace_any g s a1 a2 n1 n2 c1 c2 x u l1 l2);have hn:(ats ⟨g,I,s,F⟩).length = n1 + (sep s).length + n2:=by rw [ats_len,k1,k2]
 have HR:=Hd (show mayS ⟨⟨g,I,s,F⟩,c,a⟩ = (may ⟨g,I,s,F⟩ && decide (0 <= c /\ c <= ((n1 + (sep s).length + n2:Nat):Int)) && decide (0 <= a /\ a <= ((n1 + (sep s).length + n2:Nat):Int))) from by
  unfold mayS len;dsimp only;rw [hn])
 generalize mayS ⟨⟨g,I,s,F⟩,c,a⟩ = R at *;generalize may ⟨g,I,s,F⟩ = M at *;generalize n1 + (sep s).length + n2 = n at *;have HP1:=Hd (fun u=>HP.out u c);have HP2:=Hd (fun u=>HP.out u a);generalize decide (0 <= c /\ c <= (n:Int)) = P1 at *;generalize decide (0 <= a /\ a <= (n:Int)) = P2 at *;clear hi hf k1 k2 hn HP;obtain ⟨y,hy⟩:∃ z,z = w.alloc (.cells #[.bool g,.slice a1 n1 c1,.bool s,.slice a2 n2 c2,.int .i64 c,.int .i64 a] 39):=⟨_,rfl⟩;have HQY:=Hd (show Q w y by rw [hy];exact (Q.refl w).alloc _);obtain ⟨bS,hbS⟩:∃ b,b = w.heap.size:=⟨_,rfl⟩;have HBY:=Hd (show Bk y bS 39 [.bool g,.slice a1 n1 c1,.bool s,.slice a2 n2 c2,.int .i64 c,.int .i64 a] by rw [hy,hbS];exact Bk.new _ _ _);have x0:=HBY.out.cell 0 rfl;have x1:=HBY.out.cell 1 rfl;have x2:=HBY.out.cell 2 rfl;have x3:=HBY.out.cell 3 rfl;have x4:=HBY.out.cell 4 rfl;have x5:=HBY.out.cell 5 rfl;go_enter Try.func31,Try.ntmps31
 go_upto_region 1 with fail
 rw [<- hy,<- hbS];clear hy hbS;go_wp2_with fail
 refine (HM.out _ HQY.out).mono ?_;rintro e y1 ⟨rfl,hq⟩;have HQ1:=Hd (HQY.out.trans hq);have HB1:=Hd (HBY.out.q hq);clear hq x0 x1 x2 x3 x4 x5;cases M with
 | false =>
  go_wp2_with fail
  go_ret
  exact ⟨by rw [HR.out];rfl,HQ1.out⟩
 | true =>
  rw [Bool.true_and] at HR;have x0:=HB1.out.cell 0 rfl;have x1:=HB1.out.cell 1 rfl;have x2:=HB1.out.cell 2 rfl;have x3:=HB1.out.cell 3 rfl;have x4:=HB1.out.cell 4 rfl;have x5:=HB1.out.cell 5 rfl;go_wp2_with fail
  refine (HP1.out _).mono ?_;rintro e y2 ⟨rfl,hq⟩;have HQ2:=Hd (HQ1.out.trans hq);have HB2:=Hd (HB1.out.q hq);clear hq x0 x1 x2 x3 x4 x5;cases P1 with
  | false =>
   go_wp2_with fail
   go_ret
   exact ⟨by rw [HR.out];rfl,HQ2.out⟩
  | true =>
   rw [Bool.true_and] at HR;have x0:=HB2.out.cell 0 rfl;have x1:=HB2.out.cell 1 rfl;have x2:=HB2.out.cell 2 rfl;have x3:=HB2.out.cell 3 rfl;have x4:=HB2.out.cell 4 rfl;have x5:=HB2.out.cell 5 rfl;go_wp2_with fail
   refine (HP2.out _).mono ?_;rintro e y3 ⟨rfl,hq⟩;have HQ3:=Hd (HQ2.out.trans hq);clear hq x0 x1 x2 x3 x4 x5;go_wp2_with fail
   go_ret
   exact ⟨by rw [HR.out] <;> rfl,HQ3.out⟩
theorem span_any (g s:Bool) (a1 a2:Option Addr) (n1 n2 c1 c2:Nat) (I F:List Int) (c a:Int) (w:World) (hi:Lst w (.slice a1 n1 c1) I) (hf:Lst w (.slice a2 n2 c2) F) (k1:I.length = n1) (k2:F.length = n2) (l1:n1 <= 100000) (l2:n2 <= 100000) :
  Calls Try.prog 29 #[.agg #[.bool g,.slice a1 n1 c1,.bool s,.slice a2 n2 c2,.int .i64 c,.int .i64 a]] w fun e w'=>e = .returned (.tuple #[.int .i64 (spF ⟨⟨g,I,s,F⟩,c,a⟩),.int .i64 (spB ⟨⟨g,I,s,F⟩,c,a⟩)]) /\ Q w w':=by
 have HM:=Hd (fun u (q:Q w u)=>may_any g s a1 a2 n1 n2 c1 c2 I F c a u (hi.q q) (hf.q q) k1 k2 l1 l2);have HOK:=Hd (fun (h:mayS ⟨⟨g,I,s,F⟩,c,a⟩ = true)=>(⟨spF_ok h,spB_ok h⟩:_ /\ _));have HNO:=Hd (fun (h:mayS ⟨⟨g,I,s,F⟩,c,a⟩ = false)=>(⟨spF_no h,spB_no h⟩:_ /\ _));have hmn:(if a < c then a else c) = fr ⟨⟨g,I,s,F⟩,c,a⟩:=by show _ = min c a;split <;> omega
 have hmx:(if c < a then a else c) = bk ⟨⟨g,I,s,F⟩,c,a⟩:=by show _ = max c a;split <;> omega
 generalize spF ⟨⟨g,I,s,F⟩,c,a⟩ = SF at *;generalize spB ⟨⟨g,I,s,F⟩,c,a⟩ = SB at *;generalize fr ⟨⟨g,I,s,F⟩,c,a⟩ = FR at *;generalize bk ⟨⟨g,I,s,F⟩,c,a⟩ = BK at *;generalize mayS ⟨⟨g,I,s,F⟩,c,a⟩ = M at *;clear hi hf k1 k2;obtain ⟨y,hy⟩:∃ z,z = w.alloc (.cells #[.bool g,.slice a1 n1 c1,.bool s,.slice a2 n2 c2,.int .i64 c,.int .i64 a] 39):=⟨_,rfl⟩;have HQY:=Hd (show Q w y by rw [hy];exact (Q.refl w).alloc _);obtain ⟨bS,hbS⟩:∃ b,b = w.heap.size:=⟨_,rfl⟩;have HBY:=Hd (show Bk y bS 39 [.bool g,.slice a1 n1 c1,.bool s,.slice a2 n2 c2,.int .i64 c,.int .i64 a] by rw [hy,hbS];exact Bk.new _ _ _);go_enter Try.func29,Try.ntmps29
 go_upto_region 1 with fail
 rw [<- hy,<- hbS];clear hy hbS;go_wp2_with (refine wpList_load_row (by rfl) 39 _ (by rfl) bS (by rfl) 39 #[.bool g,.slice a1 n1 c1,.bool s,.slice a2 n2 c2,.int .i64 c,.int .i64 a] (0,0) _ HBY.out Try.underlying39 rfl (by exact infoS) ?_)
 refine (HM.out _ HQY.out).mono ?_;rintro e y1 ⟨rfl,hq⟩;have HQ1:=Hd (HQY.out.trans hq);have HB1:=Hd (HBY.out.q hq);clear hq;cases M with
 | false =>
  obtain ⟨z1,z2⟩:=HNO.out rfl;have Z1:=Hd z1;have Z2:=Hd z2;clear z1 z2;go_wp2_with fail
  go_ret2
  exact ⟨by rw [Z1.out,Z2.out] <;> rfl,HQ1.out⟩
 | true =>
  obtain ⟨z1,z2⟩:=HOK.out rfl;have Z1:=Hd z1;have Z2:=Hd z2;clear z1 z2;have x4:=HB1.out.cell 4 rfl;have x5:=HB1.out.cell 5 rfl;go_upto_region 3 with fail
  go_quiet (fail)
  go_wp2_with fail
  go_ret2
  exact ⟨by rw [Z1.out,Z2.out] <;> rfl,HQ1.out.drewN _⟩
theorem left_any (va:Option Addr) (n vc:Nat) (c:Nat) (w:World) (hc:c <= n) (hn:n <= 1000000) :
  Calls Try.prog 58 #[.slice va n vc,.int .i64 c] w fun e w'=>e = .returned (.int .i64 (max ((c:Int) - 1) 0)) /\ w' = w:=by
 by_cases hz:c = 0
 ·subst hz
  go_enter Try.func58,Try.ntmps58
  go_wp2_with fail
  go_ret
  exact ⟨by rfl,by first | rfl | trivial⟩
 ·have q1:max ((c:Int) - 1) 0 = (c:Int) - 1:=by omega
  have q2:¬ (c:Int) - 1 < 0:=by omega
  rw [q1];go_enter Try.func58,Try.ntmps58
  go_wp2_with fail
  go_ret
  exact ⟨by rfl,by first | rfl | trivial⟩
theorem right_any (va:Option Addr) (n vc:Nat) (c:Nat) (w:World) (hc:c <= n) (hn:n <= 1000000) :
  Calls Try.prog 59 #[.slice va n vc,.int .i64 c] w fun e w'=>e = .returned (.int .i64 (min ((c:Int) + 1) (n:Int))) /\ w' = w:=by
 by_cases hz:c < n
 ·have q1:min ((c:Int) + 1) (n:Int) = (c:Int) + 1:=by omega
  have q2:¬ (n:Int) < (c:Int) + 1:=by omega
  have Q1:=Hd q1;rw [Q1.out];go_enter Try.func59,Try.ntmps59
  go_wp2_with fail
  go_ret
  exact ⟨by rfl,by first | rfl | trivial⟩
 ·have q1:min ((c:Int) + 1) (n:Int) = (n:Int):=by omega
  have q2:(n:Int) < (c:Int) + 1:=by omega
  have Q1:=Hd q1;rw [Q1.out];go_enter Try.func59,Try.ntmps59
  go_wp2_with fail
  go_ret
  exact ⟨by rfl,by first | rfl | trivial⟩
theorem home_any (va:Option Addr) (n vc:Nat) (c:Nat) (w:World) (hc:c <= n) (hn:n <= 1000000) :
  Calls Try.prog 62 #[.slice va n vc,.int .i64 c] w fun e w'=>e = .returned (.int .i64 (0)) /\ w' = w:=by
 go_enter Try.func62,Try.ntmps62
 go_wp2_with fail
 go_ret
 exact ⟨by rfl,by first | rfl | trivial⟩
theorem end_any (va:Option Addr) (n vc:Nat) (c:Nat) (w:World) (hc:c <= n) (hn:n <= 1000000) :
  Calls Try.prog 63 #[.slice va n vc,.int .i64 c] w fun e w'=>e = .returned (.int .i64 ((n:Int))) /\ w' = w:=by
 go_enter Try.func63,Try.ntmps63
 go_wp2_with fail
 go_ret
 exact ⟨by rfl,by first | rfl | trivial⟩
theorem word_right (v:Value) (l:List Int) (k:Nat) (w:World) (hv:Lst w v l) (hk:k <= l.length) (hl:l.length <= 1000000) :
  Calls Try.prog 61 #[v,.int .i64 k] w fun e w'=>e = .returned (.int .i64 (wordR l k:Nat)) /\ w' = w:=by
 obtain ⟨va,vc,rfl⟩:=hv.shape;obtain ⟨n,hn⟩:∃ n,n = l.length:=⟨_,rfl⟩;rw [<- hn] at hv hk hl |-;have HN:=Hd hn.symm;have HV:=Hd (fun k (hk:k < n)=>hv.cellOf (n:=n) (k:=k) hn.symm hk);have HW:=Hd (wordR_ten l k);have HWN:=Hd (wordR_no l k);have HS:=Hd (nR_step l);have HT:=Hd (nR_ten l);have HE:=Hd (nR_end l);rw [HN.out] at HW HWN HS HT HE;generalize wordR l k = R at *;generalize nR l = NR at *;clear hn hv;by_cases h1:k < n /\ l.getD k 0 = 10
 ·have hr:=Hd (HW.out h1.1 h1.2)
  obtain ⟨gl,off,cap,hvv,hgl,_,_,cl0⟩:=HV.out k h1.1;cases hvv;rw [h1.2] at cl0;have h2:=h1.1;clear h1;go_enter Try.func61,Try.ntmps61
  go_wp2_with fail
  go_ret
  exact ⟨by rw [hr.out] <;> rfl,by first | rfl | trivial⟩
 ·have hr:=Hd (HWN.out h1)
  by_cases hkn:k < n
  ·have hx:¬ l.getD k 0 = 10:=fun e=>h1 ⟨hkn,e⟩
   obtain ⟨gl,off,cap,hvv,hgl,_,_,cl0⟩:=HV.out k hkn;cases hvv;generalize hxx:l.getD k 0 = x at cl0 hx;clear h1 hxx;go_enter Try.func61,Try.ntmps61
   go_wp2_with fail
   try clear cl0 hx
   go_loopw [1] (fun i wr=>∃ j:Nat,i = .int .i64 j /\ k <= j /\ j <= n /\ j + NR j = k + NR k /\ wr = w) (fun i _=>n - (intOf i).toNat)
   case atStart=>exact ⟨_,rfl,by omega,by omega,rfl,rfl⟩
   case round =>
    obtain ⟨j,rfl,hkj,hj,hje,rfl⟩:=hrel;by_cases hjn:j < n
    ·obtain ⟨gl,off,cap,hvv,hgl,_,_,cl1⟩:=HV.out j hjn
     cases hvv;by_cases hx:l.getD j 0 = 10
     ·have ht:=Hd (HT.out j hjn hx)
      rw [hx] at cl1;go_wp2_with fail
      go_ret
      refine ⟨?_,by first | rfl | trivial⟩;rw [hr.out,<- hje,ht.out] <;> rfl
     ·have ht:=Hd (HS.out j hjn hx)
      generalize l.getD j 0 = x2 at cl1 hx;go_wp2_with fail
      exact ⟨⟨j + 1,by go_num,by omega,by omega,by rw [<- hje,ht.out];omega,by first | rfl | trivial⟩,by simp [intOf] <;> omega⟩
    ·have ht:=Hd (HE.out j (by omega))
     go_wp2_with fail
     go_ret
     refine ⟨?_,by first | rfl | trivial⟩;rw [hr.out,<- hje,ht.out] <;> rfl
  ·have hkn2:k = n:=by omega
   subst hkn2;clear h1;go_enter Try.func61,Try.ntmps61
   go_wp2_with fail
   go_loopw [1] (fun i wr=>i = .int .i64 k /\ wr = w) (fun i _=>k - (intOf i).toNat)
   case atStart=>exact ⟨rfl,rfl⟩
   case round =>
    obtain ⟨rfl,rfl⟩:=hrel;have ht:=Hd (HE.out k (by omega));go_wp2_with fail
    go_ret
    refine ⟨?_,by first | rfl | trivial⟩;rw [hr.out,ht.out] <;> rfl
theorem word_left (v:Value) (l:List Int) (k:Nat) (w:World) (hv:Lst w v l) (hk:k <= l.length) (hl:l.length <= 1000000) :
  Calls Try.prog 60 #[v,.int .i64 k] w fun e w'=>e = .returned (.int .i64 (wordL l k:Nat)) /\ w' = w:=by
 obtain ⟨va,vc,rfl⟩:=hv.shape;obtain ⟨n,hn⟩:∃ n,n = l.length:=⟨_,rfl⟩;rw [<- hn] at hv hk hl |-;have HN:=Hd hn.symm;have HV:=Hd (fun k (hk:k < n)=>hv.cellOf (n:=n) (k:=k) hn.symm hk);have HW:=Hd (fun j=>wordL_ten l j);have HWN:=Hd (fun j=>wordL_no l j);have HWZ:=Hd (wordL_zero l);have HS:=Hd (fun j=>nL_step l j);have HT:=Hd (fun j=>nL_ten l j);have HZ:=Hd (nL_zero l);have HLE:=Hd (fun j=>nL_le l j);rw [HN.out] at HW HWN HS HT;generalize nL l = NL at *;clear hn hv;cases k with
 | zero =>
  go_enter Try.func60,Try.ntmps60
  go_wp2_with fail
  go_loopw [1] (fun i wr=>i = .int .i64 (0:Nat) /\ wr = w) (fun _ _=>0)
  case atStart=>exact ⟨rfl,rfl⟩
  case round =>
   obtain ⟨rfl,rfl⟩:=hrel;go_wp2_with fail
   go_ret
   exact ⟨by rw [HWZ.out] <;> rfl,by first | rfl | trivial⟩
 | succ k =>
  by_cases h10:l.getD k 0 = 10
  ·have hr:=Hd (HW.out k hk h10)
   obtain ⟨gl,off,cap,hvv,hgl,_,_,cl0⟩:=HV.out k (by omega);cases hvv;rw [h10] at cl0;have q1:((k + 1:Nat):Int) - 1 = (k:Int):=by omega
   have q3:(0:Int) < ((k + 1:Nat):Int):=by omega
   go_enter Try.func60,Try.ntmps60
   go_wp2_with fail
   go_ret
   exact ⟨by rw [hr.out] <;> rfl,by first | rfl | trivial⟩
  ·have hr:=Hd (HWN.out k hk h10)
   have hle:=HLE.out (k + 1);obtain ⟨gl,off,cap,hvv,hgl,_,_,cl0⟩:=HV.out k (by omega);cases hvv;generalize hxx:l.getD k 0 = x at cl0 h10;have q1:((k + 1:Nat):Int) - 1 = (k:Int):=by omega
   have q3:(0:Int) < ((k + 1:Nat):Int):=by omega
   clear hxx;go_enter Try.func60,Try.ntmps60
   go_wp2_with fail
   clear cl0 q1 q3 h10;go_loopw [1] (fun i wr=>∃ j:Nat,i = .int .i64 j /\ j <= k + 1 /\ NL j <= j /\ j - NL j = k + 1 - NL (k + 1) /\ wr = w) (fun i _=>(intOf i).toNat)
   case atStart=>exact ⟨k + 1,by first | rfl | go_num,by omega,hle,rfl,rfl⟩
   case round =>
    obtain ⟨j,rfl,hj,hjl,hje,rfl⟩:=hrel;cases j with
    | zero =>
     go_wp2_with fail
     go_ret
     exact ⟨by rw [hr.out,<- hje];simp,by first | rfl | trivial⟩
    | succ j =>
     obtain ⟨gl,off,cap,hvv,hgl,_,_,cl1⟩:=HV.out j (by omega);cases hvv;have q1:((j + 1:Nat):Int) - 1 = (j:Int):=by omega
     have q3:(0:Int) < ((j + 1:Nat):Int):=by omega
     by_cases hx:l.getD j 0 = 10
     ·have ht:=Hd (HT.out j (by omega) hx)
      rw [hx] at cl1;go_wp2_with fail
      go_ret
      refine ⟨?_,by first | rfl | trivial⟩;rw [ht.out] at hje;rw [hr.out,<- hje];simp
     ·have ht:=Hd (HS.out j (by omega) hx)
      have hl2:=HLE.out j;generalize l.getD j 0 = x2 at cl1 hx;go_wp2_with fail
      refine ⟨⟨j,by first | rfl | (congr 1;omega),by omega,hl2,?_,by first | rfl | trivial⟩,by simp [intOf]⟩;rw [ht.out] at hje;omega
end Pe
end
end Go.Proofs.Ytnehhbobhnmbcaa
