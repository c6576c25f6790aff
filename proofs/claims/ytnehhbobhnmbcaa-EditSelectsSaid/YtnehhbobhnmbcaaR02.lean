/- Lists of digits as plain mathematics: the number that one reads, the list of a number, and the steps of school. (and more) -/
import Derived.Test.YtnehhbobhnmbcaaR00
import Derived.ChangeOld
import Derived.Below
import Derived.Lib.SmallJoins
set_option linter.all false
set_option maxRecDepth 100000
set_option maxHeartbeats 8000000
namespace Go.Proofs.Ytnehhbobhnmbcaa
namespace Dm
def num (l:List Int):Nat:=l.foldl (fun n d=>10 * n + d.toNat) 0
def okD (l:List Int):Prop:=∀ d ∈ l,0 <= d /\ d <= 9
def okB (l:List Int):Bool:=l.all fun d=>decide (0 <= d /\ d <= 9)
theorem okB_iff (l:List Int):okB l = true ↔ okD l:=by simp [okB,okD]
theorem num_nil:num [] = 0:=rfl
theorem num_from (n:Nat) (l:List Int):l.foldl (fun n d=>10 * n + d.toNat) n = n * 10 ^ l.length + num l:=by
 induction l generalizing n with
 | nil=>simp [num]
 | cons d l ih =>
  have h1:=ih (10 * n + d.toNat);have h2:=ih (10 * 0 + d.toNat);unfold num;rw [List.foldl_cons,List.foldl_cons,h1,h2,List.length_cons,Nat.pow_succ];rw [Nat.add_mul,Nat.mul_comm 10 n,Nat.mul_zero,Nat.zero_add,Nat.mul_assoc,Nat.mul_comm 10 (10 ^ l.length)];omega
theorem num_append (a b:List Int):num (a ++ b) = num a * 10 ^ b.length + num b:=by
 unfold num;rw [List.foldl_append];exact num_from _ b
theorem num_cons (d:Int) (l:List Int):num (d :: l) = d.toNat * 10 ^ l.length + num l:=by
 have:=num_append [d] l;simpa [num] using this
theorem num_snoc (l:List Int) (d:Int):num (l ++ [d]) = 10 * num l + d.toNat:=by
 rw [num_append];simp [num];omega
theorem okD_nil:okD []:=by simp [okD]
theorem okD_cons {d:Int} {l:List Int}:okD (d :: l) ↔ (0 <= d /\ d <= 9) /\ okD l:=by simp [okD]
theorem okD_append {a b:List Int}:okD (a ++ b) ↔ okD a /\ okD b:=by
 simp only [okD,List.mem_append];exact ⟨fun h=>⟨fun d hd=>h d (.inl hd),fun d hd=>h d (.inr hd)⟩,fun h d hd=>hd.elim (h.1 d) (h.2 d)⟩
theorem okD_drop {l:List Int} (h:okD l) (n:Nat):okD (l.drop n):=fun d hd=>h d (List.mem_of_mem_drop hd)
theorem okD_take {l:List Int} (h:okD l) (n:Nat):okD (l.take n):=fun d hd=>h d (List.mem_of_mem_take hd)
theorem num_lt (l:List Int) (h:okD l):num l < 10 ^ l.length:=by
 induction l with
 | nil=>simp [num]
 | cons d l ih =>
  rw [okD_cons] at h;have:=ih h.2;rw [num_cons,List.length_cons,Nat.pow_succ];have h9:d.toNat <= 9:=by omega
  have:=Nat.mul_le_mul_right (10 ^ l.length) h9;omega
def trimL (l:List Int):List Int:=l.dropWhile (· == 0)
theorem num_trim (l:List Int):num (trimL l) = num l:=by
 induction l with
 | nil=>rfl
 | cons d l ih =>
  unfold trimL;by_cases h:d = 0
  ·subst h
   rw [List.dropWhile_cons_of_pos (by simp),num_cons];simpa [trimL] using ih
  ·rw [List.dropWhile_cons_of_neg (by simpa using h)]
theorem okD_trim {l:List Int} (h:okD l):okD (trimL l):=fun d hd=>h d ((List.dropWhile_sublist _).subset hd)
theorem trim_head (l:List Int):trimL l = [] \/ ∃ d r,trimL l = d :: r /\ d ≠ 0:=by
 induction l with
 | nil=>exact .inl rfl
 | cons d l ih =>
  unfold trimL;by_cases h:d = 0
  ·subst h
   rw [List.dropWhile_cons_of_pos (by simp)];exact ih
  ·rw [List.dropWhile_cons_of_neg (by simpa using h)]
   exact .inr ⟨d,l,rfl,h⟩
theorem trim_trim (l:List Int):trimL (trimL l) = trimL l:=by
 rcases trim_head l with h | ⟨d,r,h,hd⟩
 ·rw [h];rfl
 ·rw [h];unfold trimL;rw [List.dropWhile_cons_of_neg (by simpa using hd)]
theorem num_ge (d:Int) (l:List Int) (h:okD (d :: l)) (hd:d ≠ 0):10 ^ l.length <= num (d :: l):=by
 rw [okD_cons] at h;rw [num_cons];have h1:1 <= d.toNat:=by omega
 have:=Nat.mul_le_mul_right (10 ^ l.length) h1;omega
theorem same_len (a b:List Int) (ha:okD a) (hb:okD b) (hl:a.length = b.length) (hn:num a = num b):a = b:=by
 induction a generalizing b with
 | nil=>exact (List.eq_nil_of_length_eq_zero hl.symm).symm
 | cons x a ih =>
  cases b with
  | nil=>simp at hl
  | cons y b =>
   rw [okD_cons] at ha hb;have hl':a.length = b.length:=by simpa using hl
   rw [num_cons,num_cons,hl'] at hn;have h1:=num_lt a ha.2;have h2:=num_lt b hb.2;rw [hl'] at h1;generalize hp:10 ^ b.length = p at *;have hxy:x.toNat = y.toNat:=by
    rcases Nat.lt_trichotomy x.toNat y.toNat with h | h | h
    ·have:=Nat.mul_le_mul_right p (show x.toNat + 1 <= y.toNat from h)
     rw [Nat.add_mul] at this;omega
    ·exact h
    ·have:=Nat.mul_le_mul_right p (show y.toNat + 1 <= x.toNat from h)
     rw [Nat.add_mul] at this;omega
   rw [hxy] at hn;rw [ih b ha.2 hb.2 hl' (by omega),show x = y from by omega]
def dg (n:Nat):List Int:=if h:n = 0 then [] else dg (n / 10) ++ [((n % 10:Nat):Int)]
termination_by n
decreasing_by omega
theorem dg_zero:dg 0 = []:=by rw [dg];simp
theorem dg_pos (n:Nat) (h:n ≠ 0):dg n = dg (n / 10) ++ [((n % 10:Nat):Int)]:=by rw [dg];simp [h]
theorem num_dg (n:Nat):num (dg n) = n:=by
 induction n using Nat.strongRecOn with
 | ind n ih =>
  by_cases h:n = 0
  ·subst h;rw [dg_zero];rfl
  ·rw [dg_pos n h,num_snoc,ih _ (by omega)];omega
theorem okD_dg (n:Nat):okD (dg n):=by
 induction n using Nat.strongRecOn with
 | ind n ih =>
  by_cases h:n = 0
  ·subst h;rw [dg_zero];exact okD_nil
  ·rw [dg_pos n h,okD_append]
   refine ⟨ih _ (by omega),?_⟩;rw [okD_cons];exact ⟨by omega,okD_nil⟩
theorem dg_head (n:Nat):dg n = [] \/ ∃ d r,dg n = d :: r /\ d ≠ 0:=by
 induction n using Nat.strongRecOn with
 | ind n ih =>
  by_cases h:n = 0
  ·subst h;exact .inl dg_zero
  ·refine .inr ?_
   rcases ih (n / 10) (by omega) with h1 | ⟨d,r,h1,h2⟩
   ·have h3:=num_dg (n / 10)
    rw [h1,num_nil] at h3;refine ⟨_,[],by rw [dg_pos n h,h1];rfl,by omega⟩
   ·exact ⟨d,r ++ [((n % 10:Nat):Int)],by rw [dg_pos n h,h1];rfl,h2⟩
theorem trim_dg (n:Nat):trimL (dg n) = dg n:=by
 rcases dg_head n with h | ⟨d,r,h,hd⟩
 ·rw [h];rfl
 ·rw [h];unfold trimL;rw [List.dropWhile_cons_of_neg (by simpa using hd)]
theorem len_lt (a b:List Int) (ha:okD a) (hb:okD b) (ht:b = [] \/ ∃ d r,b = d :: r /\ d ≠ 0) (hl:a.length < b.length):num a < num b:=by
 rcases ht with rfl | ⟨d,r,rfl,hd⟩
 ·simp at hl
 ·have h1:=num_lt a ha
  have h2:=num_ge d r hb hd;have h3:10 ^ a.length <= 10 ^ r.length:=Nat.pow_le_pow_right (by omega) (by simp at hl;omega);omega
theorem trim_one (a b:List Int) (ha:okD a) (hb:okD b) (h:num a = num b):trimL a = trimL b:=by
 have h1:=num_trim a;have h2:=num_trim b;refine same_len _ _ (okD_trim ha) (okD_trim hb) ?_ (by omega);rcases Nat.lt_trichotomy (trimL a).length (trimL b).length with h3 | h3 | h3
 ·have:=len_lt _ _ (okD_trim ha) (okD_trim hb) (trim_head b) h3;omega
 ·exact h3
 ·have:=len_lt _ _ (okD_trim hb) (okD_trim ha) (trim_head a) h3;omega
theorem trim_eq (l:List Int) (h:okD l):trimL l = dg (num l):=by
 have:=trim_one l (dg (num l)) h (okD_dg _) (num_dg _).symm;rwa [trim_dg] at this
theorem trim_num {l:List Int} {n:Nat} (h:okD l) (hn:num l = n):trimL l = dg n:=by rw [trim_eq l h,hn]
theorem dif_lt (p r s:List Int) (x y:Int) (hr:okD r) (hs:okD s) (hl:r.length = s.length) (hx:0 <= x) (hxy:x < y):num (p ++ x :: r) < num (p ++ y :: s):=by
 rw [num_append,num_append,num_cons,num_cons,List.length_cons,List.length_cons,hl];have h1:=num_lt r hr;rw [hl] at h1;have:=Nat.mul_le_mul_right (10 ^ s.length) (show x.toNat + 1 <= y.toNat from by omega);rw [Nat.add_mul] at this;omega
theorem dg_len_le (a b:Nat) (h:a <= b):(dg a).length <= (dg b).length:=by
 rcases Nat.lt_or_ge (dg b).length (dg a).length with h1 | h1
 ·have:=len_lt (dg b) (dg a) (okD_dg b) (okD_dg a) (dg_head a) h1
  rw [num_dg,num_dg] at this;omega
 ·exact h1
theorem dg_len (l:List Int) (h:okD l):(dg (num l)).length <= l.length:=by
 rw [<- trim_eq l h];exact (List.dropWhile_sublist _).length_le
theorem dg_len_lt (n k:Nat) (h:n < 10 ^ k):(dg n).length <= k:=by
 rcases Nat.lt_or_ge k (dg n).length with h1 | h1
 ·rcases dg_head n with h2 | ⟨d,r,h2,hd⟩
  ·rw [h2] at h1;simp at h1
  ·have h3:=num_dg n
   have h4:=okD_dg n;rw [h2] at h3 h4 h1;have h5:=num_ge d r h4 hd;have h6:10 ^ k <= 10 ^ r.length:=Nat.pow_le_pow_right (by omega) (by simp at h1;omega);omega
 ·exact h1
theorem num_drop (l:List Int) (k:Nat) (hk:k < l.length):num (l.drop k) = (l.getD k 0).toNat * 10 ^ (l.length - 1 - k) + num (l.drop (k + 1)):=by
 rw [List.drop_eq_getElem_cons hk,num_cons,List.getD_eq_getElem?_getD,List.getElem?_eq_getElem hk,List.length_drop,Option.getD_some];rw [show l.length - (k + 1) = l.length - 1 - k from by omega]
theorem num_zeros (l:List Int) (n:Nat):num (l ++ List.replicate n 0) = num l * 10 ^ n:=by
 induction n with
 | zero=>simp
 | succ n ih=>rw [List.replicate_succ',<- List.append_assoc,num_snoc,ih,Nat.pow_succ];simp;rw [Nat.mul_comm 10,Nat.mul_assoc]
theorem num_mod2 (l:List Int) (d:Int):num (l ++ [d]) % 2 = d.toNat % 2:=by rw [num_snoc];omega
def dgt (l:List Int) (i:Nat):Int:=if i < l.length then l.getD (l.length - 1 - i) 0 else 0
def lastN (i:Nat) (l:List Int):List Int:=l.drop (l.length - i)
theorem dgt_bd (l:List Int) (h:okD l) (i:Nat):0 <= dgt l i /\ dgt l i <= 9:=by
 unfold dgt;split
 ·have hk:l.length - 1 - i < l.length:=by omega
  rw [List.getD_eq_getElem?_getD,List.getElem?_eq_getElem hk];exact h _ (List.getElem_mem hk)
 ·omega
theorem last_zero (l:List Int):num (lastN 0 l) = 0:=by unfold lastN;rw [Nat.sub_zero,List.drop_length];rfl
theorem last_all (l:List Int) (i:Nat) (h:l.length <= i):lastN i l = l:=by unfold lastN;rw [show l.length - i = 0 from by omega];rfl
theorem last_step (l:List Int) (i:Nat):num (lastN (i + 1) l) = (dgt l i).toNat * 10 ^ i + num (lastN i l):=by
 unfold lastN dgt;by_cases h:i < l.length
 ·rw [if_pos h,num_drop l (l.length - (i + 1)) (by omega)]
  rw [show l.length - 1 - (l.length - (i + 1)) = i from by omega,show l.length - (i + 1) + 1 = l.length - i from by omega,show l.length - 1 - i = l.length - (i + 1) from by omega]
 ·rw [if_neg h,show l.length - (i + 1) = 0 from by omega,show l.length - i = 0 from by omega];simp
theorem add_step (A B p o x y v:Nat) (h:o + v * p = A + B):(x + y + v) % 10 * p + o + (x + y + v) / 10 * (p * 10) = x * p + A + (y * p + B):=by
 have h1:=Nat.div_add_mod (x + y + v) 10;have h2:(x + y + v) % 10 * p + (x + y + v) / 10 * (p * 10) = (x + y + v) * p:=by
  rw [Nat.mul_comm p 10,<- Nat.mul_assoc,<- Nat.add_mul];congr 1;omega
 have h3:(x + y + v) * p = x * p + y * p + v * p:=by rw [Nat.add_mul,Nat.add_mul]
 omega
theorem sub_step (A B p o x y v n v2:Nat) (h:o + B = A + v * p) (hn:n + y + v = x + v2 * 10):n * p + o + (y * p + B) = x * p + A + v2 * (p * 10):=by
 have h1:=congrArg (· * p) hn;simp only [Nat.add_mul] at h1;rw [Nat.mul_assoc v2 10 p,Nat.mul_comm 10 p] at h1;omega
theorem mul_step (A p o x n v:Nat) (h:o + v * p = n * A):(x * n + v) % 10 * p + o + (x * n + v) / 10 * (p * 10) = n * (x * p + A):=by
 have h1:=Nat.div_add_mod (x * n + v) 10;have h2:(x * n + v) % 10 * p + (x * n + v) / 10 * (p * 10) = (x * n + v) * p:=by
  rw [Nat.mul_comm p 10,<- Nat.mul_assoc,<- Nat.add_mul];congr 1;omega
 have h3:(x * n + v) * p = n * (x * p) + v * p:=by rw [Nat.add_mul,Nat.mul_comm x n,Nat.mul_assoc]
 rw [Nat.mul_add];omega
theorem over_step (p o v:Nat):v % 10 * p + o + v / 10 * (p * 10) = o + v * p:=by
 have h1:=Nat.div_add_mod v 10;have h2:v % 10 * p + v / 10 * (p * 10) = v * p:=by
  rw [Nat.mul_comm p 10,<- Nat.mul_assoc,<- Nat.add_mul];congr 1;omega
 omega
end Dm
namespace Dm
def lsv (l:List Int):Int:=l.foldr (fun d n=>d + 10 * n) 0
theorem lsv_nil:lsv [] = 0:=rfl
theorem lsv_cons (d:Int) (l:List Int):lsv (d :: l) = d + 10 * lsv l:=rfl
theorem lsv_append (a b:List Int):lsv (a ++ b) = lsv a + 10 ^ a.length * lsv b:=by
 induction a with
 | nil=>simp [lsv_nil]
 | cons d a ih =>
  rw [List.cons_append,lsv_cons,lsv_cons,ih,List.length_cons,Int.pow_succ,Int.mul_add,Int.mul_comm (10 ^ a.length) 10,Int.mul_assoc];omega
theorem lsv_snoc (l:List Int) (d:Int):lsv (l ++ [d]) = lsv l + 10 ^ l.length * d:=by
 rw [lsv_append,lsv_cons,lsv_nil];simp
theorem lsv_zeros (n:Nat):lsv (List.replicate n 0) = 0:=by
 induction n with
 | zero=>rfl
 | succ n ih=>rw [List.replicate_succ,lsv_cons,ih];rfl
theorem num_rev (l:List Int) (h:okD l):(num l.reverse:Int) = lsv l:=by
 induction l with
 | nil=>rfl
 | cons d l ih =>
  rw [okD_cons] at h;rw [List.reverse_cons,num_snoc,lsv_cons,<- ih h.2];omega
theorem lsv_set (l:List Int) (k:Nat) (d:Int) (hk:k < l.length):lsv (l.set k (l.getD k 0 + d)) = lsv l + d * 10 ^ k:=by
 induction l generalizing k with
 | nil=>simp at hk
 | cons x l ih =>
  cases k with
  | zero=>simp [lsv_cons];omega
  | succ k =>
   have:=ih k (by simpa using hk);rw [List.set_cons_succ,lsv_cons,lsv_cons,List.getD_cons_succ,this,Int.pow_succ,Int.mul_add,Int.mul_comm (10 ^ k) 10,<- Int.mul_assoc d 10,Int.mul_comm d 10,Int.mul_assoc];omega
theorem set_next (ds rs:List Int) (k:Nat) (y x:Int) (hk:ds.length = k):(ds ++ y :: rs).set k x = (ds ++ [x]) ++ rs:=by
 subst hk;rw [List.set_append_right _ _ (Nat.le_refl _)];simp
theorem set_zeros (ds:List Int) (n k:Nat) (x:Int) (hk:ds.length = k) (hn:k < n):(ds ++ List.replicate (n - k) 0).set k x = (ds ++ [x]) ++ List.replicate (n - (k + 1)) 0:=by
 rw [show n - k = (n - (k + 1)) + 1 from by omega,List.replicate_succ];exact set_next _ _ _ _ _ hk
theorem drop_cons (xs:List Int) (k:Nat) (hk:k < xs.length):xs.drop k = xs.getD k 0 :: xs.drop (k + 1):=by
 rw [List.drop_eq_getElem_cons hk,List.getD_eq_getElem?_getD,List.getElem?_eq_getElem hk];rfl
theorem settle_step (p L rest x tail T:Int) (h:L + p * (rest + (x + 10 * tail)) = T):(L + p * ((rest + x) % 10)) + p * 10 * ((rest + x) / 10 + tail) = T:=by
 have h1:=Int.mul_ediv_add_emod (rest + x) 10;have h2:p * (rest + (x + 10 * tail)) = p * ((rest + x) % 10) + p * 10 * ((rest + x) / 10 + tail):=by
  rw [Int.mul_assoc,<- Int.mul_add];congr 1;omega
 omega
theorem over_z (p L rest T:Int) (h:L + p * rest = T):(L + p * (rest % 10)) + p * 10 * (rest / 10) = T:=by
 have:=settle_step p L rest 0 0 T (by simpa using h);simpa using this
def zer (l:List Int):Nat:=(l.takeWhile (· == 0)).length
theorem zer_le (l:List Int):zer l <= l.length:=(List.takeWhile_sublist _).length_le
theorem zer_cons0 (l:List Int):zer (0 :: l) = zer l + 1:=by unfold zer;rw [List.takeWhile_cons_of_pos (by simp)];rfl
theorem zer_cons (d:Int) (l:List Int) (h:d ≠ 0):zer (d :: l) = 0:=by unfold zer;rw [List.takeWhile_cons_of_neg (by simpa using h)];rfl
theorem trim_drop (l:List Int):trimL l = l.drop (zer l):=by
 induction l with
 | nil=>rfl
 | cons d l ih =>
  by_cases h:d = 0
  ·subst h
   rw [zer_cons0,List.drop_succ_cons,<- ih];unfold trimL;rw [List.dropWhile_cons_of_pos (by simp)]
  ·rw [zer_cons d l h];unfold trimL;rw [List.dropWhile_cons_of_neg (by simpa using h)];rfl
theorem zer_step (l:List Int) (i:Nat) (h:i <= zer l) (hi:i < l.length) (h0:l.getD i 0 = 0):i + 1 <= zer l:=by
 induction l generalizing i with
 | nil=>simp at hi
 | cons d l ih =>
  by_cases hd:d = 0
  ·subst hd
   rw [zer_cons0] at h |-;cases i with
   | zero=>omega
   | succ i =>
    have:=ih i (by omega) (by simpa using hi) (by simpa using h0);omega
  ·rw [zer_cons d l hd] at h
   obtain rfl:i = 0:=by omega
   simp at h0;exact absurd h0 hd
theorem zer_hit (l:List Int) (i:Nat) (h:i <= zer l) (hi:i < l.length) (h0:l.getD i 0 ≠ 0):zer l = i:=by
 induction l generalizing i with
 | nil=>simp at hi
 | cons d l ih =>
  by_cases hd:d = 0
  ·subst hd
   rw [zer_cons0] at h |-;cases i with
   | zero=>simp at h0
   | succ i =>
    have:=ih i (by omega) (by simpa using hi) (by simpa using h0);omega
  ·rw [zer_cons d l hd] at h |-
   omega
theorem trim_len (l:List Int):(trimL l).length = l.length - zer l:=by rw [trim_drop,List.length_drop]
theorem zer_rep (n:Nat) (l:List Int):zer (List.replicate n 0 ++ l) = n + zer l:=by
 induction n with
 | zero=>simp
 | succ n ih=>rw [List.replicate_succ,List.cons_append,zer_cons0,ih];omega
theorem trim_rep (n:Nat) (l:List Int):trimL (List.replicate n 0 ++ l) = trimL l:=by
 rw [trim_drop,trim_drop,zer_rep,List.drop_append];simp
def cmpZ (x y:Int):Int:=if x < y then -1 else if y < x then 1 else 0
theorem cmpZ_lt {x y:Int} (h:x < y):cmpZ x y = -1:=if_pos h
theorem cmpZ_gt {x y:Int} (h:y < x):cmpZ x y = 1:=by unfold cmpZ;rw [if_neg (by omega),if_pos h]
theorem cmpZ_eq {x y:Int} (h:x = y):cmpZ x y = 0:=by unfold cmpZ;rw [if_neg (by omega),if_neg (by omega)]
theorem cmpZ_three (x y:Int):cmpZ x y = -1 \/ cmpZ x y = 0 \/ cmpZ x y = 1:=by
 rcases Int.lt_trichotomy x y with h | h | h
 ·exact .inl (cmpZ_lt h)
 ·exact .inr (.inl (cmpZ_eq h))
 ·exact .inr (.inr (cmpZ_gt h))
theorem cmpZ_neg (x y:Int):cmpZ y x = - cmpZ x y:=by
 rcases Int.lt_trichotomy x y with h | h | h
 ·rw [cmpZ_lt h,cmpZ_gt h];rfl
 ·rw [cmpZ_eq h,cmpZ_eq h.symm];rfl
 ·rw [cmpZ_gt h,cmpZ_lt h]
theorem cmpZ_neg1 (x y:Int):cmpZ x y < 0 ↔ x < y:=by
 rcases Int.lt_trichotomy x y with h | h | h
 ·rw [cmpZ_lt h];omega
 ·rw [cmpZ_eq h];omega
 ·rw [cmpZ_gt h];omega
theorem cmpZ_pos (x y:Int):0 < cmpZ x y ↔ y < x:=by
 rcases Int.lt_trichotomy x y with h | h | h
 ·rw [cmpZ_lt h];omega
 ·rw [cmpZ_eq h];omega
 ·rw [cmpZ_gt h];omega
def lexC:List Int -> List Int -> Int
 | [],[]=>0
 | [],_ :: _=>-1
 | _ :: _,[]=>1
 | x :: xs,y :: ys=>if x < y then -1 else if y < x then 1 else lexC xs ys
theorem lexC_lt (xs ys:List Int) (i:Nat) (hx:i < xs.length) (hy:i < ys.length) (h:xs.getD i 0 < ys.getD i 0):lexC (xs.drop i) (ys.drop i) = -1:=by
 rw [drop_cons xs i hx,drop_cons ys i hy,lexC,if_pos h]
theorem lexC_gt (xs ys:List Int) (i:Nat) (hx:i < xs.length) (hy:i < ys.length) (h:ys.getD i 0 < xs.getD i 0):lexC (xs.drop i) (ys.drop i) = 1:=by
 rw [drop_cons xs i hx,drop_cons ys i hy,lexC,if_neg (by omega),if_pos h]
theorem lexC_on (xs ys:List Int) (i:Nat) (hx:i < xs.length) (hy:i < ys.length) (h:xs.getD i 0 = ys.getD i 0):lexC (xs.drop i) (ys.drop i) = lexC (xs.drop (i + 1)) (ys.drop (i + 1)):=by
 rw [drop_cons xs i hx,drop_cons ys i hy,lexC,if_neg (by omega),if_neg (by omega)]
theorem lexC_long (xs ys:List Int) (i:Nat) (hx:i < xs.length) (hy:ys.length <= i):lexC (xs.drop i) (ys.drop i) = 1:=by
 rw [drop_cons xs i hx,List.drop_eq_nil_of_le hy];rfl
theorem lexC_short (xs ys:List Int) (i:Nat) (hx:xs.length <= i) (hy:i < ys.length):lexC (xs.drop i) (ys.drop i) = -1:=by
 rw [drop_cons ys i hy,List.drop_eq_nil_of_le hx];rfl
theorem lexC_end (xs ys:List Int) (i:Nat) (hx:xs.length <= i) (hy:ys.length <= i):lexC (xs.drop i) (ys.drop i) = 0:=by
 rw [List.drop_eq_nil_of_le hx,List.drop_eq_nil_of_le hy];rfl
theorem lexC_num (xs ys:List Int) (hx:okD xs) (hy:okD ys) (hl:xs.length = ys.length):lexC xs ys = cmpZ (num xs) (num ys):=by
 induction xs generalizing ys with
 | nil =>
  obtain rfl:ys = []:=List.eq_nil_of_length_eq_zero hl.symm;rfl
 | cons x xs ih =>
  cases ys with
  | nil=>simp at hl
  | cons y ys =>
   rw [okD_cons] at hx hy;have hl':xs.length = ys.length:=by simpa using hl
   rw [lexC];rcases Int.lt_trichotomy x y with h | h | h
   ·rw [if_pos h]
    have:=dif_lt [] xs ys x y hx.2 hy.2 hl' hx.1.1 h;rw [List.nil_append,List.nil_append] at this;rw [cmpZ_lt (by omega)]
   ·subst h
    rw [if_neg (by omega),if_neg (by omega),ih ys hx.2 hy.2 hl',num_cons,num_cons,hl'];unfold cmpZ;have e1:(((x.toNat * 10 ^ ys.length + num xs:Nat):Int) < ((x.toNat * 10 ^ ys.length + num ys:Nat):Int)) ↔ ((num xs:Int) < (num ys:Int)):=by omega
    have e2:(((x.toNat * 10 ^ ys.length + num ys:Nat):Int) < ((x.toNat * 10 ^ ys.length + num xs:Nat):Int)) ↔ ((num ys:Int) < (num xs:Int)):=by omega
    simp only [e1,e2]
   ·rw [if_neg (by omega),if_pos h]
    have:=dif_lt [] ys xs y x hy.2 hx.2 hl'.symm hy.1.1 h;rw [List.nil_append,List.nil_append] at this;rw [cmpZ_gt (by omega)]
theorem cmp_len_lt (a b:List Int) (ha:okD a) (hb:okD b) (h:(trimL a).length < (trimL b).length):cmpZ (num a) (num b) = -1:=by
 have:=len_lt _ _ (okD_trim ha) (okD_trim hb) (trim_head b) h;rw [num_trim,num_trim] at this;exact cmpZ_lt (by omega)
theorem cmp_len_gt (a b:List Int) (ha:okD a) (hb:okD b) (h:(trimL b).length < (trimL a).length):cmpZ (num a) (num b) = 1:=by
 have:=len_lt _ _ (okD_trim hb) (okD_trim ha) (trim_head a) h;rw [num_trim,num_trim] at this;exact cmpZ_gt (by omega)
theorem cmp_len_eq (a b:List Int) (ha:okD a) (hb:okD b) (h:(trimL a).length = (trimL b).length):cmpZ (num a) (num b) = lexC (trimL a) (trimL b):=by
 rw [lexC_num _ _ (okD_trim ha) (okD_trim hb) h,num_trim,num_trim]
theorem last_whole (l:List Int) (n:Nat) (h:num l < 10 ^ n):num (lastN n l) = num l:=by
 rcases Nat.lt_or_ge n l.length with h1 | h1
 ·have h2:=num_append (l.take (l.length - n)) (l.drop (l.length - n))
  rw [List.take_append_drop,List.length_drop,show l.length - (l.length - n) = n from by omega] at h2;unfold lastN;rcases Nat.eq_zero_or_pos (num (l.take (l.length - n))) with h3 | h3
  ·rw [h3] at h2;omega
  ·have:=Nat.mul_le_mul_right (10 ^ n) h3
   omega
 ·rw [last_all l n h1]
theorem dgt_even (l:List Int) (h:okD l):(num l:Int) % 2 = dgt l 0 % 2:=by
 have h1:=last_step l 0;have h2:=dgt_bd l h 0;by_cases hl:l.length = 0
 ·obtain rfl:l = []:=List.eq_nil_of_length_eq_zero hl
  rfl
 ·have h3:l = l.take (l.length - 1) ++ [dgt l 0]:=by
   conv=>lhs;rw [<- List.take_append_drop (l.length - 1) l]
   congr 1
   rw [drop_cons l (l.length - 1) (by omega),show l.length - 1 + 1 = l.length from by omega,List.drop_length];unfold dgt;rw [if_pos (by omega),Nat.sub_zero]
  have h4:=num_mod2 (l.take (l.length - 1)) (dgt l 0);rw [<- h3] at h4;omega
theorem last_stepZ (l:List Int) (h:okD l) (i:Nat):(num (lastN (i + 1) l):Int) = dgt l i * 10 ^ i + (num (lastN i l):Int):=by
 have h1:=last_step l i;have h2:=dgt_bd l h i;rw [h1];have h3:((10 ^ i:Nat):Int) = 10 ^ i:=by simp
 rw [Int.natCast_add,Int.natCast_mul,h3,show ((dgt l i).toNat:Int) = dgt l i from by omega]
theorem okB_drop (xs:List Int) (k:Nat) (hk:k < xs.length):okB (xs.drop k) = (decide (0 <= xs.getD k 0 /\ xs.getD k 0 <= 9) && okB (xs.drop (k + 1))):=by
 rw [drop_cons xs k hk];rfl
theorem okB_bad (xs:List Int) (k:Nat) (hk:k < xs.length) (h:¬ (0 <= xs.getD k 0 /\ xs.getD k 0 <= 9)):okB (xs.drop k) = false:=by
 rw [okB_drop xs k hk,decide_eq_false h];rfl
theorem okB_on (xs:List Int) (k:Nat) (hk:k < xs.length) (h:0 <= xs.getD k 0 /\ xs.getD k 0 <= 9):okB (xs.drop k) = okB (xs.drop (k + 1)):=by
 rw [okB_drop xs k hk,decide_eq_true h];rfl
theorem okB_end (xs:List Int) (k:Nat) (hk:xs.length <= k):okB (xs.drop k) = true:=by rw [List.drop_eq_nil_of_le hk];rfl
def RV (xs:List Int) (k:Nat) (zs:List Int):Prop:=zs.length = xs.length /\ ∀ j,j < xs.length -> zs.getD j 0 = if j < k \/ xs.length - k <= j then xs.getD (xs.length - 1 - j) 0 else xs.getD j 0
theorem RV.start (xs:List Int):RV xs 0 xs:=⟨rfl,fun j hj=>by rw [if_neg (by omega)]⟩
theorem RV.done {xs zs:List Int} {k:Nat} (h:RV xs k zs) (hk:xs.length <= 2 * k + 1) (hk2:2 * k <= xs.length):zs = xs.reverse:=by
 apply List.ext_getElem
 ·rw [List.length_reverse];exact h.1
 ·intro j h1 h2
  have h3:=h.2 j (by rw [<- h.1];exact h1);rw [List.getD_eq_getElem?_getD,List.getElem?_eq_getElem h1,Option.getD_some] at h3;rw [h3,List.getElem_reverse];have hl:j < xs.length:=by rw [<- h.1];exact h1
  have e:xs.getD (xs.length - 1 - j) 0 = xs[xs.length - 1 - j]:=by
   rw [List.getD_eq_getElem?_getD,List.getElem?_eq_getElem (by omega),Option.getD_some]
  by_cases hc:j < k \/ xs.length - k <= j
  ·rw [if_pos hc,e]
  ·rw [if_neg hc,<- e]
   rw [show xs.length - 1 - j = j from by omega]
theorem getD_set (zs:List Int) (i j:Nat) (x:Int) (hi:i < zs.length):(zs.set i x).getD j 0 = if i = j then x else zs.getD j 0:=by
 rw [List.getD_eq_getElem?_getD,List.getD_eq_getElem?_getD,List.getElem?_set];by_cases h:i = j
 ·subst h
  rw [if_pos rfl,if_pos hi,if_pos rfl];rfl
 ·rw [if_neg h,if_neg h]
theorem RV.step {xs zs:List Int} {k m:Nat} (h:RV xs k zs) (hm:m + 1 + k = xs.length) (hkm:k < m):RV xs (k + 1) ((zs.set k (zs.getD m 0)).set m (zs.getD k 0)):=by
 refine ⟨by rw [List.length_set,List.length_set];exact h.1,fun j hj=>?_⟩;have hl:=h.1;have h1:=h.2 k (by omega);have h2:=h.2 m (by omega);have h3:=h.2 j hj;rw [if_neg (by omega)] at h1 h2;rw [getD_set _ _ _ _ (by rw [List.length_set];omega),getD_set _ _ _ _ (by omega),h1,h2,h3];by_cases e1:m = j
 ·subst e1
  rw [if_pos rfl,if_pos (by omega),show xs.length - 1 - m = k from by omega]
 ·rw [if_neg e1]
  by_cases e2:k = j
  ·subst e2
   rw [if_pos rfl,if_pos (by omega),show xs.length - 1 - k = m from by omega]
  ·rw [if_neg e2]
   by_cases e3:j < k \/ xs.length - k <= j
   ·rw [if_pos e3,if_pos (by omega)]
   ·rw [if_neg e3,if_neg (by omega)]
theorem lsv_bd (l:List Int) (h:okD l):0 <= lsv l /\ lsv l < 10 ^ l.length:=by
 have h1:=num_rev l h;have h2:=num_lt l.reverse (fun d hd=>h d (by simpa using hd));rw [List.length_reverse] at h2;have h3:((10 ^ l.length:Nat):Int) = 10 ^ l.length:=by simp
 omega
theorem rest_pos (l:List Int) (h:okD l) (rest:Int) (T:Nat) (hT:lsv l + 10 ^ l.length * rest = T):0 <= rest:=by
 have h1:=lsv_bd l h;rcases (show rest < 0 \/ 0 <= rest from by omega) with h2 | h2
 ·have h3:(10:Int) ^ l.length * rest <= 10 ^ l.length * (-1):=Int.mul_le_mul_of_nonneg_left (by omega) (by omega)
  omega
 ·exact h2
theorem okD_snoc {l:List Int} {d:Int} (h:okD l) (hd:0 <= d /\ d <= 9):okD (l ++ [d]):=okD_append.2 ⟨h,okD_cons.2 ⟨hd,okD_nil⟩⟩
theorem settled (l:List Int) (h:okD l) (T:Nat) (hT:lsv l + 10 ^ l.length * 0 = T):dg T = l.reverse.drop (zer l.reverse):=by
 rw [<- trim_drop,trim_num (n:=T) (fun d hd=>h d (by simpa using hd))];have:=num_rev l h;omega
theorem tmod10 (r:Int):(r.tmod 10 + 10).tmod 10 = r % 10 /\ -9 <= r.tmod 10 /\ r.tmod 10 <= 9:=by
 rcases (show r < 0 \/ 0 <= r from by omega) with h | h
 ·have h1:r.tmod 10 = -((-r) % 10):=by
   have:=Int.neg_tmod (a:=-r) (b:=10);rw [Int.neg_neg] at this;rw [this,Int.tmod_eq_emod_of_nonneg (by omega)]
  rw [h1,Int.tmod_eq_emod_of_nonneg (by omega)];omega
 ·rw [Int.tmod_eq_emod_of_nonneg h,Int.tmod_eq_emod_of_nonneg (by omega)]
  omega
theorem tdiv10 (r:Int):(r - r % 10).tdiv 10 = r / 10:=by
 rcases (show r < 0 \/ 0 <= r from by omega) with h | h
 ·have h1:(r - r % 10).tdiv 10 = -((-(r - r % 10)).tdiv 10):=by rw [Int.neg_tdiv,Int.neg_neg]
  rw [h1,Int.tdiv_eq_ediv_of_nonneg (by omega)];omega
 ·rw [Int.tdiv_eq_ediv_of_nonneg (by omega)];omega
def shl (l:List Int) (k:Int):List Int:=(l ++ List.replicate k.toNat 0).take ((l.length:Int) + k).toNat
theorem shl_make (l:List Int) (k:Int):shl l k = l.take ((l.length:Int) + k).toNat ++ List.replicate (((l.length:Int) + k).toNat - min l.length ((l.length:Int) + k).toNat) 0:=by
 unfold shl;rw [List.take_append,List.take_replicate];congr 2
 omega
theorem shl_len (l:List Int) (k:Int):(shl l k).length = ((l.length:Int) + k).toNat:=by
 unfold shl;rw [List.length_take,List.length_append,List.length_replicate];omega
theorem shl_neg (l:List Int) (k:Int) (h:k < 0):shl l k = l.take ((l.length:Int) + k).toNat:=by
 unfold shl;rw [show k.toNat = 0 from by omega,List.replicate_zero,List.append_nil]
theorem shl_pos (l:List Int) (k:Nat):shl l k = l ++ List.replicate k 0:=by
 unfold shl;rw [List.take_of_length_le]
 ·simp
 ·rw [List.length_append,List.length_replicate];omega
end Dm
section
open Go.ChangeShapes Go.WideShapes Go.RowKit
namespace FrH
section
variable {H:Type} {enc:TypeId × Value -> H} {P:Program} {w:World} {base:Nat} {spare:Nat -> Bool} {held:Bool}
theorem open_any {r:Reach} {b0:Nat} {t:TypeId} {fs:Array Field} {v:Value} {d:DataW H} {p:List MemPlace} (hs:P.underlying t = some (.struct fs)) {k:Nat} (hC:P.cellsOf t = k)
  (hv:Value.okWide P w r b0 t v) (h:DataW.Trod enc P w base spare held t v d p) :
  ∃ cs:Array Value,v = .agg cs /\ cs.size = k /\ ∃ n y,DataW.trod enc P w base spare held n t cs.toList = some y:=by
 obtain ⟨cs,rfl,hsz⟩:=okWide_struct hs hv;obtain ⟨fuel,hf⟩:=h;exact ⟨cs,rfl,hsz.trans hC,fuel,_,by simpa [Value.cells] using hf⟩
theorem nest {t:TypeId} {fs:Array Field} (hs:P.underlying t = some (.struct fs)) {cells:List Value} (h:∃ n y,DataW.trod enc P w base spare held n t cells = some y) (i:Nat) {f:Field} (hf:fs[i]? = some f) (o k:Nat) (ho:f.offset = o) {T:TypeId} (hT:f.type = T) (hk:P.cellsOf T = k) {l:List Value} (hl:(cells.drop o).take k = l) :
  ∃ n y,DataW.trod enc P w base spare held n T l = some y:=by
 obtain ⟨n,y,h⟩:=h;obtain ⟨xs,m,_,_,_,hxl,hx⟩:=DataW.trod_struct hs h;have h1:=hx i f hf;rw [ho,hT,hk,hl] at h1;have hi:i < fs.size:=(Array.getElem?_eq_some_iff.1 hf).1;exact ⟨m,_,h1.trans (List.getElem?_eq_getElem (by omega))⟩
end
theorem arr15 {cs:Array Value} (h:cs.size = 15):∃ a b c d e f g h i j k l m n o,cs = #[a,b,c,d,e,f,g,h,i,j,k,l,m,n,o]:=by
 obtain ⟨l⟩:=cs;match l,h with
 | [a,b,c,d,e,f,g,h,i,j,k,l,m,n,o],_=>exact ⟨a,b,c,d,e,f,g,h,i,j,k,l,m,n,o,rfl⟩
theorem arr2 {cs:Array Value} (h:cs.size = 2):∃ a b,cs = #[a,b]:=by
 obtain ⟨l⟩:=cs;match l,h with
 | [a,b],_=>exact ⟨a,b,rfl⟩
theorem arr3 {cs:Array Value} (h:cs.size = 3):∃ a b c,cs = #[a,b,c]:=by
 obtain ⟨l⟩:=cs;match l,h with
 | [a,b,c],_=>exact ⟨a,b,c,rfl⟩
theorem arr6 {cs:Array Value} (h:cs.size = 6):∃ a b c d e f,cs = #[a,b,c,d,e,f]:=by
 obtain ⟨l⟩:=cs;match l,h with
 | [a,b,c,d,e,f],_=>exact ⟨a,b,c,d,e,f,rfl⟩
theorem arr4 {cs:Array Value} (h:cs.size = 4):∃ a b c d,cs = #[a,b,c,d]:=by
 obtain ⟨l⟩:=cs;match l,h with
 | [a,b,c,d],_=>exact ⟨a,b,c,d,rfl⟩
theorem arr10 {cs:Array Value} (h:cs.size = 10):∃ a b c d e f g h i j,cs = #[a,b,c,d,e,f,g,h,i,j]:=by
 obtain ⟨l⟩:=cs;match l,h with
 | [a,b,c,d,e,f,g,h,i,j],_=>exact ⟨a,b,c,d,e,f,g,h,i,j,rfl⟩
theorem lst_of {H:Type} {enc:TypeId × Value -> H} {P:Program} {W:World} {held:Bool} {t e:TypeId} (h1:P.underlying t = some (.slice e)) (h2:P.underlying e = some (.int .i64)) (h3:P.cellsOf e = 1) {c:Value}
  (h:∃ n y,DataW.trod enc P W 0 (fun _=>true) held n t [c] = some y):∃ xs,Lst W c xs /\ ∀ n ∈ xs,-9223372036854775808 <= n /\ n <= 9223372036854775807:=by
 obtain ⟨n,y,h⟩:=h;rcases open_ints h1 h2 h3 h with ⟨hcs,_⟩ | ⟨x,l,c',zs,hcs,_,hl,hm,hz,_,hcell,hwz⟩
 ·obtain rfl:c = .slice none 0 0:=by simpa using hcs
  exact ⟨[],.nil _ _ _ (by unfold maxLen;omega) (fun _=>rfl),by simp⟩
 ·obtain rfl:c = .slice (some x) l c':=by simpa using hcs
  obtain ⟨xs,hx,_,hb⟩:=IsRow.lst (w:=W) (.inr ⟨_,rfl,hl,hm,by simpa using hz,hcell,hwz⟩);exact ⟨xs,hx,hb⟩
theorem bool_of {H:Type} {enc:TypeId × Value -> H} {P:Program} {W:World} {held:Bool} {t:TypeId} (h1:P.underlying t = some .bool) {c:Value}
  (h:∃ n y,DataW.trod enc P W 0 (fun _=>true) held n t [c] = some y):∃ b,c = .bool b:=by
 obtain ⟨n,y,h⟩:=h;obtain ⟨b,h,_⟩:=DataW.trod_bool h1 h;exact ⟨b,by simpa using h⟩
theorem int_of {H:Type} {enc:TypeId × Value -> H} {P:Program} {W:World} {held:Bool} {t:TypeId} (h1:P.underlying t = some (.int .i64)) {c:Value}
  (h:∃ n y,DataW.trod enc P W 0 (fun _=>true) held n t [c] = some y):∃ i,c = .int .i64 i /\ -9223372036854775808 <= i /\ i <= 9223372036854775807:=by
 obtain ⟨n,y,h⟩:=h;obtain ⟨i,h,_,hw⟩:=DataW.trod_int h1 h;exact ⟨i,by simpa using h,bounds_i64 hw⟩
theorem text_of {H:Type} {enc:TypeId × Value -> H} {P:Program} {W:World} {held:Bool} {t:TypeId} (h1:P.underlying t = some .string) {c:Value}
  (h:∃ n y,DataW.trod enc P W 0 (fun _=>true) held n t [c] = some y):∃ s:ByteArray,c = .string s /\ s.size <= maxLen:=by
 obtain ⟨n,y,h⟩:=h;obtain ⟨s,h,_,hs⟩:=DataW.trod_string h1 h;exact ⟨s,by simpa using h,hs⟩
end FrH
end
end Go.Proofs.Ytnehhbobhnmbcaa
