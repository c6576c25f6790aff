/- What the document's own answers on single numbers (may it be a character, a number made small, a number made a character) come to. (and more) -/
import Derived.Test.YtnehhbobhnmbcaaR01
import Derived.Test.YtnehhbobhnmbcaaR03
import Derived.Deep.QuietTactic
import Derived.Deep.RegionWith
import Derived.BigQuiet
import Derived.ShutString
import Derived.Lib.Builder
set_option linter.all false
set_option maxRecDepth 100000
set_option maxHeartbeats 8000000
namespace Go.Proofs.Ytnehhbobhnmbcaa
section
open Go.RowKit Um
namespace Ur
theorem ret_int {k:IntKind} {a b:Int} (h:a = b):Ending.returned (.int k a) = .returned (.int k b):=by rw [h]
theorem ret_str {a b:ByteArray} (h:a = b):Ending.returned (.string a) = .returned (.string b):=by rw [h]
theorem vt {c:Int} (h:0 <= c /\ c <= 1114111 /\ (c < 55296 \/ 57343 < c)):vld c = true:=(vld_iff c).2 h
theorem vf {c:Int} (h:¬ (0 <= c /\ c <= 1114111 /\ (c < 55296 \/ 57343 < c))):vld c = false:=(vld_false c).2 h
theorem around_any (n m:Int) (w:World) (h0:-9223372036854775808 <= n) (h1:n <= 9223372036854775807) (hm:1 <= m) (hm2:m <= 9223372036854775807) :
  Calls Try.prog 24 #[.int .i64 n,.int .i64 m] w fun e w'=>e = .returned (.int .i64 (around n m)) /\ w = w':=by
 by_cases hn:n < 0
 ·have HA:Hid (around n m = (-(n + 1)) % m):=Hd (by unfold around;rw [if_pos hn])
  go_enter Try.func24,Try.ntmps24
  go_wp2
  go_ret
  rw [HA.out];exact ⟨ret_int (by rw [<- Int.tmod_eq_emod_of_nonneg (by omega),Int.neg_tmod]),rfl⟩
 ·have HA:Hid (around n m = n % m):=Hd (by unfold around;rw [if_neg hn])
  go_enter Try.func24,Try.ntmps24
  go_wp2
  go_ret
  rw [HA.out];exact ⟨rfl,rfl⟩
end Ur
end
namespace Tm
open Dm
structure T where
 g:Bool
 i:List Int
 s:Bool
 f:List Int
def T0:T:=⟨false,[],false,[]⟩
def may (d:T):Bool:=okB d.i && okB d.f && (d.s || d.f.isEmpty)
def sep (s:Bool):List Int:=if s then [10] else []
theorem sep_len (s:Bool):(sep s).length <= 1:=by cases s <;> simp [sep]
def ats (d:T):List Int:=d.i ++ sep d.s ++ d.f
theorem ats_len (d:T):(ats d).length = d.i.length + (sep d.s).length + d.f.length:=by simp [ats];omega
def okA (l:List Int):Bool:=l.all fun d=>decide (0 <= d /\ d <= 10)
theorem okA_iff (l:List Int):okA l = true ↔ ∀ d ∈ l,0 <= d /\ d <= 10:=by simp [okA]
theorem okA_drop (xs:List Int) (k:Nat) (hk:k < xs.length):okA (xs.drop k) = (decide (0 <= xs.getD k 0 /\ xs.getD k 0 <= 10) && okA (xs.drop (k + 1))):=by
 rw [drop_cons xs k hk];rfl
theorem okA_bad (xs:List Int) (k:Nat) (hk:k < xs.length) (h:¬ (0 <= xs.getD k 0 /\ xs.getD k 0 <= 10)):okA (xs.drop k) = false:=by
 rw [okA_drop xs k hk,decide_eq_false h];rfl
theorem okA_on (xs:List Int) (k:Nat) (hk:k < xs.length) (h:0 <= xs.getD k 0 /\ xs.getD k 0 <= 10):okA (xs.drop k) = okA (xs.drop (k + 1)):=by
 rw [okA_drop xs k hk,decide_eq_true h];rfl
theorem okA_end (xs:List Int) (k:Nat) (hk:xs.length <= k):okA (xs.drop k) = true:=by rw [List.drop_eq_nil_of_le hk];rfl
def ahd (l:List Int):List Int:=l.takeWhile fun x=>!(x == 10)
def bhd (l:List Int):List Int:=(l.dropWhile fun x=>!(x == 10)).drop 1
def has (l:List Int):Bool:=l.any fun x=>x == 10
theorem ahd_cons (x:Int) (l:List Int):ahd (x :: l) = if x = 10 then [] else x :: ahd l:=by
 unfold ahd;by_cases h:x = 10
 ·subst h;rw [List.takeWhile_cons_of_neg (by simp),if_pos rfl]
 ·rw [List.takeWhile_cons_of_pos (by simpa using h),if_neg h]
theorem bhd_cons (x:Int) (l:List Int):bhd (x :: l) = if x = 10 then l else bhd l:=by
 unfold bhd;by_cases h:x = 10
 ·subst h;rw [List.dropWhile_cons_of_neg (by simp),if_pos rfl];rfl
 ·rw [List.dropWhile_cons_of_pos (by simpa using h),if_neg h]
theorem has_cons (x:Int) (l:List Int):has (x :: l) = (x == 10 || has l):=rfl
theorem has_nil:has [] = false:=rfl
theorem ahd_nil:ahd [] = []:=rfl
theorem bhd_nil:bhd [] = []:=rfl
theorem ahd_le (l:List Int):(ahd l).length <= l.length:=(List.takeWhile_sublist _).length_le
theorem parts (l:List Int):ahd l ++ sep (has l) ++ bhd l = l:=by
 induction l with
 | nil=>rfl
 | cons x l ih =>
  rw [ahd_cons,bhd_cons,has_cons];by_cases h:x = 10
  ·subst h;simp [sep]
  ·rw [if_neg h,if_neg h,show (x == 10) = false from by simpa using h,Bool.false_or,List.cons_append,List.cons_append,ih]
theorem has_no (l:List Int) (h:has l = false):ahd l = l /\ bhd l = []:=by
 induction l with
 | nil=>exact ⟨rfl,rfl⟩
 | cons x l ih =>
  rw [has_cons,Bool.or_eq_false_iff] at h;have hx:¬ x = 10:=by simpa using h.1
  rw [ahd_cons,bhd_cons,if_neg hx,if_neg hx,(ih h.2).1,(ih h.2).2];exact ⟨rfl,rfl⟩
theorem ahd_eq (l:List Int):ahd l = l.take (ahd l).length:=by
 conv=>rhs;rhs;rw [<- parts l]
 rw [List.append_assoc,List.take_left]
theorem bhd_eq (l:List Int):bhd l = l.drop ((ahd l).length + 1):=by
 induction l with
 | nil=>rfl
 | cons x l ih =>
  rw [ahd_cons,bhd_cons];by_cases h:x = 10
  ·rw [if_pos h,if_pos h];rfl
  ·rw [if_neg h,if_neg h,ih];rfl
theorem has_lt (l:List Int):has l = decide ((ahd l).length < l.length):=by
 induction l with
 | nil=>rfl
 | cons x l ih =>
  rw [ahd_cons,has_cons,ih];by_cases h:x = 10
  ·rw [if_pos h];subst h;simp
  ·rw [if_neg h,show (x == 10) = false from by simpa using h];simp
theorem ix_step (l:List Int) (k:Nat) (h:k <= (ahd l).length) (hk:k < l.length) (hx:l.getD k 0 ≠ 10):k + 1 <= (ahd l).length:=by
 induction l generalizing k with
 | nil=>simp at hk
 | cons x l ih =>
  rw [ahd_cons] at h |-;by_cases h0:x = 10
  ·rw [if_pos h0] at h
   have:k = 0:=by simpa using h
   subst this;exact absurd h0 (by simpa using hx)
  ·rw [if_neg h0] at h |-
   cases k with
   | zero=>simp
   | succ k =>
    have:=ih k (by simpa using h) (by simpa using hk) (by simpa using hx);simpa using this
theorem ix_hit (l:List Int) (k:Nat) (h:k <= (ahd l).length) (hk:k < l.length) (hx:l.getD k 0 = 10):(ahd l).length = k:=by
 induction l generalizing k with
 | nil=>simp at hk
 | cons x l ih =>
  rw [ahd_cons] at h |-;by_cases h0:x = 10
  ·rw [if_pos h0] at h |-
   have:k = 0:=by simpa using h
   subst this;rfl
  ·rw [if_neg h0] at h |-
   cases k with
   | zero=>exact absurd (by simpa using hx) h0
   | succ k =>
    have:=ih k (by simpa using h) (by simpa using hk) (by simpa using hx);simpa using this
theorem has_snoc (l:List Int) (x:Int):has (l ++ [x]) = (has l || x == 10):=by simp [has]
theorem ahd_snoc (l:List Int) (x:Int):ahd (l ++ [x]) = if has l = true \/ x = 10 then ahd l else ahd l ++ [x]:=by
 induction l with
 | nil =>
  rw [List.nil_append,ahd_cons];by_cases h:x = 10 <;> simp [h,has,ahd]
 | cons y l ih =>
  rw [List.cons_append,ahd_cons,ahd_cons,has_cons,ih];by_cases h:y = 10
  ·simp [h]
  ·simp only [h,if_false,show (y == 10) = false from by simpa using h,Bool.false_or]
   split <;> rfl
theorem bhd_snoc (l:List Int) (x:Int):bhd (l ++ [x]) = if has l = true then bhd l ++ [x] else []:=by
 induction l with
 | nil =>
  rw [List.nil_append,bhd_cons];by_cases h:x = 10 <;> simp [h,has,bhd]
 | cons y l ih =>
  rw [List.cons_append,bhd_cons,bhd_cons,has_cons,ih];by_cases h:y = 10
  ·simp [h]
  ·simp only [h,if_false,show (y == 10) = false from by simpa using h,Bool.false_or]
def fl (l:List Int):List Int:=(bhd l).filter fun x=>!(x == 10)
def cnt (l:List Int):Nat:=(l.filter fun x=>x == 10).length
theorem fl_snoc (l:List Int) (x:Int):fl (l ++ [x]) = if x = 10 then fl l else if has l = true then fl l ++ [x] else fl l:=by
 unfold fl;rw [bhd_snoc];by_cases h:has l = true
 ·rw [if_pos h,if_pos h,List.filter_append]
  by_cases h0:x = 10 <;> simp [h0]
 ·rw [if_neg h,if_neg h,(has_no l (by simpa using h)).2];simp
theorem cnt_snoc (l:List Int) (x:Int):cnt (l ++ [x]) = if x = 10 then cnt l + 1 else cnt l:=by
 unfold cnt;rw [List.filter_append];by_cases h0:x = 10 <;> simp [h0]
theorem cnt_le (l:List Int):cnt l <= l.length:=List.length_filter_le _ _
theorem cnt_nil:cnt [] = 0:=rfl
theorem cnt_has (l:List Int):cnt l = 0 ↔ has l = false:=by
 unfold cnt has;rw [List.length_eq_zero_iff,List.filter_eq_nil_iff,List.any_eq_false]
theorem cnt_parts (l:List Int):cnt l = (if has l = true then 1 else 0) + cnt (bhd l):=by
 induction l with
 | nil=>rfl
 | cons x l ih =>
  rw [bhd_cons,has_cons];by_cases h:x = 10
  ·subst h;simp [cnt];omega
  ·have e:cnt (x :: l) = cnt l:=by unfold cnt;rw [List.filter_cons_of_neg (by simpa using h)]
   rw [if_neg h,e,ih,show (x == 10) = false from by simpa using h,Bool.false_or]
theorem cnt_two (l:List Int):(1 < cnt l) ↔ has (bhd l) = true:=by
 have h1:=cnt_parts l;have h2:=cnt_has (bhd l);by_cases h:has l = true
 ·rw [if_pos h] at h1
  constructor
  ·intro hc
   cases hb:has (bhd l) with
   | true=>rfl
   | false=>have:=h2.2 hb;omega
  ·intro hb
   have:¬ cnt (bhd l) = 0:=fun e=>by rw [h2.1 e] at hb;cases hb
   omega
 ·have hn:=has_no l (by simpa using h)
  rw [if_neg h] at h1;rw [hn.2] at h1 |-;simp only [cnt_nil] at h1;simp [has];omega
theorem fl_one (l:List Int) (h:has (bhd l) = false):fl l = bhd l:=by
 unfold fl;rw [List.filter_eq_self];intro x hx;have:=List.any_eq_false.1 h x hx;simpa using this
def ofD (g:Bool) (l:List Int):T:=⟨g,ahd l,has l,bhd l⟩
def ofC (l:List Int):Int:=if okA l = true then (if has (bhd l) = true then 6 else 0) else 1
def ofR (g:Bool) (l:List Int):T:=if ofC l = 0 then ofD g l else T0
theorem ofC_bad {l:List Int} (h:okA l = false):ofC l = 1:=by unfold ofC;rw [h];rfl
theorem ofC_two {l:List Int} (h:okA l = true) (h2:has (bhd l) = true):ofC l = 6:=by unfold ofC;rw [if_pos h,if_pos h2]
theorem ofC_ok {l:List Int} (h:okA l = true) (h2:has (bhd l) = false):ofC l = 0:=by unfold ofC;rw [if_pos h,h2];rfl
theorem ofR_bad {g:Bool} {l:List Int} (h:okA l = false):ofR g l = T0:=by unfold ofR;rw [ofC_bad h];rfl
theorem ofR_two {g:Bool} {l:List Int} (h:okA l = true) (h2:has (bhd l) = true):ofR g l = T0:=by unfold ofR;rw [ofC_two h h2];rfl
theorem ofR_ok {g:Bool} {l:List Int} (h:okA l = true) (h2:has (bhd l) = false):ofR g l = ofD g l:=by unfold ofR;rw [ofC_ok h h2];rfl
theorem ats_of (g:Bool) (l:List Int):ats (ofD g l) = l:=parts l
theorem okA_append (a b:List Int):okA (a ++ b) = (okA a && okA b):=by simp [okA]
theorem ten_no (l:List Int) (h:okD l):has l = false:=by
 unfold has;rw [List.any_eq_false];intro x hx;have:=h x hx;simp;omega
theorem okA_dig (l:List Int) (h:okD l):okA l = true:=(okA_iff l).2 fun d hd=>by have:=h d hd;omega
theorem may_dig {d:T} (h:may d = true):okD d.i /\ okD d.f /\ (d.s = false -> d.f = []):=by
 simp only [may,Bool.and_eq_true,Bool.or_eq_true] at h;refine ⟨(okB_iff _).1 h.1.1,(okB_iff _).1 h.1.2,fun hs=>?_⟩;rcases h.2 with h2 | h2
 ·rw [hs] at h2;cases h2
 ·simpa using h2
theorem okA_ats {d:T} (h:may d = true):okA (ats d) = true:=by
 obtain ⟨h1,h2,_⟩:=may_dig h;unfold ats;rw [okA_append,okA_append,okA_dig _ h1,okA_dig _ h2];cases d.s <;> rfl
theorem ahd_app (a b:List Int) (h:has a = false):ahd (a ++ b) = a ++ ahd b:=by
 induction a with
 | nil=>rfl
 | cons x a ih =>
  rw [has_cons,Bool.or_eq_false_iff] at h;have hx:¬ x = 10:=by simpa using h.1
  rw [List.cons_append,ahd_cons,if_neg hx,ih h.2];rfl
theorem bhd_app (a b:List Int) (h:has a = false):bhd (a ++ b) = bhd b:=by
 induction a with
 | nil=>rfl
 | cons x a ih =>
  rw [has_cons,Bool.or_eq_false_iff] at h;have hx:¬ x = 10:=by simpa using h.1
  rw [List.cons_append,bhd_cons,if_neg hx,ih h.2]
theorem has_app (a b:List Int):has (a ++ b) = (has a || has b):=by simp [has]
theorem of_ats {d:T} (h:may d = true):ofD d.g (ats d) = d /\ has (bhd (ats d)) = false:=by
 obtain ⟨h1,h2,h3⟩:=may_dig h;obtain ⟨g,i,s,f⟩:=d;dsimp only at h1 h2 h3;have e1:=ten_no i h1;have e2:=ten_no f h2;unfold ofD ats;dsimp only;rw [List.append_assoc,ahd_app _ _ e1,bhd_app _ _ e1,has_app,e1,Bool.false_or];cases s with
 | true =>
  refine ⟨?_,?_⟩
  ·simp [sep,ahd_cons,bhd_cons,has_cons]
  ·show has (bhd (10 :: f)) = false
   rw [bhd_cons,if_pos rfl];exact e2
 | false =>
  obtain rfl:=h3 rfl;refine ⟨?_,rfl⟩;simp [sep,ahd,bhd,has]
theorem may_of (g:Bool) (l:List Int) (h:okA l = true) (h2:has (bhd l) = false):may (ofD g l) = true:=by
 have hp:=parts l;have ho:=(okA_iff l).1 h;rw [<- hp] at ho;have hd1:okD (ahd l):=fun d hd=>by
  have h3:=ho d (by simp [hd]);have h4:(!(d == 10)) = true:=List.all_eq_true.1 (List.all_takeWhile (l:=l) (p:=fun x=>!(x == 10))) d hd;have:¬ d = 10:=by simpa using h4
  omega
 have hd2:okD (bhd l):=fun d hd=>by
  have h3:=ho d (by simp [hd]);have h4:=List.any_eq_false.1 h2 d hd;have:¬ d = 10:=by simpa using h4
  omega
 unfold may ofD;dsimp only;rw [(okB_iff _).2 hd1,(okB_iff _).2 hd2,Bool.true_and,Bool.true_and];cases h4:has l with
 | true=>rfl
 | false=>rw [(has_no l h4).2];rfl
def spl (d:T) (i j:Int) (A:List Int):List Int:=(ats d).take i.toNat ++ A ++ (ats d).drop j.toNat
def spC (d:T) (i j:Int) (A:List Int):Int:=if (may d && okA A) = true then (if i < 0 \/ j < i \/ ((ats d).length:Int) < j then 3 else ofC (spl d i j A)) else 1
def spR (d:T) (i j:Int) (A:List Int):T:=if spC d i j A = 0 then ofD d.g (spl d i j A) else T0
theorem spC_bad {d:T} {i j:Int} {A:List Int} (h:(may d && okA A) = false):spC d i j A = 1 /\ spR d i j A = T0:=by
 have e:spC d i j A = 1:=by unfold spC;rw [h];rfl
 exact ⟨e,by unfold spR;rw [e];rfl⟩
theorem spC_far {d:T} {i j:Int} {A:List Int} (h:(may d && okA A) = true) (h2:i < 0 \/ j < i \/ ((ats d).length:Int) < j):spC d i j A = 3 /\ spR d i j A = T0:=by
 have e:spC d i j A = 3:=by unfold spC;rw [if_pos h,if_pos h2]
 exact ⟨e,by unfold spR;rw [e];rfl⟩
theorem spC_in {d:T} {i j:Int} {A:List Int} (h:(may d && okA A) = true) (h2:¬ (i < 0 \/ j < i \/ ((ats d).length:Int) < j)):spC d i j A = ofC (spl d i j A) /\ spR d i j A = ofR d.g (spl d i j A):=by
 have e:spC d i j A = ofC (spl d i j A):=by unfold spC;rw [if_pos h,if_neg h2]
 exact ⟨e,by unfold spR ofR;rw [e]⟩
theorem spl_len (d:T) (i j:Nat) (A:List Int) (hi:i <= j) (hj:j <= (ats d).length):(spl d i j A).length <= (ats d).length + A.length:=by
 unfold spl;simp only [List.length_append,List.length_take,List.length_drop,Int.toNat_natCast];omega
def zeb (l:List Int):Nat:=zer l.reverse
theorem zeb_le (l:List Int):zeb l <= l.length:=by have:=zer_le l.reverse;rwa [List.length_reverse] at this
theorem getD_rev (l:List Int) (k:Nat) (hk:k < l.length):l.reverse.getD k 0 = l.getD (l.length - 1 - k) 0:=by
 rw [List.getD_eq_getElem?_getD,List.getD_eq_getElem?_getD,List.getElem?_reverse hk]
theorem zeb_step (l:List Int) (k:Nat) (h:k <= zeb l) (hk:k < l.length) (h0:l.getD (l.length - 1 - k) 0 = 0):k + 1 <= zeb l :=
 zer_step l.reverse k h (by rwa [List.length_reverse]) (by rw [getD_rev l k hk];exact h0)
theorem zeb_hit (l:List Int) (k:Nat) (h:k <= zeb l) (hk:k < l.length) (h0:l.getD (l.length - 1 - k) 0 ≠ 0):zeb l = k :=
 zer_hit l.reverse k h (by rwa [List.length_reverse]) (by rw [getD_rev l k hk];exact h0)
theorem zeb_parts (l:List Int):l = l.take (l.length - zeb l) ++ List.replicate (zeb l) 0 /\ (l.take (l.length - zeb l) = [] \/ ∃ a d,l.take (l.length - zeb l) = a ++ [d] /\ d ≠ 0):=by
 have h1:l.reverse = List.replicate (zeb l) 0 ++ trimL l.reverse:=by
  have:=List.takeWhile_append_dropWhile (p:=fun x:Int=>x == 0) (l:=l.reverse);have h2:l.reverse.takeWhile (fun x=>x == 0) = List.replicate (zeb l) 0:=by
   rw [List.eq_replicate_iff];refine ⟨rfl,fun b hb=>?_⟩;have h4:=List.all_eq_true.1 (List.all_takeWhile (l:=l.reverse) (p:=fun x:Int=>x == 0)) b hb;simpa using h4
  rw [h2] at this;exact this.symm
 have h2:l = (trimL l.reverse).reverse ++ List.replicate (zeb l) 0:=by
  have:=congrArg List.reverse h1;rw [List.reverse_reverse,List.reverse_append,List.reverse_replicate] at this;exact this
 have h3:(trimL l.reverse).reverse.length = l.length - zeb l:=by
  rw [List.length_reverse,trim_len,List.length_reverse];rfl
 have h4:l.take (l.length - zeb l) = (trimL l.reverse).reverse:=by
  conv=>lhs;rhs;rw [h2]
  rw [<- h3,List.take_left]
 rw [h4];refine ⟨h2,?_⟩;rcases trim_head l.reverse with h5 | ⟨d,r,h5,hd⟩
 ·exact .inl (by rw [h5];rfl)
 ·exact .inr ⟨r.reverse,d,by rw [h5,List.reverse_cons],hd⟩
theorem st_cut (I F:List Int) (hF:okD F):st (num (I ++ F)) F.length = if num (I ++ F.take (F.length - zeb F)) = 0 then (0,0) else st (num (I ++ F.take (F.length - zeb F))) (F.length - zeb F):=by
 obtain ⟨h1,h2⟩:=zeb_parts F;have hz:=zeb_le F;have hl:(F.take (F.length - zeb F)).length = F.length - zeb F:=by rw [List.length_take];omega
 obtain ⟨R,hR⟩:∃ R,R = F.take (F.length - zeb F):=⟨_,rfl⟩;rw [<- hR] at h1 h2 hl |-;have e:st (num (I ++ F)) F.length = st (num (I ++ R)) R.length:=by
  conv=>lhs;rw [h1]
  rw [<- List.append_assoc,num_zeros,List.length_append,List.length_replicate,st_tens]
 rw [e,hl];split
 ·next h=>rw [h,st_zero]
 ·rfl
theorem st_fit (I R:List Int) (h:R = [] \/ ∃ a d,R = a ++ [d] /\ d ≠ 0) (hR:okD R):st (num (I ++ R)) R.length = (num (I ++ R),R.length):=by
 rcases h with rfl | ⟨a,d,rfl,hd⟩
 ·rfl
 ·have h1:0 <= d /\ d <= 9:=hR d (by simp)
  rw [<- List.append_assoc,num_snoc,List.length_append];exact st_end _ _ (by omega)
theorem dec_cut (I F:List Int) (hI:okD I) (hF:okD F) (z:Nat) (hz:z = zeb F) (M:Nat) (hM:M = num (I ++ F)) :
  trimL (I ++ F.take (F.length - z)) = dg (st M F.length).1 /\ (M ≠ 0 -> (st M F.length).2 = F.length - z) /\ (M = 0 ↔ trimL (I ++ F.take (F.length - z)) = []):=by
 subst hz;subst hM;obtain ⟨h1,h2⟩:=zeb_parts F;have hz:=zeb_le F;have hl:(F.take (F.length - zeb F)).length = F.length - zeb F:=by rw [List.length_take];omega
 have hR:okD (F.take (F.length - zeb F)):=okD_take hF _;obtain ⟨R,hR0⟩:∃ R,R = F.take (F.length - zeb F):=⟨_,rfl⟩;rw [<- hR0] at h1 h2 hl hR |-;have e:num (I ++ F) = num (I ++ R) * 10 ^ zeb F:=by
  conv=>lhs;rw [h1]
  rw [<- List.append_assoc,num_zeros]
 have e2:st (num (I ++ F)) F.length = (num (I ++ R),R.length):=by
  rw [e,show F.length = R.length + zeb F from by omega,st_tens,st_fit _ _ h2 hR]
 have e3:=trim_eq _ (okD_append.2 ⟨hI,hR⟩);refine ⟨by rw [e2,e3],fun _=>by rw [e2,hl],?_⟩;rw [e3,dg_nil,e];constructor
 ·intro h
  rcases Nat.mul_eq_zero.1 h with h | h
  ·exact h
  ·have:=Nat.pow_pos (n:=zeb F) (show 0 < 10 from by omega);omega
 ·intro h;rw [h,Nat.zero_mul]
def pad (D:List Int) (S:Nat):List Int:=List.replicate (S - D.length) 0 ++ D
def fI (a:List Int) (m n:Nat) (rest:Nat):List Int:=let I:=List.replicate (m - a.length) 0 ++ a;if I.length + n + (rest - n) = 0 then [0] else I
def frI (D:List Int) (S whole rest:Nat):List Int:=fI (dg (num ((pad D S).take (D.length - S)))) whole S rest
def frF (D:List Int) (S rest:Nat):List Int:=(pad D S).drop (D.length - S) ++ List.replicate (rest - S) 0
def frD (g:Bool) (L:List Int) (s whole rest:Nat):T:=⟨cg g (num L),frI (dg (st (num L) s).1) (st (num L) s).2 whole rest,decide (0 < (frF (dg (st (num L) s).1) (st (num L) s).2 rest).length),frF (dg (st (num L) s).1) (st (num L) s).2 rest⟩
def frC (L:List Int) (s whole rest:Int):Int:=if (okB L && decide (0 <= s) && decide (s <= 1000)) = true then (if whole < 0 \/ 64 < whole \/ rest < 0 \/ 64 < rest then 3 else 0) else 1
def frR (g:Bool) (L:List Int) (s whole rest:Int):T:=if frC L s whole rest = 0 then frD g L s.toNat whole.toNat rest.toNat else T0
theorem frC_bad {g:Bool} {L:List Int} {s whole rest:Int} (h:(okB L && decide (0 <= s) && decide (s <= 1000)) = false):frC L s whole rest = 1 /\ frR g L s whole rest = T0:=by
 have e:frC L s whole rest = 1:=by unfold frC;rw [h];rfl
 exact ⟨e,by unfold frR;rw [e];rfl⟩
theorem frC_far {g:Bool} {L:List Int} {s whole rest:Int} (h:(okB L && decide (0 <= s) && decide (s <= 1000)) = true) (h2:whole < 0 \/ 64 < whole \/ rest < 0 \/ 64 < rest):frC L s whole rest = 3 /\ frR g L s whole rest = T0:=by
 have e:frC L s whole rest = 3:=by unfold frC;rw [if_pos h,if_pos h2]
 exact ⟨e,by unfold frR;rw [e];rfl⟩
theorem frC_in {g:Bool} {L:List Int} {s whole rest:Nat} (h:okB L = true) (hs:s <= 1000) (h1:whole <= 64) (h2:rest <= 64):frC L s whole rest = 0 /\ frR g L s whole rest = frD g L s whole rest:=by
 have e:frC L s whole rest = 0:=by
  unfold frC;rw [h,decide_eq_true (show 0 <= (s:Int) from by omega),decide_eq_true (show (s:Int) <= 1000 from by omega),show (true && true && true) = true from rfl,if_pos rfl,if_neg (by omega)]
 exact ⟨e,by unfold frR;rw [e,if_pos rfl];rfl⟩
theorem pad_len (D:List Int) (S:Nat):(pad D S).length = S - D.length + D.length:=by unfold pad;rw [List.length_append,List.length_replicate]
theorem pad_num (D:List Int) (S:Nat):num (pad D S) = num D:=by
 unfold pad;rw [num_append];have:num (List.replicate (S - D.length) (0:Int)) = 0:=by
  have:=num_zeros [] (S - D.length);rwa [List.nil_append,num_nil,Nat.zero_mul] at this
 rw [this,Nat.zero_mul,Nat.zero_add]
theorem okD_rep (n:Nat):okD (List.replicate n 0):=fun d hd=>by have:=List.eq_of_mem_replicate hd;omega
theorem pad_ok (D:List Int) (S:Nat) (h:okD D):okD (pad D S):=okD_append.2 ⟨okD_rep _,h⟩
theorem num_reps (n:Nat) (l:List Int):num (List.replicate n 0 ++ l) = num l:=by
 have:=pad_num l (n + l.length);unfold pad at this;rwa [Nat.add_sub_cancel] at this
theorem fI_num (a:List Int) (m n rest:Nat):num (fI a m n rest) = num a:=by
 unfold fI;simp only;split
 ·next h =>
  have h0:a = []:=by
   have:a.length = 0:=by rw [List.length_append] at h;omega
   exact List.eq_nil_of_length_eq_zero this
  rw [h0];rfl
 ·exact num_reps _ _
theorem fI_ok (a:List Int) (m n rest:Nat) (h:okD a):okD (fI a m n rest):=by
 unfold fI;simp only;split
 ·intro d hd;simp at hd;omega
 ·exact okD_append.2 ⟨okD_rep _,h⟩
theorem fI_len (a:List Int) (m n rest:Nat):m <= (fI a m n rest).length /\ (fI a m n rest).length <= m + a.length + 1 /\ 0 < (fI a m n rest).length + n + (rest - n):=by
 unfold fI;simp only;split
 ·next h =>
  rw [List.length_append,List.length_replicate] at h;simp;omega
 ·next h =>
  rw [List.length_append,List.length_replicate] at h |-;omega
theorem frF_len (D:List Int) (S rest:Nat):(frF D S rest).length = S + (rest - S):=by
 unfold frF;rw [List.length_append,List.length_replicate,List.length_drop,pad_len];omega
theorem frF_ok (D:List Int) (S rest:Nat) (h:okD D):okD (frF D S rest):=okD_append.2 ⟨okD_drop (pad_ok D S h) _,okD_rep _⟩
theorem fr_num (D:List Int) (S whole rest:Nat) (h:okD D):num (frI D S whole rest ++ frF D S rest) = num D * 10 ^ (rest - S):=by
 unfold frI frF;rw [<- List.append_assoc,num_zeros,num_append,fI_num,num_dg];congr 1
 have h1:(pad D S).take (D.length - S) ++ (pad D S).drop (D.length - S) = pad D S:=List.take_append_drop _ _;rw [<- num_append,h1,pad_num]
theorem fr_may (g:Bool) (L:List Int) (s whole rest:Nat):may (frD g L s whole rest) = true:=by
 unfold may frD frI;dsimp only;rw [(okB_iff _).2 (fI_ok _ _ _ _ (okD_dg _)),(okB_iff _).2 (frF_ok _ _ _ (okD_dg _)),Bool.true_and,Bool.true_and];cases h:frF (dg (st (num L) s).1) (st (num L) s).2 rest with
 | nil=>rfl
 | cons x l=>simp
theorem fr_dec (g:Bool) (L:List Int) (s whole rest:Nat) :
  st (num ((frD g L s whole rest).i ++ (frD g L s whole rest).f)) (frD g L s whole rest).f.length = st (num L) s /\ cg (frD g L s whole rest).g (num ((frD g L s whole rest).i ++ (frD g L s whole rest).f)) = cg g (num L):=by
 unfold frD;dsimp only;rw [fr_num _ _ _ _ (okD_dg _),frF_len,num_dg,st_tens,st_trim];refine ⟨rfl,?_⟩;unfold cg;have h0:=st_eq0 (num L) s;have hp:=Nat.pow_pos (n:=rest - (st (num L) s).2) (show 0 < 10 from by omega);by_cases h:num L = 0
 ·rw [if_pos h];split <;> rfl
 ·have h1:¬ (st (num L) s).1 * 10 ^ (rest - (st (num L) s).2) = 0:=by
   intro e;rcases Nat.mul_eq_zero.1 e with e | e
   ·exact h (h0.1 e)
   ·omega
  rw [if_neg h1,if_neg h]
theorem fr_len (g:Bool) (L:List Int) (s whole rest:Nat):whole <= (frD g L s whole rest).i.length /\ rest <= (frD g L s whole rest).f.length /\ 0 < (ats (frD g L s whole rest)).length:=by
 unfold frD;dsimp only;have h1:=fI_len (dg (num ((pad (dg (st (num L) s).1) (st (num L) s).2).take ((dg (st (num L) s).1).length - (st (num L) s).2)))) whole (st (num L) s).2 rest;have h2:=frF_len (dg (st (num L) s).1) (st (num L) s).2 rest;refine ⟨h1.1,by omega,?_⟩;rw [ats_len];dsimp only;have h3:=h1.2.2;unfold frI;omega
theorem back (g:Bool) (I:List Int) (i:Nat) (A:List Int) (hI:okD I) (hi:i <= I.length) (hA:okA A = true) :
  spC ⟨g,I,false,[]⟩ i i A = (if 1 < cnt A then 6 else 0) /\
  (cnt A <= 1 -> spR ⟨g,I,false,[]⟩ i i A = ofD g (I.take i ++ A ++ I.drop i) /\ (ats (spR ⟨g,I,false,[]⟩ i i A)).length = I.length + A.length /\ may (spR ⟨g,I,false,[]⟩ i i A) = true /\
   spC (spR ⟨g,I,false,[]⟩ i i A) i (i + A.length:Nat) [] = 0 /\ spR (spR ⟨g,I,false,[]⟩ i i A) i (i + A.length:Nat) [] = ⟨g,I,false,[]⟩):=by
 have hm:may ⟨g,I,false,[]⟩ = true:=by unfold may;dsimp only;rw [(okB_iff I).2 hI];rfl
 have ha:ats ⟨g,I,false,[]⟩ = I:=by simp [ats,sep]
 have hsp:spl ⟨g,I,false,[]⟩ i i A = I.take i ++ A ++ I.drop i:=by unfold spl;rw [ha];rfl
 have h1:=spC_in (d:=⟨g,I,false,[]⟩) (i:=i) (j:=i) (A:=A) (by rw [hm,hA];rfl) (by rw [ha];omega);rw [hsp] at h1;have hok:okA (I.take i ++ A ++ I.drop i) = true:=by
  rw [okA_append,okA_append,hA,okA_dig _ (okD_take hI i),okA_dig _ (okD_drop hI i)];rfl
 have hc:cnt (I.take i ++ A ++ I.drop i) = cnt A:=by
  have e1:=(cnt_has _).2 (ten_no _ (okD_take hI i));have e2:=(cnt_has _).2 (ten_no _ (okD_drop hI i));unfold cnt at *;rw [List.filter_append,List.filter_append,List.length_append,List.length_append,e1,e2];omega
 have h2:=cnt_two (I.take i ++ A ++ I.drop i);rw [hc] at h2;have hl:(I.take i ++ A ++ I.drop i).length = I.length + A.length:=by
  simp only [List.length_append,List.length_take,List.length_drop];omega
 by_cases hh:1 < cnt A
 ·refine ⟨by rw [h1.1,ofC_two hok (h2.1 hh),if_pos hh],fun h=>absurd hh (by omega)⟩
 ·have hb:has (bhd (I.take i ++ A ++ I.drop i)) = false:=by
   cases h3:has (bhd (I.take i ++ A ++ I.drop i)) with
   | false=>rfl
   | true=>exact absurd (h2.2 h3) hh
  refine ⟨by rw [h1.1,ofC_ok hok hb,if_neg hh],fun _=>?_⟩;have hR:spR ⟨g,I,false,[]⟩ i i A = ofD g (I.take i ++ A ++ I.drop i):=by rw [h1.2,ofR_ok hok hb]
  rw [hR];refine ⟨rfl,by rw [ats_of,hl],may_of g _ hok hb,?_⟩;have hm2:=may_of g _ hok hb;have ha2:=ats_of g (I.take i ++ A ++ I.drop i);have h4:=spC_in (d:=ofD g (I.take i ++ A ++ I.drop i)) (i:=i) (j:=(i + A.length:Nat)) (A:=[]) (by rw [hm2];rfl) (by rw [ha2,hl];omega);have hs2:spl (ofD g (I.take i ++ A ++ I.drop i)) i (i + A.length:Nat) [] = I:=by
   unfold spl;rw [ha2,Int.toNat_natCast,Int.toNat_natCast,List.append_nil];have e1:(I.take i).length = i:=by rw [List.length_take];omega
   have e2:(I.take i ++ A ++ I.drop i).take i = I.take i:=by
    rw [List.append_assoc,List.take_append_of_le_length (by omega)];conv=>lhs;lhs;rw [<- e1]
    rw [e1,List.take_of_length_le (by omega)]
   have e3:(I.take i ++ A ++ I.drop i).drop (i + A.length) = I.drop i:=by
    have:(I.take i ++ A).length = i + A.length:=by rw [List.length_append,e1]
    rw [<- this,List.drop_left]
   rw [e2,e3,List.take_append_drop]
  rw [hs2] at h4;have hn:=has_no I (ten_no I hI);have hbI:has (bhd I) = false:=by rw [hn.2];rfl
  refine ⟨by rw [h4.1,ofC_ok (okA_dig I hI) hbI],?_⟩;rw [h4.2,ofR_ok (okA_dig I hI) hbI];unfold ofD;rw [hn.1,hn.2,ten_no I hI]
end Tm
section
open Go.RowKit
def Bk (w:World) (b:Nat) (T:TypeId) (l:List Value):Prop:=w.heap[b]? = some (.cells l.toArray T (0,0))
theorem Bk.lt {w:World} {b:Nat} {T:TypeId} {l:List Value} (h:Bk w b T l):b < w.heap.size:=(Array.getElem?_eq_some_iff.1 h).1
theorem Bk.q {w w':World} {b:Nat} {T:TypeId} {l:List Value} (h:Bk w b T l) (hq:Q w w'):Bk w' b T l:=(hq.block h.lt).trans h
theorem Bk.cell {w:World} {b:Nat} {T:TypeId} {l:List Value} (h:Bk w b T l) (i:Nat) {v:Value} (hv:l[i]? = some v):w.cell? ⟨b,i,none⟩ = some v:=by
 rw [Lib.cell_of_heap h];simpa using hv
theorem Bk.free {w:World} {b:Nat} {T:TypeId} {l:List Value} (h:Bk w b T l) (i:Nat):w.frozen? ⟨b,i,none⟩ = false:=Lib.frozen_of_heap h i
theorem Bk.set {w:World} {b:Nat} {T:TypeId} {l:List Value} (h:Bk w b T l) (i:Nat) (v:Value):Bk (w.setCell ⟨b,i,none⟩ v) b T (l.set i v):=by
 have:=Joins.block_setCell h v (i:=i);unfold Bk;rw [this,List.setIfInBounds_toArray]
theorem Bk.new (w:World) (T:TypeId) (l:List Value):Bk (w.alloc (.cells l.toArray T)) w.heap.size T l:=heap_alloc_new _ _
theorem Bk.past {w:World} {b g i:Nat} {T:TypeId} {l:List Value} (h:Bk w b T l) (hg:g ≠ b) (v:Value):Bk (w.setCell ⟨g,i,none⟩ v) b T l:=by
 exact ((Gap.setCell w g i v g (g + 1) (Nat.le_refl _) (Nat.lt_succ_self _)).block b h.lt (by omega)).trans h
theorem cell_past {w:World} {b g i o:Nat} {u:Value} (h:w.cell? ⟨b,o,none⟩ = some u) (hb:b < w.heap.size) (hg:g ≠ b) (v:Value):(w.setCell ⟨g,i,none⟩ v).cell? ⟨b,o,none⟩ = some u :=
 (World.cell?_of_block (w:=w) ((Gap.setCell w g i v g (g + 1) (Nat.le_refl _) (Nat.lt_succ_self _)).block b hb (by omega))).trans h
theorem ret_bk {fn:Func} {p:Tmp} {T:TypeId} (h:fn.results = #[.cell p T]) {R:Ending -> World -> Prop} {a:Act} {w:World} {g:Nat} {l:List Value} {fs:_}
  (hu:Try.prog.underlying T = some (.struct fs)) (hi:(Try.prog.info? T).map (·.size) = some l.length)
  (hp:a.tmps.getD p undef = .pointer (some ⟨g,0,none⟩)) (hg:Bk w g T l) (hdf:a.defers = []) (hR:R (.returned (.agg l.toArray)) w):bodyPost Try.prog fn R .ret a w :=
 bodyPost_ret (results_cell_row h a.tmps w g T l.toArray (0,0) _ hp hg hu rfl (by simpa using hi)) hdf hR
end
end Go.Proofs.Ytnehhbobhnmbcaa
