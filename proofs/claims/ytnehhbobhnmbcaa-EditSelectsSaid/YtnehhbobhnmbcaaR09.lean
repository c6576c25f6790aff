/- What keys do, further: a word's end, step by step; digits put in are never refused where there is room. (and more) -/
import Derived.Test.YtnehhbobhnmbcaaR08
set_option linter.all false
set_option maxRecDepth 100000
set_option maxHeartbeats 8000000
namespace Go.Proofs.Ytnehhbobhnmbcaa
section
namespace Ed
open Tm Dm
def nR (l:List Int) (k:Nat):Nat:=(ahd (l.drop k)).length
def nL (l:List Int) (k:Nat):Nat:=(ahd (l.take k).reverse).length
theorem drop_at (l:List Int) (k:Nat) (h:k < l.length):l.drop k = l.getD k 0 :: l.drop (k + 1):=by
 rw [List.drop_eq_getElem_cons h];congr 1
 rw [List.getD_eq_getElem?_getD,List.getElem?_eq_getElem h];rfl
theorem rev_at (l:List Int) (k:Nat) (h:k + 1 <= l.length):(l.take (k + 1)).reverse = l.getD k 0 :: (l.take k).reverse:=by
 rw [List.take_succ_eq_append_getElem (show k < l.length by omega),List.reverse_append];have e:l.getD k 0 = l[k]'(by omega):=by rw [List.getD_eq_getElem?_getD,List.getElem?_eq_getElem (show k < l.length by omega)];rfl
 rw [e];rfl
theorem nR_step (l:List Int) (k:Nat) (h:k < l.length) (h10:l.getD k 0 ≠ 10):nR l k = nR l (k + 1) + 1:=by
 unfold nR;rw [drop_at l k h,ahd_cons,if_neg h10,List.length_cons]
theorem nR_ten (l:List Int) (k:Nat) (h:k < l.length) (h10:l.getD k 0 = 10):nR l k = 0:=by
 unfold nR;rw [drop_at l k h,ahd_cons,if_pos h10];rfl
theorem nR_end (l:List Int) (k:Nat) (h:l.length <= k):nR l k = 0:=by
 unfold nR;rw [List.drop_eq_nil_of_le h];rfl
theorem nL_step (l:List Int) (k:Nat) (h:k + 1 <= l.length) (h10:l.getD k 0 ≠ 10):nL l (k + 1) = nL l k + 1:=by
 unfold nL;rw [rev_at l k h,ahd_cons,if_neg h10,List.length_cons]
theorem nL_ten (l:List Int) (k:Nat) (h:k + 1 <= l.length) (h10:l.getD k 0 = 10):nL l (k + 1) = 0:=by
 unfold nL;rw [rev_at l k h,ahd_cons,if_pos h10];rfl
theorem nL_zero (l:List Int):nL l 0 = 0:=rfl
theorem nL_le (l:List Int) (k:Nat):nL l k <= k:=by
 unfold nL;have h:=ahd_le (l.take k).reverse;rw [List.length_reverse] at h;have:=List.length_take_le k l;omega
theorem wordR_ten (l:List Int) (k:Nat) (h:k < l.length) (h10:l.getD k 0 = 10):wordR l k = k + 1:=by
 unfold wordR;rw [if_pos (by rw [drop_at l k h,h10];rfl)]
theorem wordR_no (l:List Int) (k:Nat) (h:¬ (k < l.length /\ l.getD k 0 = 10)):wordR l k = k + nR l k:=by
 unfold wordR;rw [if_neg]
 ·rfl
 ·intro e
  by_cases hk:k < l.length
  ·rw [drop_at l k hk] at e
   exact h ⟨hk,Option.some.inj e⟩
  ·rw [List.drop_eq_nil_of_le (by omega)] at e;cases e
theorem last_at (l:List Int) (k:Nat) (h:k + 1 <= l.length):(l.take (k + 1)).getLast? = some (l.getD k 0):=by
 rw [<- List.head?_reverse,rev_at l k h];rfl
theorem wordL_ten (l:List Int) (k:Nat) (h:k + 1 <= l.length) (h10:l.getD k 0 = 10):wordL l (k + 1) = k:=by
 unfold wordL;rw [if_pos (by rw [last_at l k h,h10])];rfl
theorem wordL_no (l:List Int) (k:Nat) (h:k + 1 <= l.length) (h10:l.getD k 0 ≠ 10):wordL l (k + 1) = k + 1 - nL l (k + 1):=by
 unfold wordL;rw [if_neg (by rw [last_at l k h];exact fun e=>h10 (Option.some.inj e))];rfl
theorem wordL_zero (l:List Int):wordL l 0 = 0:=rfl
theorem okA_digs {A:List Int} (h:okD A):okA A = true:=okA_dig A h
theorem cnt_digs {A:List Int} (h:okD A):cnt A = 0:=(cnt_has A).2 (ten_no A h)
theorem spC_dig {d:T} (h:may d = true) {A:List Int} (hA:okD A) {i j:Int} (h1:0 <= i) (h2:i <= j) (h3:j <= ((ats d).length:Int)):spC d i j A = 0:=by
 have hk:(may d && okA A) = true:=by rw [h,okA_digs hA];rfl
 rw [(spC_in hk (by omega)).1];have ho:okA (spl d i j A) = true:=by
  unfold spl;have:=okA_sub (okA_ats h) i.toNat j.toNat;rw [okA_append] at this |-;rw [okA_append,okA_digs hA];simpa using this
 refine ofC_ok ho ?_;have h0:=one_cut _ (of_ats h).2 i.toNat j.toNat (by omega);have hc:cnt (spl d i j A) = cnt ((ats d).take i.toNat ++ (ats d).drop j.toNat):=by
  unfold spl;rw [cnt_app,cnt_app,cnt_app,cnt_digs hA];omega
 cases hb:has (bhd (spl d i j A)) with
 | false=>rfl
 | true =>
  have:=(cnt_two _).2 hb;rw [hc] at this;rw [(cnt_two _).1 this] at h0;cases h0
theorem ofD_len (g:Bool) (l:List Int):(ofD g l).i.length <= l.length /\ (ofD g l).f.length <= l.length:=by
 have h:=congrArg List.length (parts l);rw [List.length_append,List.length_append] at h;show (ahd l).length <= l.length /\ (bhd l).length <= l.length;omega
theorem ins_dig {s:S} {l:L} {A:List Int} (h:mayS s = true) (hA:okD A) (hi:len s + A.length <= l.i) (hf:len s + A.length <= l.f) :
  (ins s l A).2 = 0 /\ (ins s l A).1 = ⟨spR s.d (fr s) (bk s) A,fr s + A.length,fr s + A.length⟩ /\ len (ins s l A).1 = len s - (bk s - fr s) + A.length:=by
 obtain ⟨b1,b2,b3⟩:=span_bd h;have h0:=spC_dig ((mayS_iff s).1 h).1 hA b1 b2 b3;obtain ⟨_,_,_,_,_,_,k5,k6⟩:=spR_ok h0;have hl:((ats (spR s.d (fr s) (bk s) A)).length:Int) <= len s + A.length:=by unfold len at *;omega
 have hd:=ofD_len s.d.g (spl s.d (fr s) (bk s) A);rw [<- k5] at hd;have hz:(spl s.d (fr s) (bk s) A).length = (ats (spR s.d (fr s) (bk s) A)).length:=by rw [k5,ats_of]
 have h3:fits (spR s.d (fr s) (bk s) A) l = true:=by
  unfold fits;rw [Bool.and_eq_true,decide_eq_true_eq,decide_eq_true_eq];omega
 unfold ins;rw [if_pos h,if_pos h0,if_pos h3];refine ⟨rfl,rfl,?_⟩;unfold len at *;dsimp only;omega
theorem put_may {s:S} {l:L} {g:Bool} {A:List Int} (h:(put s l g A).2 = 0):mayS s = true /\ fits (put s l g A).1.d l = true /\ mayS (put s l g A).1 = true:=by
 unfold put at h |-;by_cases h1:(ins s l A).2 = 0
 ·rw [if_pos h1] at h |-
  obtain ⟨k1,_,_,k2,k3⟩:=ins_may h1;by_cases h2:g = true /\ (l.g = false \/ 0 < fr s)
  ·rw [if_pos h2] at h;cases h
  ·rw [if_neg h2]
   refine ⟨k1,k2,(mayS_iff _).2 ?_⟩;exact (mayS_iff _).1 k3
 ·rw [if_neg h1] at h;exact absurd h h1
end Ed
end
end Go.Proofs.Ytnehhbobhnmbcaa
