/- Lists of digits as plain mathematics, the second part: numbers whose last place stands first, noughts ahead, comparing, texts. (and more) -/
import Derived.Test.YtagpofhencpliaaGreatDoorR00
import Derived.Test.YtagpofhencpliaaGreatDoorRows
import Derived.RangeFuncBox
import Derived.ChangeOld
import Derived.OpenShut
import Derived.Below
import Derived.Lib.SmallJoins
import Derived.LaidEql
import Derived.Stop.Asserts
import Derived.RowKitTokens
set_option linter.unusedVariables false
set_option linter.unusedSimpArgs false
namespace Go.Proofs.YtagpofhencpliaaGreatDoor.Dm
def lsv (l : List Int) : Int := l.foldr (fun d n => d + 10 * n) 0
theorem lsv_nil : lsv [] = 0 := rfl
theorem lsv_cons (d : Int) (l : List Int) : lsv (d :: l) = d + 10 * lsv l := rfl
theorem lsv_append (a b : List Int) : lsv (a ++ b) = lsv a + 10 ^ a.length * lsv b := by
  induction a with
  | nil => simp [lsv_nil]
  | cons d a ih =>
    rw [List.cons_append, lsv_cons, lsv_cons, ih, List.length_cons, Int.pow_succ, Int.mul_add, Int.mul_comm (10 ^ a.length) 10, Int.mul_assoc]
    omega
theorem lsv_snoc (l : List Int) (d : Int) : lsv (l ++ [d]) = lsv l + 10 ^ l.length * d := by
  rw [lsv_append, lsv_cons, lsv_nil]; simp
theorem lsv_zeros (n : Nat) : lsv (List.replicate n 0) = 0 := by
  induction n with
  | zero => rfl
  | succ n ih => rw [List.replicate_succ, lsv_cons, ih]; rfl
theorem num_rev (l : List Int) (h : okD l) : (num l.reverse : Int) = lsv l := by
  induction l with
  | nil => rfl
  | cons d l ih =>
    rw [okD_cons] at h
    rw [List.reverse_cons, num_snoc, lsv_cons, ← ih h.2]
    omega
theorem lsv_set (l : List Int) (k : Nat) (d : Int) (hk : k < l.length) : lsv (l.set k (l.getD k 0 + d)) = lsv l + d * 10 ^ k := by
  induction l generalizing k with
  | nil => simp at hk
  | cons x l ih =>
    cases k with
    | zero => simp [lsv_cons]; omega
    | succ k =>
      have := ih k (by simpa using hk)
      rw [List.set_cons_succ, lsv_cons, lsv_cons, List.getD_cons_succ, this, Int.pow_succ, Int.mul_add, Int.mul_comm (10 ^ k) 10, ← Int.mul_assoc d 10, Int.mul_comm d 10, Int.mul_assoc]
      omega
theorem set_next (ds rs : List Int) (k : Nat) (y x : Int) (hk : ds.length = k) : (ds ++ y :: rs).set k x = (ds ++ [x]) ++ rs := by
  subst hk
  rw [List.set_append_right _ _ (Nat.le_refl _)]
  simp
theorem set_zeros (ds : List Int) (n k : Nat) (x : Int) (hk : ds.length = k) (hn : k < n) : (ds ++ List.replicate (n - k) 0).set k x = (ds ++ [x]) ++ List.replicate (n - (k + 1)) 0 := by
  rw [show n - k = (n - (k + 1)) + 1 from by omega, List.replicate_succ]
  exact set_next _ _ _ _ _ hk
theorem drop_cons (xs : List Int) (k : Nat) (hk : k < xs.length) : xs.drop k = xs.getD k 0 :: xs.drop (k + 1) := by
  rw [List.drop_eq_getElem_cons hk, List.getD_eq_getElem?_getD, List.getElem?_eq_getElem hk]; rfl
theorem settle_step (p L rest x tail T : Int) (h : L + p * (rest + (x + 10 * tail)) = T) : (L + p * ((rest + x) % 10)) + p * 10 * ((rest + x) / 10 + tail) = T := by
  have h1 := Int.mul_ediv_add_emod (rest + x) 10
  have h2 : p * (rest + (x + 10 * tail)) = p * ((rest + x) % 10) + p * 10 * ((rest + x) / 10 + tail) := by
    rw [Int.mul_assoc, ← Int.mul_add]
    congr 1; omega
  omega
theorem over_z (p L rest T : Int) (h : L + p * rest = T) : (L + p * (rest % 10)) + p * 10 * (rest / 10) = T := by
  have := settle_step p L rest 0 0 T (by simpa using h)
  simpa using this
def zer (l : List Int) : Nat := (l.takeWhile (· == 0)).length
theorem zer_le (l : List Int) : zer l ≤ l.length := (List.takeWhile_sublist _).length_le
theorem zer_cons0 (l : List Int) : zer (0 :: l) = zer l + 1 := by unfold zer; rw [List.takeWhile_cons_of_pos (by simp)]; rfl
theorem zer_cons (d : Int) (l : List Int) (h : d ≠ 0) : zer (d :: l) = 0 := by unfold zer; rw [List.takeWhile_cons_of_neg (by simpa using h)]; rfl
theorem trim_drop (l : List Int) : trimL l = l.drop (zer l) := by
  induction l with
  | nil => rfl
  | cons d l ih =>
    by_cases h : d = 0
    · subst h
      rw [zer_cons0, List.drop_succ_cons, ← ih]
      unfold trimL; rw [List.dropWhile_cons_of_pos (by simp)]
    · rw [zer_cons d l h]; unfold trimL; rw [List.dropWhile_cons_of_neg (by simpa using h)]; rfl
theorem zer_step (l : List Int) (i : Nat) (h : i ≤ zer l) (hi : i < l.length) (h0 : l.getD i 0 = 0) : i + 1 ≤ zer l := by
  induction l generalizing i with
  | nil => simp at hi
  | cons d l ih =>
    by_cases hd : d = 0
    · subst hd
      rw [zer_cons0] at h ⊢
      cases i with
      | zero => omega
      | succ i =>
        have := ih i (by omega) (by simpa using hi) (by simpa using h0)
        omega
    · rw [zer_cons d l hd] at h
      obtain rfl : i = 0 := by omega
      simp at h0
      exact absurd h0 hd
theorem zer_hit (l : List Int) (i : Nat) (h : i ≤ zer l) (hi : i < l.length) (h0 : l.getD i 0 ≠ 0) : zer l = i := by
  induction l generalizing i with
  | nil => simp at hi
  | cons d l ih =>
    by_cases hd : d = 0
    · subst hd
      rw [zer_cons0] at h ⊢
      cases i with
      | zero => simp at h0
      | succ i =>
        have := ih i (by omega) (by simpa using hi) (by simpa using h0)
        omega
    · rw [zer_cons d l hd] at h ⊢
      omega
theorem trim_len (l : List Int) : (trimL l).length = l.length - zer l := by rw [trim_drop, List.length_drop]
def cmpZ (x y : Int) : Int := if x < y then -1 else if y < x then 1 else 0
theorem cmpZ_lt {x y : Int} (h : x < y) : cmpZ x y = -1 := if_pos h
theorem cmpZ_gt {x y : Int} (h : y < x) : cmpZ x y = 1 := by unfold cmpZ; rw [if_neg (by omega), if_pos h]
theorem cmpZ_eq {x y : Int} (h : x = y) : cmpZ x y = 0 := by unfold cmpZ; rw [if_neg (by omega), if_neg (by omega)]
theorem cmpZ_three (x y : Int) : cmpZ x y = -1 ∨ cmpZ x y = 0 ∨ cmpZ x y = 1 := by
  rcases Int.lt_trichotomy x y with h | h | h
  · exact .inl (cmpZ_lt h)
  · exact .inr (.inl (cmpZ_eq h))
  · exact .inr (.inr (cmpZ_gt h))
theorem cmpZ_neg (x y : Int) : cmpZ y x = - cmpZ x y := by
  rcases Int.lt_trichotomy x y with h | h | h
  · rw [cmpZ_lt h, cmpZ_gt h]; rfl
  · rw [cmpZ_eq h, cmpZ_eq h.symm]; rfl
  · rw [cmpZ_gt h, cmpZ_lt h]
theorem cmpZ_neg1 (x y : Int) : cmpZ x y < 0 ↔ x < y := by
  rcases Int.lt_trichotomy x y with h | h | h
  · rw [cmpZ_lt h]; omega
  · rw [cmpZ_eq h]; omega
  · rw [cmpZ_gt h]; omega
theorem cmpZ_pos (x y : Int) : 0 < cmpZ x y ↔ y < x := by
  rcases Int.lt_trichotomy x y with h | h | h
  · rw [cmpZ_lt h]; omega
  · rw [cmpZ_eq h]; omega
  · rw [cmpZ_gt h]; omega
def lexC : List Int → List Int → Int
  | [], [] => 0
  | [], _ :: _ => -1
  | _ :: _, [] => 1
  | x :: xs, y :: ys => if x < y then -1 else if y < x then 1 else lexC xs ys
theorem lexC_lt (xs ys : List Int) (i : Nat) (hx : i < xs.length) (hy : i < ys.length) (h : xs.getD i 0 < ys.getD i 0) : lexC (xs.drop i) (ys.drop i) = -1 := by
  rw [drop_cons xs i hx, drop_cons ys i hy, lexC, if_pos h]
theorem lexC_gt (xs ys : List Int) (i : Nat) (hx : i < xs.length) (hy : i < ys.length) (h : ys.getD i 0 < xs.getD i 0) : lexC (xs.drop i) (ys.drop i) = 1 := by
  rw [drop_cons xs i hx, drop_cons ys i hy, lexC, if_neg (by omega), if_pos h]
theorem lexC_on (xs ys : List Int) (i : Nat) (hx : i < xs.length) (hy : i < ys.length) (h : xs.getD i 0 = ys.getD i 0) : lexC (xs.drop i) (ys.drop i) = lexC (xs.drop (i + 1)) (ys.drop (i + 1)) := by
  rw [drop_cons xs i hx, drop_cons ys i hy, lexC, if_neg (by omega), if_neg (by omega)]
theorem lexC_long (xs ys : List Int) (i : Nat) (hx : i < xs.length) (hy : ys.length ≤ i) : lexC (xs.drop i) (ys.drop i) = 1 := by
  rw [drop_cons xs i hx, List.drop_eq_nil_of_le hy]; rfl
theorem lexC_short (xs ys : List Int) (i : Nat) (hx : xs.length ≤ i) (hy : i < ys.length) : lexC (xs.drop i) (ys.drop i) = -1 := by
  rw [drop_cons ys i hy, List.drop_eq_nil_of_le hx]; rfl
theorem lexC_end (xs ys : List Int) (i : Nat) (hx : xs.length ≤ i) (hy : ys.length ≤ i) : lexC (xs.drop i) (ys.drop i) = 0 := by
  rw [List.drop_eq_nil_of_le hx, List.drop_eq_nil_of_le hy]; rfl
theorem lexC_num (xs ys : List Int) (hx : okD xs) (hy : okD ys) (hl : xs.length = ys.length) : lexC xs ys = cmpZ (num xs) (num ys) := by
  induction xs generalizing ys with
  | nil =>
    obtain rfl : ys = [] := List.eq_nil_of_length_eq_zero hl.symm
    rfl
  | cons x xs ih =>
    cases ys with
    | nil => simp at hl
    | cons y ys =>
      rw [okD_cons] at hx hy
      have hl' : xs.length = ys.length := by simpa using hl
      rw [lexC]
      rcases Int.lt_trichotomy x y with h | h | h
      · rw [if_pos h]
        have := dif_lt [] xs ys x y hx.2 hy.2 hl' hx.1.1 h
        rw [List.nil_append, List.nil_append] at this
        rw [cmpZ_lt (by omega)]
      · subst h
        rw [if_neg (by omega), if_neg (by omega), ih ys hx.2 hy.2 hl', num_cons, num_cons, hl']
        unfold cmpZ
        have e1 : (((x.toNat * 10 ^ ys.length + num xs : Nat) : Int) < ((x.toNat * 10 ^ ys.length + num ys : Nat) : Int)) ↔ ((num xs : Int) < (num ys : Int)) := by omega
        have e2 : (((x.toNat * 10 ^ ys.length + num ys : Nat) : Int) < ((x.toNat * 10 ^ ys.length + num xs : Nat) : Int)) ↔ ((num ys : Int) < (num xs : Int)) := by omega
        simp only [e1, e2]
      · rw [if_neg (by omega), if_pos h]
        have := dif_lt [] ys xs y x hy.2 hx.2 hl'.symm hy.1.1 h
        rw [List.nil_append, List.nil_append] at this
        rw [cmpZ_gt (by omega)]
theorem cmp_len_lt (a b : List Int) (ha : okD a) (hb : okD b) (h : (trimL a).length < (trimL b).length) : cmpZ (num a) (num b) = -1 := by
  have := len_lt _ _ (okD_trim ha) (okD_trim hb) (trim_head b) h
  rw [num_trim, num_trim] at this
  exact cmpZ_lt (by omega)
theorem cmp_len_gt (a b : List Int) (ha : okD a) (hb : okD b) (h : (trimL b).length < (trimL a).length) : cmpZ (num a) (num b) = 1 := by
  have := len_lt _ _ (okD_trim hb) (okD_trim ha) (trim_head a) h
  rw [num_trim, num_trim] at this
  exact cmpZ_gt (by omega)
theorem cmp_len_eq (a b : List Int) (ha : okD a) (hb : okD b) (h : (trimL a).length = (trimL b).length) : cmpZ (num a) (num b) = lexC (trimL a) (trimL b) := by
  rw [lexC_num _ _ (okD_trim ha) (okD_trim hb) h, num_trim, num_trim]
theorem last_whole (l : List Int) (n : Nat) (h : num l < 10 ^ n) : num (lastN n l) = num l := by
  rcases Nat.lt_or_ge n l.length with h1 | h1
  · have h2 := num_append (l.take (l.length - n)) (l.drop (l.length - n))
    rw [List.take_append_drop, List.length_drop, show l.length - (l.length - n) = n from by omega] at h2
    unfold lastN
    rcases Nat.eq_zero_or_pos (num (l.take (l.length - n))) with h3 | h3
    · rw [h3] at h2; omega
    · have := Nat.mul_le_mul_right (10 ^ n) h3
      omega
  · rw [last_all l n h1]
theorem dgt_even (l : List Int) (h : okD l) : (num l : Int) % 2 = dgt l 0 % 2 := by
  have h1 := last_step l 0
  have h2 := dgt_bd l h 0
  by_cases hl : l.length = 0
  · obtain rfl : l = [] := List.eq_nil_of_length_eq_zero hl
    rfl
  · have h3 : l = l.take (l.length - 1) ++ [dgt l 0] := by
      conv => lhs; rw [← List.take_append_drop (l.length - 1) l]
      congr 1
      rw [drop_cons l (l.length - 1) (by omega), show l.length - 1 + 1 = l.length from by omega, List.drop_length]
      unfold dgt
      rw [if_pos (by omega), Nat.sub_zero]
    have h4 := num_mod2 (l.take (l.length - 1)) (dgt l 0)
    rw [← h3] at h4
    omega
theorem last_stepZ (l : List Int) (h : okD l) (i : Nat) : (num (lastN (i + 1) l) : Int) = dgt l i * 10 ^ i + (num (lastN i l) : Int) := by
  have h1 := last_step l i
  have h2 := dgt_bd l h i
  rw [h1]
  have h3 : ((10 ^ i : Nat) : Int) = 10 ^ i := by simp
  rw [Int.natCast_add, Int.natCast_mul, h3, show ((dgt l i).toNat : Int) = dgt l i from by omega]
theorem okB_drop (xs : List Int) (k : Nat) (hk : k < xs.length) : okB (xs.drop k) = (decide (0 ≤ xs.getD k 0 ∧ xs.getD k 0 ≤ 9) && okB (xs.drop (k + 1))) := by
  rw [drop_cons xs k hk]; rfl
theorem okB_bad (xs : List Int) (k : Nat) (hk : k < xs.length) (h : ¬ (0 ≤ xs.getD k 0 ∧ xs.getD k 0 ≤ 9)) : okB (xs.drop k) = false := by
  rw [okB_drop xs k hk, decide_eq_false h]; rfl
theorem okB_on (xs : List Int) (k : Nat) (hk : k < xs.length) (h : 0 ≤ xs.getD k 0 ∧ xs.getD k 0 ≤ 9) : okB (xs.drop k) = okB (xs.drop (k + 1)) := by
  rw [okB_drop xs k hk, decide_eq_true h]; rfl
theorem okB_end (xs : List Int) (k : Nat) (hk : xs.length ≤ k) : okB (xs.drop k) = true := by rw [List.drop_eq_nil_of_le hk]; rfl
def RV (xs : List Int) (k : Nat) (zs : List Int) : Prop := zs.length = xs.length ∧ ∀ j, j < xs.length → zs.getD j 0 = if j < k ∨ xs.length - k ≤ j then xs.getD (xs.length - 1 - j) 0 else xs.getD j 0
theorem RV.start (xs : List Int) : RV xs 0 xs := ⟨rfl, fun j hj => by rw [if_neg (by omega)]⟩
theorem RV.done {xs zs : List Int} {k : Nat} (h : RV xs k zs) (hk : xs.length ≤ 2 * k + 1) (hk2 : 2 * k ≤ xs.length) : zs = xs.reverse := by
  apply List.ext_getElem
  · rw [List.length_reverse]; exact h.1
  · intro j h1 h2
    have h3 := h.2 j (by rw [← h.1]; exact h1)
    rw [List.getD_eq_getElem?_getD, List.getElem?_eq_getElem h1, Option.getD_some] at h3
    rw [h3, List.getElem_reverse]
    have hl : j < xs.length := by rw [← h.1]; exact h1
    have e : xs.getD (xs.length - 1 - j) 0 = xs[xs.length - 1 - j] := by
      rw [List.getD_eq_getElem?_getD, List.getElem?_eq_getElem (by omega), Option.getD_some]
    by_cases hc : j < k ∨ xs.length - k ≤ j
    · rw [if_pos hc, e]
    · rw [if_neg hc, ← e]
      rw [show xs.length - 1 - j = j from by omega]
theorem getD_set (zs : List Int) (i j : Nat) (x : Int) (hi : i < zs.length) : (zs.set i x).getD j 0 = if i = j then x else zs.getD j 0 := by
  rw [List.getD_eq_getElem?_getD, List.getD_eq_getElem?_getD, List.getElem?_set]
  by_cases h : i = j
  · subst h
    rw [if_pos rfl, if_pos hi, if_pos rfl]; rfl
  · rw [if_neg h, if_neg h]
theorem RV.step {xs zs : List Int} {k m : Nat} (h : RV xs k zs) (hm : m + 1 + k = xs.length) (hkm : k < m) : RV xs (k + 1) ((zs.set k (zs.getD m 0)).set m (zs.getD k 0)) := by
  refine ⟨by rw [List.length_set, List.length_set]; exact h.1, fun j hj => ?_⟩
  have hl := h.1
  have h1 := h.2 k (by omega)
  have h2 := h.2 m (by omega)
  have h3 := h.2 j hj
  rw [if_neg (by omega)] at h1 h2
  rw [getD_set _ _ _ _ (by rw [List.length_set]; omega), getD_set _ _ _ _ (by omega), h1, h2, h3]
  by_cases e1 : m = j
  · subst e1
    rw [if_pos rfl, if_pos (by omega), show xs.length - 1 - m = k from by omega]
  · rw [if_neg e1]
    by_cases e2 : k = j
    · subst e2
      rw [if_pos rfl, if_pos (by omega), show xs.length - 1 - k = m from by omega]
    · rw [if_neg e2]
      by_cases e3 : j < k ∨ xs.length - k ≤ j
      · rw [if_pos e3, if_pos (by omega)]
      · rw [if_neg e3, if_neg (by omega)]
theorem lsv_bd (l : List Int) (h : okD l) : 0 ≤ lsv l ∧ lsv l < 10 ^ l.length := by
  have h1 := num_rev l h
  have h2 := num_lt l.reverse (fun d hd => h d (by simpa using hd))
  rw [List.length_reverse] at h2
  have h3 : ((10 ^ l.length : Nat) : Int) = 10 ^ l.length := by simp
  omega
theorem rest_pos (l : List Int) (h : okD l) (rest : Int) (T : Nat) (hT : lsv l + 10 ^ l.length * rest = T) : 0 ≤ rest := by
  have h1 := lsv_bd l h
  rcases (show rest < 0 ∨ 0 ≤ rest from by omega) with h2 | h2
  · have h3 : (10 : Int) ^ l.length * rest ≤ 10 ^ l.length * (-1) := Int.mul_le_mul_of_nonneg_left (by omega) (by omega)
    omega
  · exact h2
theorem okD_snoc {l : List Int} {d : Int} (h : okD l) (hd : 0 ≤ d ∧ d ≤ 9) : okD (l ++ [d]) := okD_append.2 ⟨h, okD_cons.2 ⟨hd, okD_nil⟩⟩
theorem settled (l : List Int) (h : okD l) (T : Nat) (hT : lsv l + 10 ^ l.length * 0 = T) : dg T = l.reverse.drop (zer l.reverse) := by
  rw [← trim_drop, trim_num (n := T) (fun d hd => h d (by simpa using hd))]
  have := num_rev l h
  omega
theorem tmod10 (r : Int) : (r.tmod 10 + 10).tmod 10 = r % 10 ∧ -9 ≤ r.tmod 10 ∧ r.tmod 10 ≤ 9 := by
  rcases (show r < 0 ∨ 0 ≤ r from by omega) with h | h
  · have h1 : r.tmod 10 = -((-r) % 10) := by
      have := Int.neg_tmod (a := -r) (b := 10)
      rw [Int.neg_neg] at this
      rw [this, Int.tmod_eq_emod_of_nonneg (by omega)]
    rw [h1, Int.tmod_eq_emod_of_nonneg (by omega)]
    omega
  · rw [Int.tmod_eq_emod_of_nonneg h, Int.tmod_eq_emod_of_nonneg (by omega)]
    omega
theorem tdiv10 (r : Int) : (r - r % 10).tdiv 10 = r / 10 := by
  rcases (show r < 0 ∨ 0 ≤ r from by omega) with h | h
  · have h1 : (r - r % 10).tdiv 10 = -((-(r - r % 10)).tdiv 10) := by rw [Int.neg_tdiv, Int.neg_neg]
    rw [h1, Int.tdiv_eq_ediv_of_nonneg (by omega)]
    omega
  · rw [Int.tdiv_eq_ediv_of_nonneg (by omega)]; omega
def shl (l : List Int) (k : Int) : List Int := (l ++ List.replicate k.toNat 0).take ((l.length : Int) + k).toNat
theorem shl_make (l : List Int) (k : Int) : shl l k = l.take ((l.length : Int) + k).toNat ++ List.replicate (((l.length : Int) + k).toNat - min l.length ((l.length : Int) + k).toNat) 0 := by
  unfold shl
  rw [List.take_append, List.take_replicate]
  congr 2
  omega
theorem shl_len (l : List Int) (k : Int) : (shl l k).length = ((l.length : Int) + k).toNat := by
  unfold shl
  rw [List.length_take, List.length_append, List.length_replicate]; omega
theorem shl_neg (l : List Int) (k : Int) (h : k < 0) : shl l k = l.take ((l.length : Int) + k).toNat := by
  unfold shl
  rw [show k.toNat = 0 from by omega, List.replicate_zero, List.append_nil]
theorem shl_pos (l : List Int) (k : Nat) : shl l k = l ++ List.replicate k 0 := by
  unfold shl
  rw [List.take_of_length_le]
  · simp
  · rw [List.length_append, List.length_replicate]; omega
end Go.Proofs.YtagpofhencpliaaGreatDoor.Dm
namespace Go.Proofs.YtagpofhencpliaaGreatDoor
open Go.RowKit
structure Gap (lo hi : Nat) (A A' : World) : Prop where
  os : A'.os = A.os
  tape : A'.tape = A.tape
  output : A'.output = A.output
  size : A.heap.size ≤ A'.heap.size
  block : ∀ k, k < A.heap.size → (k < lo ∨ hi ≤ k) → A'.heap[k]? = A.heap[k]?
theorem Gap.trans {lo hi : Nat} {A B C : World} (h : Gap lo hi A B) (k : Gap lo hi B C) : Gap lo hi A C :=
  ⟨k.os.trans h.os, k.tape.trans h.tape, k.output.trans h.output, Nat.le_trans h.size k.size, fun i hi' ho => (k.block i (Nat.lt_of_lt_of_le hi' h.size) ho).trans (h.block i hi' ho)⟩
theorem Gap.mono {lo hi lo' hi' : Nat} {A B : World} (h : Gap lo hi A B) (h1 : lo' ≤ lo) (h2 : hi ≤ hi') : Gap lo' hi' A B :=
  ⟨h.os, h.tape, h.output, h.size, fun k hk ho => h.block k hk (by omega)⟩
theorem Q.gap {A B : World} (h : Q A B) (lo hi : Nat) : Gap lo hi A B := ⟨h.os, h.tape, h.output, h.size, fun k hk _ => h.block hk⟩
theorem Gap.below {lo hi : Nat} {A B : World} (h : Gap lo hi A B) (hl : lo ≤ A.heap.size) : Below lo A B :=
  ⟨h.os, h.tape, h.output, h.size, fun k hk => h.block k (Nat.lt_of_lt_of_le hk hl) (.inl hk)⟩
theorem Gap.setCell (A : World) (b o : Nat) (v : Value) (lo hi : Nat) (h1 : lo ≤ b) (h2 : b < hi) : Gap lo hi A (A.setCell ⟨b, o, none⟩ v) :=
  ⟨rfl, rfl, rfl, by simp [World.setCell], fun k _ ho => Below.heap_setCell _ _ _ _ (by show k ≠ b; omega)⟩
theorem Gap.alloc (A : World) (o : Obj) (lo hi : Nat) : Gap lo hi A (A.alloc o) := ((Q.refl A).alloc o).gap lo hi
theorem Gap.grown {A B : World} {row : Option Nat} (lo hi : Nat) (hg : A.grownBy B row) (hr : ∀ k, row = some k → lo ≤ k ∧ k < hi) : Gap lo hi A B :=
  ⟨hg.os, hg.tape, hg.output, hg.size, fun k hk ho => hg.block k hk (fun e => by have := hr k e.symm; omega)⟩
theorem Own.gap {w w' : World} {B lo hi : Nat} {v : Value} {zs : List Int} (h : Own w B v zs) (hg : Gap lo hi w w') (ho : ∀ g, v.ownBlock = some g → g < lo ∨ hi ≤ g) : Own w' B v zs :=
  h.same fun g hv => hg.block g (h.lt g hv).2 (ho g hv)
theorem Lst.gap {w w' : World} {lo hi : Nat} {v : Value} {zs : List Int} (h : Lst w v zs) (hg : Gap lo hi w w') (ho : ∀ g o c, v = .slice (some ⟨g, o, none⟩) zs.length c → g < lo ∨ hi ≤ g) : Lst w' v zs := by
  rcases h with h | ⟨g, off, cap, hv, hl, h1, h2, hc⟩
  · exact .inl h
  · refine .inr ⟨g, off, cap, hv, Nat.lt_of_lt_of_le hl hg.size, h1, h2, fun i hi => ?_⟩
    rw [World.cell?_of_block (w := w) (hg.block g hl (ho g off cap hv))]
    exact hc i hi
end Go.Proofs.YtagpofhencpliaaGreatDoor
namespace Go.Proofs.YtagpofhencpliaaGreatDoor
open Go.ChangeShapes Go.WideShapes Go.RowKit
namespace FrH
section
variable {H : Type} {enc : TypeId × Value → H} {P : Program} {w : World} {base : Nat} {spare : Nat → Bool} {held : Bool}
theorem open_any {r : Reach} {b0 : Nat} {t : TypeId} {fs : Array Field} {v : Value} {d : DataW H} {p : List MemPlace} (hs : P.underlying t = some (.struct fs)) {k : Nat} (hC : P.cellsOf t = k)
    (hv : Value.okWide P w r b0 t v) (h : DataW.Trod enc P w base spare held t v d p) :
    ∃ cs : Array Value, v = .agg cs ∧ cs.size = k ∧ ∃ n y, DataW.trod enc P w base spare held n t cs.toList = some y := by
  obtain ⟨cs, rfl, hsz⟩ := okWide_struct hs hv
  obtain ⟨fuel, hf⟩ := h
  exact ⟨cs, rfl, hsz.trans hC, fuel, _, by simpa [Value.cells] using hf⟩
theorem nest {t : TypeId} {fs : Array Field} (hs : P.underlying t = some (.struct fs)) {cells : List Value} (h : ∃ n y, DataW.trod enc P w base spare held n t cells = some y) (i : Nat) {f : Field} (hf : fs[i]? = some f) (o k : Nat) (ho : f.offset = o) {T : TypeId} (hT : f.type = T) (hk : P.cellsOf T = k) {l : List Value} (hl : (cells.drop o).take k = l) :
    ∃ n y, DataW.trod enc P w base spare held n T l = some y := by
  obtain ⟨n, y, h⟩ := h
  obtain ⟨xs, m, _, _, _, hxl, hx⟩ := DataW.trod_struct hs h
  have h1 := hx i f hf
  rw [ho, hT, hk, hl] at h1
  have hi : i < fs.size := (Array.getElem?_eq_some_iff.1 hf).1
  exact ⟨m, _, h1.trans (List.getElem?_eq_getElem (by omega))⟩
end
theorem arr15 {cs : Array Value} (h : cs.size = 15) : ∃ a b c d e f g h i j k l m n o, cs = #[a, b, c, d, e, f, g, h, i, j, k, l, m, n, o] := by
  obtain ⟨l⟩ := cs
  match l, h with
  | [a, b, c, d, e, f, g, h, i, j, k, l, m, n, o], _ => exact ⟨a, b, c, d, e, f, g, h, i, j, k, l, m, n, o, rfl⟩
theorem arr10 {cs : Array Value} (h : cs.size = 10) : ∃ a b c d e f g h i j, cs = #[a, b, c, d, e, f, g, h, i, j] := by
  obtain ⟨l⟩ := cs
  match l, h with
  | [a, b, c, d, e, f, g, h, i, j], _ => exact ⟨a, b, c, d, e, f, g, h, i, j, rfl⟩
theorem lst_of {H : Type} {enc : TypeId × Value → H} {P : Program} {W : World} {held : Bool} {t e : TypeId} (h1 : P.underlying t = some (.slice e)) (h2 : P.underlying e = some (.int .i64)) (h3 : P.cellsOf e = 1) {c : Value}
    (h : ∃ n y, DataW.trod enc P W 0 (fun _ => true) held n t [c] = some y) : ∃ xs, Lst W c xs ∧ ∀ n ∈ xs, -9223372036854775808 ≤ n ∧ n ≤ 9223372036854775807 := by
  obtain ⟨n, y, h⟩ := h
  rcases open_ints h1 h2 h3 h with ⟨hcs, _⟩ | ⟨x, l, c', zs, hcs, _, hl, hm, hz, _, hcell, hwz⟩
  · obtain rfl : c = .slice none 0 0 := by simpa using hcs
    exact ⟨[], .nil _ _ _ (by unfold maxLen; omega) (fun _ => rfl), by simp⟩
  · obtain rfl : c = .slice (some x) l c' := by simpa using hcs
    obtain ⟨xs, hx, _, hb⟩ := IsRow.lst (w := W) (.inr ⟨_, rfl, hl, hm, by simpa using hz, hcell, hwz⟩)
    exact ⟨xs, hx, hb⟩
theorem bool_of {H : Type} {enc : TypeId × Value → H} {P : Program} {W : World} {held : Bool} {t : TypeId} (h1 : P.underlying t = some .bool) {c : Value}
    (h : ∃ n y, DataW.trod enc P W 0 (fun _ => true) held n t [c] = some y) : ∃ b, c = .bool b := by
  obtain ⟨n, y, h⟩ := h
  obtain ⟨b, h, _⟩ := DataW.trod_bool h1 h
  exact ⟨b, by simpa using h⟩
theorem int_of {H : Type} {enc : TypeId × Value → H} {P : Program} {W : World} {held : Bool} {t : TypeId} (h1 : P.underlying t = some (.int .i64)) {c : Value}
    (h : ∃ n y, DataW.trod enc P W 0 (fun _ => true) held n t [c] = some y) : ∃ i, c = .int .i64 i ∧ -9223372036854775808 ≤ i ∧ i ≤ 9223372036854775807 := by
  obtain ⟨n, y, h⟩ := h
  obtain ⟨i, h, _, hw⟩ := DataW.trod_int h1 h
  exact ⟨i, by simpa using h, bounds_i64 hw⟩
theorem text_of {H : Type} {enc : TypeId × Value → H} {P : Program} {W : World} {held : Bool} {t : TypeId} (h1 : P.underlying t = some .string) {c : Value}
    (h : ∃ n y, DataW.trod enc P W 0 (fun _ => true) held n t [c] = some y) : ∃ s : ByteArray, c = .string s ∧ s.size ≤ maxLen := by
  obtain ⟨n, y, h⟩ := h
  obtain ⟨s, h, _, hs⟩ := DataW.trod_string h1 h
  exact ⟨s, by simpa using h, hs⟩
end FrH
end Go.Proofs.YtagpofhencpliaaGreatDoor
namespace Go.Proofs.YtagpofhencpliaaGreatDoor
open Go.RowKit
def GLst {α : Type} (en : α → Value) (w : World) (v : Value) (zs : List α) : Prop :=
  (zs = [] ∧ ∃ a c, v = .slice a 0 c ∧ c ≤ maxLen ∧ (a = none → c = 0)) ∨
  ∃ g off cap, v = .slice (some ⟨g, off, none⟩) zs.length cap ∧ g < w.heap.size ∧ zs.length ≤ cap ∧ cap ≤ maxLen ∧ ∀ i x, zs[i]? = some x → w.cell? ⟨g, off + i, none⟩ = some (en x)
theorem GLst.nil {α : Type} (en : α → Value) (w : World) (a : Option Addr) (c : Nat) (hc : c ≤ maxLen) (hn : a = none → c = 0) : GLst en w (.slice a 0 c) [] := .inl ⟨rfl, a, c, rfl, hc, hn⟩
theorem GLst.q {α : Type} {en : α → Value} {w w' : World} {v : Value} {zs : List α} (h : GLst en w v zs) (hq : Q w w') : GLst en w' v zs := by
  rcases h with h | ⟨g, off, cap, hv, hg, h1, h2, hc⟩
  · exact .inl h
  · refine .inr ⟨g, off, cap, hv, Nat.lt_of_lt_of_le hg hq.le, h1, h2, fun i x hi => ?_⟩
    rw [World.cell?_of_block (w := w) (hq.block hg)]
    exact hc i x hi
theorem GLst.shape2 {α : Type} {en : α → Value} {w : World} {v : Value} {zs : List α} (h : GLst en w v zs) : ∃ a c, v = .slice a zs.length c ∧ zs.length ≤ c ∧ c ≤ maxLen := by
  rcases h with ⟨rfl, a, c, rfl, hc, _⟩ | ⟨g, off, cap, hv, _, h1, h2, _⟩
  · exact ⟨a, c, rfl, Nat.zero_le _, hc⟩
  · exact ⟨_, _, hv, h1, h2⟩
theorem GLst.shape {α : Type} {en : α → Value} {w : World} {v : Value} {zs : List α} (h : GLst en w v zs) : ∃ a c, v = .slice a zs.length c := by
  obtain ⟨a, c, hv, _⟩ := h.shape2
  exact ⟨a, c, hv⟩
theorem GLst.form0 {α : Type} {en : α → Value} {w : World} {v : Value} {zs : List α} {n : Nat} (h : GLst en w v zs) (hn : zs.length = n) : ∃ a c, v = .slice a n c ∧ n ≤ c ∧ c ≤ maxLen := by
  subst hn; exact h.shape2
theorem GLst.cellOf {α : Type} {en : α → Value} {w : World} {v : Value} {zs : List α} {n k : Nat} {x : α} (h : GLst en w v zs) (hn : zs.length = n) (hk : zs[k]? = some x) :
    ∃ g off cap, v = .slice (some ⟨g, off, none⟩) n cap ∧ g < w.heap.size ∧ n ≤ cap ∧ cap ≤ maxLen ∧ w.cell? ⟨g, off + k, none⟩ = some (en x) := by
  rcases h with ⟨rfl, _⟩ | ⟨g, off, cap, hv, hg, h1, h2, hc⟩
  · simp at hk
  · rw [hn] at hv h1
    exact ⟨g, off, cap, hv, hg, h1, h2, hc k x hk⟩
def GOwn {α : Type} (T : TypeId) (en : α → Value) (w : World) (B : Nat) (v : Value) (zs : List α) : Prop := w.ownsRow B T 1 v zs.length (zs.map en)
theorem GOwn.nil {α : Type} (T : TypeId) (en : α → Value) (w : World) (B : Nat) : GOwn T en w B (.slice none 0 0) [] := World.ownsRow_nil w B T 1
theorem GOwn.mono {α : Type} {T : TypeId} {en : α → Value} {w : World} {B B' : Nat} {v : Value} {zs : List α} (h : GOwn T en w B v zs) (hB : B' ≤ B) : GOwn T en w B' v zs := by
  obtain ⟨h1, h2⟩ := h
  refine ⟨h1, ?_⟩
  rcases h2 with h2 | ⟨g, cap, cur, hv, hg, r⟩
  · exact .inl h2
  · exact .inr ⟨g, cap, cur, hv, by omega, r⟩
theorem GOwn.same {α : Type} {T : TypeId} {en : α → Value} {w w' : World} {B : Nat} {v : Value} {zs : List α} (h : GOwn T en w B v zs) (hs : ∀ g, v.ownBlock = some g → w'.heap[g]? = w.heap[g]?) : GOwn T en w' B v zs := by
  obtain ⟨h1, h2⟩ := h
  refine ⟨h1, ?_⟩
  rcases h2 with h2 | ⟨g, cap, cur, hv, hg, hh, r⟩
  · exact .inl h2
  · exact .inr ⟨g, cap, cur, hv, hg, by rw [hs g (by rw [hv]; rfl)]; exact hh, r⟩
theorem GOwn.lt {α : Type} {T : TypeId} {en : α → Value} {w : World} {B : Nat} {v : Value} {zs : List α} (h : GOwn T en w B v zs) : ∀ g, v.ownBlock = some g → B ≤ g ∧ g < w.heap.size := World.ownsRow.lt h
theorem GOwn.q {α : Type} {T : TypeId} {en : α → Value} {w w' : World} {B : Nat} {v : Value} {zs : List α} (h : GOwn T en w B v zs) (hq : Q w w') : GOwn T en w' B v zs := h.same fun g hg => hq.block (h.lt g hg).2
theorem GOwn.gap {α : Type} {T : TypeId} {en : α → Value} {w w' : World} {B lo hi : Nat} {v : Value} {zs : List α} (h : GOwn T en w B v zs) (hg : Gap lo hi w w') (ho : ∀ g, v.ownBlock = some g → g < lo ∨ hi ≤ g) : GOwn T en w' B v zs :=
  h.same fun g hv => hg.block g (h.lt g hv).2 (ho g hv)
theorem GOwn.cells {α : Type} {T : TypeId} {en : α → Value} {w : World} {B : Nat} {v : Value} {zs : List α} (h : GOwn T en w B v zs) : ∀ g, v.ownBlock = some g → ∃ cur, w.heap[g]? = some (.cells cur T (0, 0)) := by
  intro g hg
  rcases h.2 with ⟨rfl, _⟩ | ⟨g', cap, cur, rfl, _, hh, _⟩
  · cases hg
  · cases hg; exact ⟨cur, hh⟩
theorem GOwn.lst {α : Type} {T : TypeId} {en : α → Value} {w : World} {B : Nat} {v : Value} {zs : List α} (h : GOwn T en w B v zs) : GLst en w v zs := by
  rcases h.2 with ⟨hv, hn⟩ | ⟨g, cap, cur, hv, _, hh, hnc, hcm, hcs, ht⟩
  · have : zs = [] := List.eq_nil_of_length_eq_zero hn
    subst this; subst hv
    exact .nil _ _ _ _ (by unfold maxLen; omega) (fun _ => rfl)
  · refine .inr ⟨g, 0, cap, hv, (Array.getElem?_eq_some_iff.1 hh).1, hnc, hcm, fun i x hx => ?_⟩
    have hi : i < zs.length := (List.getElem?_eq_some_iff.1 hx).1
    rw [cell_of_row w g (0 + i) cur T (0, 0) hh]
    have h1 := congrArg (fun l => l[i]?) ht
    simp only [List.getElem?_map, Nat.mul_one] at h1
    rw [List.getElem?_take, if_pos hi, hx] at h1
    rw [Nat.zero_add, ← Array.getElem?_toList, h1]; rfl
theorem GOwn.shape {α : Type} {T : TypeId} {en : α → Value} {w : World} {B : Nat} {v : Value} {zs : List α} (h : GOwn T en w B v zs) : ∃ a c, v = .slice a zs.length c := h.lst.shape
theorem GLst.made {α : Type} (en : α → Value) (T : TypeId) (w : World) (zs : List α) (n : Nat) (hn : zs.length = n) (hm : n ≤ maxLen) : GLst en (w.alloc (.cells (zs.map en).toArray T)) (.slice (some ⟨w.heap.size, 0, none⟩) n n) zs := by
  subst hn
  refine .inr ⟨w.heap.size, 0, zs.length, rfl, by simp, Nat.le_refl _, hm, fun i x hi => ?_⟩
  rw [World.cell?_alloc_at _ _ _ _ rfl, Nat.zero_add]
  simp only [List.getElem?_toArray, List.getElem?_map, hi]; rfl
structure Elem (T ST : TypeId) (z : Value) (bytes : Nat) : Prop where
  info : (Tryz.prog.info? T).map (fun i => (i.zero, i.size, i.bytes)) = some (some z, 1, bytes)
  under : Tryz.prog.underlying ST = some (.slice T)
  one : z.cells.size = 1
  small : bytes ≤ 64
theorem gpush {α : Type} {T ST : TypeId} {z : Value} {bytes : Nat} (he : Elem T ST z bytes) {en : α → Value} {w : World} {B : Nat} {v : Value} {zs : List α} (hown : GOwn T en w B v zs) {ops : Array Oper} {rest : List Oper} {o : Oper} {a : Act} {R : Exit → Act → World → Prop} (hgd : o.guard = none) (s x : Operand)
    (ho : o.op = .call { callee := .builtin .append, args := #[s, x], argTypes := #[ST, ST] })
    (y : α) (h1c : (en y).oneCell' = true) (hs : a.eval s = v) (hx : a.eval x = .slice (some ⟨w.heap.size, 0, none⟩) 1 1) (hlen : zs.length < 1099511627776) (hB : B ≤ w.heap.size)
    (h : ∀ v' w', GOwn T en w' B v' (zs ++ [y]) → w.grownBy w' v.ownBlock → (v'.ownBlock = v.ownBlock ∨ v'.ownBlock = some (w.heap.size + 1)) → wpList Tryz.prog ops R rest (a.put o.dst v') w') :
    wpList Tryz.prog ops R (o :: rest) a (w.alloc (.cells #[en y] T)) := by
  obtain ⟨i0, hi, hz0, hz1, hz2⟩ := info_parts he.info
  refine wpList_append_own_at _ hgd s x ST ho B T i0 z 1 bytes he.under hi hz0 hz1 hz2 he.one (by decide) v zs.length _ hs (World.ownsRow.alloc hown _)
    ⟨w.heap.size, 0, none⟩ 1 1 [en y] hx rfl (cell_one_new _ _ _) ?_ ?_ ?_ ?_ ?_
  · intro u hu; simp at hu; subst hu; exact h1c
  · unfold maxLen; omega
  · have h1 : (zs.length + 1) * bytes ≤ (zs.length + 1) * 64 := Nat.mul_le_mul_left _ he.small
    omega
  · simp; omega
  · intro v' w' hown' hg _ hat
    refine h v' w' ?_ ?_ ?_
    · have e1 : (zs ++ [y]).length = zs.length + 1 := by simp
      unfold GOwn
      rw [e1, List.map_append]
      exact hown'
    · exact (World.grownBy_alloc w _ _).trans hg
    · simpa using hat
abbrev SLst (w : World) (v : Value) (zs : List ByteArray) : Prop := GLst Value.string w v zs
abbrev SOwn (w : World) (B : Nat) (v : Value) (zs : List ByteArray) : Prop := GOwn 9 Value.string w B v zs
theorem elemS : Elem 9 55 (.string ByteArray.empty) 16 := ⟨by kernel_rfl, Tryz.underlying55, rfl, by omega⟩
theorem str_ne {p q : ByteArray} (h : p ≠ q) : (p.toList == q.toList) = false := by
  rw [beq_eq_false_iff_ne, ByteArray.toList_eq, ByteArray.toList_eq]
  intro e
  apply h
  cases p with | mk x => cases q with | mk y =>
    rw [ByteArray.mk.injEq]
    exact Array.toList_inj.1 e
end Go.Proofs.YtagpofhencpliaaGreatDoor
namespace Go.Proofs.YtagpofhencpliaaGreatDoor
open Go.RowKit Go.Extern.Stop Go.Stop Go.Extern
namespace Fe
def Handle (w : World) : Prop := w.cell? ⟨0, 0, none⟩ = some (.iface 125 (.agg #[.pointer (some ⟨1, 41, none⟩)]))
theorem Handle.q {w w' : World} (h : Handle w) (hq : Q w w') : Handle w' := by
  unfold Handle at h ⊢
  rw [World.cell?_of_block (w := w) (hq.block (World.block_lt_of_cell? _ _ h))]
  exact h
theorem Handle.pos {w : World} (h : Handle w) : 0 < w.heap.size := World.block_lt_of_cell? _ _ h
def rank : Value → Nat
  | .iface _ (.pointer (some a)) => a.block + 1
  | _ => 0
def EV (w : World) (c : Int) : List ByteArray → Value → Prop
  | [], v => v = .iface 49 (.int .i64 c)
  | p :: ps, v => ∃ b u, v = .iface 83 (.pointer (some ⟨b, 0, none⟩)) ∧ w.heap[b]? = some (.cells #[.string p, u] 86 (0, 0)) ∧ rank u ≤ b ∧ EV w c ps u
theorem EV.q {w w' : World} {c : Int} (hq : Q w w') : ∀ {ps : List ByteArray} {v : Value}, EV w c ps v → EV w' c ps v
  | [], _, h => h
  | _ :: _, _, ⟨b, u, hv, hb, hr, h⟩ => ⟨b, u, hv, by rw [hq.block (Array.getElem?_eq_some_iff.1 hb).1]; exact hb, hr, EV.q hq h⟩
theorem EV.iface {w : World} {c : Int} : ∀ {ps : List ByteArray} {v : Value}, EV w c ps v → ∃ t u, v = .iface t u
  | [], _, h => ⟨_, _, h⟩
  | _ :: _, _, ⟨_, _, h, _⟩ => ⟨_, _, h⟩
theorem EV.rank_lt {w : World} {c : Int} {ps : List ByteArray} {v : Value} (h : EV w c ps v) : rank v ≤ w.heap.size := by
  cases ps with
  | nil => rw [show v = _ from h]; exact Nat.zero_le _
  | cons p ps =>
    obtain ⟨b, u, rfl, hb, _⟩ := h
    exact (Array.getElem?_eq_some_iff.1 hb).1
set_option maxHeartbeats 400000 in
theorem unwrap_any (b : Nat) (p : ByteArray) (u : Value) (w : World) (hb : w.heap[b]? = some (.cells #[.string p, u] 86 (0, 0))) :
    Calls Tryz.prog 110 #[.pointer (some ⟨b, 0, none⟩)] w fun e w' => e = .returned u ∧ w' = w := by
  have c1 : w.cell? ⟨b, 1, none⟩ = some u := by rw [Lib.cell_of_heap hb]; rfl
  go_enter Tryz.func110, Tryz.ntmps110
  go_wp2
  go_ret
  exact ⟨rfl, rfl⟩
end Fe
end Go.Proofs.YtagpofhencpliaaGreatDoor
namespace Go.Proofs.YtagpofhencpliaaGreatDoor.Dm
def st : Nat → Nat → Nat × Nat
  | M, 0 => (M, 0)
  | M, s + 1 => if M % 10 = 0 then st (M / 10) s else (M, s + 1)
theorem st_zero (s : Nat) : st 0 s = (0, 0) := by
  induction s with
  | zero => rfl
  | succ s ih => rw [st, if_pos rfl]; exact ih
theorem st_on (M s : Nat) (h : M % 10 = 0) : st M (s + 1) = st (M / 10) s := by rw [st, if_pos h]
theorem st_end (M s : Nat) (h : M % 10 ≠ 0) : st M (s + 1) = (M, s + 1) := by rw [st, if_neg h]
theorem st_le (M s : Nat) : (st M s).2 ≤ s := by
  induction s generalizing M with
  | zero => exact Nat.le_refl _
  | succ s ih =>
    rw [st]; split
    · exact Nat.le_succ_of_le (ih _)
    · exact Nat.le_refl _
theorem st_num (M s : Nat) : (st M s).1 * 10 ^ (s - (st M s).2) = M := by
  induction s generalizing M with
  | zero => simp [st]
  | succ s ih =>
    by_cases h : M % 10 = 0
    · rw [st_on M s h]
      have h1 := ih (M / 10)
      have h2 := st_le (M / 10) s
      rw [show s + 1 - (st (M / 10) s).2 = (s - (st (M / 10) s).2) + 1 from by omega, Nat.pow_succ, ← Nat.mul_assoc, h1]
      omega
    · rw [st_end M s h]; simp
theorem st_trim (M s : Nat) : st (st M s).1 (st M s).2 = st M s := by
  induction s generalizing M with
  | zero => rfl
  | succ s ih =>
    by_cases h : M % 10 = 0
    · rw [st_on M s h]; exact ih _
    · rw [st_end M s h, st_end M s h]
theorem st_pos (M s : Nat) (h : M ≠ 0) : (st M s).1 ≠ 0 := by
  intro h0
  have := st_num M s
  rw [h0] at this
  omega
theorem st_eq0 (M s : Nat) : (st M s).1 = 0 ↔ M = 0 := by
  constructor
  · intro h
    rcases Nat.eq_zero_or_pos M with h1 | h1
    · exact h1
    · exact absurd h (st_pos M s (by omega))
  · intro h; rw [h, st_zero]
def cg (g : Bool) (M : Nat) : Bool := if M = 0 then false else g
theorem cg_pos {g : Bool} {M : Nat} (h : M ≠ 0) : cg g M = g := if_neg h
theorem dg_last (M : Nat) (h : M ≠ 0) : (dg M).length = (dg (M / 10)).length + 1 ∧ (dg M).getD ((dg M).length - 1) 0 = ((M % 10 : Nat) : Int) ∧ (dg M).take ((dg M).length - 1) = dg (M / 10) := by
  have h1 := dg_pos M h
  have hl : (dg M).length = (dg (M / 10)).length + 1 := by rw [h1, List.length_append]; rfl
  refine ⟨hl, ?_, ?_⟩
  · rw [hl, Nat.add_sub_cancel, List.getD_eq_getElem?_getD]
    conv => lhs; rw [h1]
    rw [List.getElem?_append_right (Nat.le_refl _), Nat.sub_self]; rfl
  · rw [hl, Nat.add_sub_cancel]
    conv => lhs; rw [h1]
    simp
theorem dg_nil (M : Nat) : dg M = [] ↔ M = 0 := by
  constructor
  · intro h
    have := num_dg M
    rw [h, num_nil] at this
    exact this.symm
  · intro h; rw [h, dg_zero]
theorem cmpZ_mul (x y p : Nat) (hp : 0 < p) : cmpZ ((x * p : Nat) : Int) ((y * p : Nat) : Int) = cmpZ (x : Int) (y : Int) := by
  rcases Nat.lt_trichotomy x y with h | h | h
  · rw [cmpZ_lt (by have := Nat.mul_lt_mul_of_pos_right h hp; omega), cmpZ_lt (by omega)]
  · subst h; rw [cmpZ_eq rfl, cmpZ_eq rfl]
  · rw [cmpZ_gt (by have := Nat.mul_lt_mul_of_pos_right h hp; omega), cmpZ_gt (by omega)]
def cmpS (A sa B sb : Nat) : Int := cmpZ ((A * 10 ^ sb : Nat) : Int) ((B * 10 ^ sa : Nat) : Int)
theorem cmpS_at (A sa B sb n : Nat) (ha : sa ≤ n) (hb : sb ≤ n) : cmpZ ((A * 10 ^ (n - sa) : Nat) : Int) ((B * 10 ^ (n - sb) : Nat) : Int) = cmpS A sa B sb := by
  unfold cmpS
  rw [← cmpZ_mul (A * 10 ^ (n - sa)) (B * 10 ^ (n - sb)) (10 ^ (sa + sb)) (Nat.pow_pos (by omega)), ← cmpZ_mul (A * 10 ^ sb) (B * 10 ^ sa) (10 ^ n) (Nat.pow_pos (by omega))]
  rw [Nat.mul_assoc, Nat.mul_assoc, Nat.mul_assoc, Nat.mul_assoc, ← Nat.pow_add, ← Nat.pow_add, ← Nat.pow_add, ← Nat.pow_add]
  rw [show n - sa + (sa + sb) = sb + n from by omega, show n - sb + (sa + sb) = sa + n from by omega]
theorem cmpS_st (A sa B sb : Nat) : cmpS (st A sa).1 (st A sa).2 (st B sb).1 (st B sb).2 = cmpS A sa B sb := by
  have h1 := st_num A sa
  have h2 := st_num B sb
  have h3 := st_le A sa
  have h4 := st_le B sb
  unfold cmpS
  conv => rhs; rw [← h1, ← h2]
  rw [← cmpZ_mul ((st A sa).1 * 10 ^ (st B sb).2) ((st B sb).1 * 10 ^ (st A sa).2) (10 ^ (sa - (st A sa).2 + (sb - (st B sb).2))) (Nat.pow_pos (by omega))]
  rw [Nat.mul_assoc, Nat.mul_assoc, Nat.mul_assoc, Nat.mul_assoc, ← Nat.pow_add, ← Nat.pow_add, ← Nat.pow_add, ← Nat.pow_add]
  rw [show (st B sb).2 + (sa - (st A sa).2 + (sb - (st B sb).2)) = sa - (st A sa).2 + sb from by omega, show (st A sa).2 + (sa - (st A sa).2 + (sb - (st B sb).2)) = sb - (st B sb).2 + sa from by omega]
def cmpD (g : Bool) (A sa : Nat) (h : Bool) (B sb : Nat) : Int :=
  if cg g A = cg h B then (if cg g A = true then - cmpS A sa B sb else cmpS A sa B sb) else (if cg g A = true then -1 else 1)
end Go.Proofs.YtagpofhencpliaaGreatDoor.Dm
