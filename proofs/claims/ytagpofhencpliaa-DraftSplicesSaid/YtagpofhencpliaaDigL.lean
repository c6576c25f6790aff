/- Lists of digits as plain mathematics, the second part: numbers whose last place stands first, noughts ahead, comparing, texts. -/
import Derived.Test.YtagpofhencpliaaRows
import Derived.Test.YtagpofhencpliaaDigM
set_option linter.unusedVariables false
set_option linter.unusedSimpArgs false
namespace Go.Proofs.Ytagpofhencpliaa.Dm
/-- What a list reads whose last place stands first, of whatever numbers. -/
def lsv (l : List Int) : Int := l.foldr (fun d n => d + 10 * n) 0
theorem lsv_nil : lsv [] = 0 := rfl
theorem lsv_cons (d : Int) (l : List Int) : lsv (d :: l) = d + 10 * lsv l := rfl
theorem lsv_append (a b : List Int) : lsv (a ++ b) = lsv a + 10 ^ a.length * lsv b := by
  induction a with
  | nil => simp [lsv_nil]
  | cons d a ih =>
    rw [List.cons_append, lsv_cons, lsv_cons, ih, List.length_cons, Int.pow_succ, Int.mul_add, Int.mul_comm (10 ^ a.length) 10, Int.mul_assoc]
    omega
theorem lsv_snoc (l : List Int) (d : Int) : lsv (l ++ [d]) = lsv l + 10 ^ l.length * d := by
  rw [lsv_append, lsv_cons, lsv_nil]; simp
theorem lsv_zeros (n : Nat) : lsv (List.replicate n 0) = 0 := by
  induction n with
  | zero => rfl
  | succ n ih => rw [List.replicate_succ, lsv_cons, ih]; rfl
theorem num_rev (l : List Int) (h : okD l) : (num l.reverse : Int) = lsv l := by
  induction l with
  | nil => rfl
  | cons d l ih =>
    rw [okD_cons] at h
    rw [List.reverse_cons, num_snoc, lsv_cons, ← ih h.2]
    omega
theorem lsv_set (l : List Int) (k : Nat) (d : Int) (hk : k < l.length) : lsv (l.set k (l.getD k 0 + d)) = lsv l + d * 10 ^ k := by
  induction l generalizing k with
  | nil => simp at hk
  | cons x l ih =>
    cases k with
    | zero => simp [lsv_cons]; omega
    | succ k =>
      have := ih k (by simpa using hk)
      rw [List.set_cons_succ, lsv_cons, lsv_cons, List.getD_cons_succ, this, Int.pow_succ, Int.mul_add, Int.mul_comm (10 ^ k) 10, ← Int.mul_assoc d 10, Int.mul_comm d 10, Int.mul_assoc]
      omega
theorem set_next (ds rs : List Int) (k : Nat) (y x : Int) (hk : ds.length = k) : (ds ++ y :: rs).set k x = (ds ++ [x]) ++ rs := by
  subst hk
  rw [List.set_append_right _ _ (Nat.le_refl _)]
  simp
theorem set_zeros (ds : List Int) (n k : Nat) (x : Int) (hk : ds.length = k) (hn : k < n) : (ds ++ List.replicate (n - k) 0).set k x = (ds ++ [x]) ++ List.replicate (n - (k + 1)) 0 := by
  rw [show n - k = (n - (k + 1)) + 1 from by omega, List.replicate_succ]
  exact set_next _ _ _ _ _ hk
theorem drop_cons (xs : List Int) (k : Nat) (hk : k < xs.length) : xs.drop k = xs.getD k 0 :: xs.drop (k + 1) := by
  rw [List.drop_eq_getElem_cons hk, List.getD_eq_getElem?_getD, List.getElem?_eq_getElem hk]; rfl
/-- One step of settling: what is below 0 is lent by the place ahead. -/
theorem settle_step (p L rest x tail T : Int) (h : L + p * (rest + (x + 10 * tail)) = T) : (L + p * ((rest + x) % 10)) + p * 10 * ((rest + x) / 10 + tail) = T := by
  have h1 := Int.mul_ediv_add_emod (rest + x) 10
  have h2 : p * (rest + (x + 10 * tail)) = p * ((rest + x) % 10) + p * 10 * ((rest + x) / 10 + tail) := by
    rw [Int.mul_assoc, ← Int.mul_add]
    congr 1; omega
  omega
theorem over_z (p L rest T : Int) (h : L + p * rest = T) : (L + p * (rest % 10)) + p * 10 * (rest / 10) = T := by
  have := settle_step p L rest 0 0 T (by simpa using h)
  simpa using this

/-- How many noughts stand ahead. -/
def zer (l : List Int) : Nat := (l.takeWhile (· == 0)).length
theorem zer_le (l : List Int) : zer l ≤ l.length := (List.takeWhile_sublist _).length_le
theorem zer_cons0 (l : List Int) : zer (0 :: l) = zer l + 1 := by unfold zer; rw [List.takeWhile_cons_of_pos (by simp)]; rfl
theorem zer_cons (d : Int) (l : List Int) (h : d ≠ 0) : zer (d :: l) = 0 := by unfold zer; rw [List.takeWhile_cons_of_neg (by simpa using h)]; rfl
theorem trim_drop (l : List Int) : trimL l = l.drop (zer l) := by
  induction l with
  | nil => rfl
  | cons d l ih =>
    by_cases h : d = 0
    · subst h
      rw [zer_cons0, List.drop_succ_cons, ← ih]
      unfold trimL; rw [List.dropWhile_cons_of_pos (by simp)]
    · rw [zer_cons d l h]; unfold trimL; rw [List.dropWhile_cons_of_neg (by simpa using h)]; rfl
theorem zer_step (l : List Int) (i : Nat) (h : i ≤ zer l) (hi : i < l.length) (h0 : l.getD i 0 = 0) : i + 1 ≤ zer l := by
  induction l generalizing i with
  | nil => simp at hi
  | cons d l ih =>
    by_cases hd : d = 0
    · subst hd
      rw [zer_cons0] at h ⊢
      cases i with
      | zero => omega
      | succ i =>
        have := ih i (by omega) (by simpa using hi) (by simpa using h0)
        omega
    · rw [zer_cons d l hd] at h
      obtain rfl : i = 0 := by omega
      simp at h0
      exact absurd h0 hd
theorem zer_hit (l : List Int) (i : Nat) (h : i ≤ zer l) (hi : i < l.length) (h0 : l.getD i 0 ≠ 0) : zer l = i := by
  induction l generalizing i with
  | nil => simp at hi
  | cons d l ih =>
    by_cases hd : d = 0
    · subst hd
      rw [zer_cons0] at h ⊢
      cases i with
      | zero => simp at h0
      | succ i =>
        have := ih i (by omega) (by simpa using hi) (by simpa using h0)
        omega
    · rw [zer_cons d l hd] at h ⊢
      omega
theorem trim_len (l : List Int) : (trimL l).length = l.length - zer l := by rw [trim_drop, List.length_drop]
theorem zer_rep (n : Nat) (l : List Int) : zer (List.replicate n 0 ++ l) = n + zer l := by
  induction n with
  | zero => simp
  | succ n ih => rw [List.replicate_succ, List.cons_append, zer_cons0, ih]; omega
theorem trim_rep (n : Nat) (l : List Int) : trimL (List.replicate n 0 ++ l) = trimL l := by
  rw [trim_drop, trim_drop, zer_rep, List.drop_append]
  simp

/-- Which number is greater. -/
def cmpZ (x y : Int) : Int := if x < y then -1 else if y < x then 1 else 0
theorem cmpZ_lt {x y : Int} (h : x < y) : cmpZ x y = -1 := if_pos h
theorem cmpZ_gt {x y : Int} (h : y < x) : cmpZ x y = 1 := by unfold cmpZ; rw [if_neg (by omega), if_pos h]
theorem cmpZ_eq {x y : Int} (h : x = y) : cmpZ x y = 0 := by unfold cmpZ; rw [if_neg (by omega), if_neg (by omega)]
theorem cmpZ_three (x y : Int) : cmpZ x y = -1 ∨ cmpZ x y = 0 ∨ cmpZ x y = 1 := by
  rcases Int.lt_trichotomy x y with h | h | h
  · exact .inl (cmpZ_lt h)
  · exact .inr (.inl (cmpZ_eq h))
  · exact .inr (.inr (cmpZ_gt h))
theorem cmpZ_neg (x y : Int) : cmpZ y x = - cmpZ x y := by
  rcases Int.lt_trichotomy x y with h | h | h
  · rw [cmpZ_lt h, cmpZ_gt h]; rfl
  · rw [cmpZ_eq h, cmpZ_eq h.symm]; rfl
  · rw [cmpZ_gt h, cmpZ_lt h]
theorem cmpZ_neg1 (x y : Int) : cmpZ x y < 0 ↔ x < y := by
  rcases Int.lt_trichotomy x y with h | h | h
  · rw [cmpZ_lt h]; omega
  · rw [cmpZ_eq h]; omega
  · rw [cmpZ_gt h]; omega
theorem cmpZ_pos (x y : Int) : 0 < cmpZ x y ↔ y < x := by
  rcases Int.lt_trichotomy x y with h | h | h
  · rw [cmpZ_lt h]; omega
  · rw [cmpZ_eq h]; omega
  · rw [cmpZ_gt h]; omega
/-- By the first number that is another one; else the shorter one is less. -/
def lexC : List Int → List Int → Int
  | [], [] => 0
  | [], _ :: _ => -1
  | _ :: _, [] => 1
  | x :: xs, y :: ys => if x < y then -1 else if y < x then 1 else lexC xs ys
theorem lexC_lt (xs ys : List Int) (i : Nat) (hx : i < xs.length) (hy : i < ys.length) (h : xs.getD i 0 < ys.getD i 0) : lexC (xs.drop i) (ys.drop i) = -1 := by
  rw [drop_cons xs i hx, drop_cons ys i hy, lexC, if_pos h]
theorem lexC_gt (xs ys : List Int) (i : Nat) (hx : i < xs.length) (hy : i < ys.length) (h : ys.getD i 0 < xs.getD i 0) : lexC (xs.drop i) (ys.drop i) = 1 := by
  rw [drop_cons xs i hx, drop_cons ys i hy, lexC, if_neg (by omega), if_pos h]
theorem lexC_on (xs ys : List Int) (i : Nat) (hx : i < xs.length) (hy : i < ys.length) (h : xs.getD i 0 = ys.getD i 0) : lexC (xs.drop i) (ys.drop i) = lexC (xs.drop (i + 1)) (ys.drop (i + 1)) := by
  rw [drop_cons xs i hx, drop_cons ys i hy, lexC, if_neg (by omega), if_neg (by omega)]
theorem lexC_long (xs ys : List Int) (i : Nat) (hx : i < xs.length) (hy : ys.length ≤ i) : lexC (xs.drop i) (ys.drop i) = 1 := by
  rw [drop_cons xs i hx, List.drop_eq_nil_of_le hy]; rfl
theorem lexC_short (xs ys : List Int) (i : Nat) (hx : xs.length ≤ i) (hy : i < ys.length) : lexC (xs.drop i) (ys.drop i) = -1 := by
  rw [drop_cons ys i hy, List.drop_eq_nil_of_le hx]; rfl
theorem lexC_end (xs ys : List Int) (i : Nat) (hx : xs.length ≤ i) (hy : ys.length ≤ i) : lexC (xs.drop i) (ys.drop i) = 0 := by
  rw [List.drop_eq_nil_of_le hx, List.drop_eq_nil_of_le hy]; rfl
theorem lexC_num (xs ys : List Int) (hx : okD xs) (hy : okD ys) (hl : xs.length = ys.length) : lexC xs ys = cmpZ (num xs) (num ys) := by
  induction xs generalizing ys with
  | nil =>
    obtain rfl : ys = [] := List.eq_nil_of_length_eq_zero hl.symm
    rfl
  | cons x xs ih =>
    cases ys with
    | nil => simp at hl
    | cons y ys =>
      rw [okD_cons] at hx hy
      have hl' : xs.length = ys.length := by simpa using hl
      rw [lexC]
      rcases Int.lt_trichotomy x y with h | h | h
      · rw [if_pos h]
        have := dif_lt [] xs ys x y hx.2 hy.2 hl' hx.1.1 h
        rw [List.nil_append, List.nil_append] at this
        rw [cmpZ_lt (by omega)]
      · subst h
        rw [if_neg (by omega), if_neg (by omega), ih ys hx.2 hy.2 hl', num_cons, num_cons, hl']
        unfold cmpZ
        have e1 : (((x.toNat * 10 ^ ys.length + num xs : Nat) : Int) < ((x.toNat * 10 ^ ys.length + num ys : Nat) : Int)) ↔ ((num xs : Int) < (num ys : Int)) := by omega
        have e2 : (((x.toNat * 10 ^ ys.length + num ys : Nat) : Int) < ((x.toNat * 10 ^ ys.length + num xs : Nat) : Int)) ↔ ((num ys : Int) < (num xs : Int)) := by omega
        simp only [e1, e2]
      · rw [if_neg (by omega), if_pos h]
        have := dif_lt [] ys xs y x hy.2 hx.2 hl'.symm hy.1.1 h
        rw [List.nil_append, List.nil_append] at this
        rw [cmpZ_gt (by omega)]
theorem cmp_len_lt (a b : List Int) (ha : okD a) (hb : okD b) (h : (trimL a).length < (trimL b).length) : cmpZ (num a) (num b) = -1 := by
  have := len_lt _ _ (okD_trim ha) (okD_trim hb) (trim_head b) h
  rw [num_trim, num_trim] at this
  exact cmpZ_lt (by omega)
theorem cmp_len_gt (a b : List Int) (ha : okD a) (hb : okD b) (h : (trimL b).length < (trimL a).length) : cmpZ (num a) (num b) = 1 := by
  have := len_lt _ _ (okD_trim hb) (okD_trim ha) (trim_head a) h
  rw [num_trim, num_trim] at this
  exact cmpZ_gt (by omega)
theorem cmp_len_eq (a b : List Int) (ha : okD a) (hb : okD b) (h : (trimL a).length = (trimL b).length) : cmpZ (num a) (num b) = lexC (trimL a) (trimL b) := by
  rw [lexC_num _ _ (okD_trim ha) (okD_trim hb) h, num_trim, num_trim]

/-- Of a number that has no more places, the last ones are all. -/
theorem last_whole (l : List Int) (n : Nat) (h : num l < 10 ^ n) : num (lastN n l) = num l := by
  rcases Nat.lt_or_ge n l.length with h1 | h1
  · have h2 := num_append (l.take (l.length - n)) (l.drop (l.length - n))
    rw [List.take_append_drop, List.length_drop, show l.length - (l.length - n) = n from by omega] at h2
    unfold lastN
    rcases Nat.eq_zero_or_pos (num (l.take (l.length - n))) with h3 | h3
    · rw [h3] at h2; omega
    · have := Nat.mul_le_mul_right (10 ^ n) h3
      omega
  · rw [last_all l n h1]
theorem dgt_even (l : List Int) (h : okD l) : (num l : Int) % 2 = dgt l 0 % 2 := by
  have h1 := last_step l 0
  have h2 := dgt_bd l h 0
  by_cases hl : l.length = 0
  · obtain rfl : l = [] := List.eq_nil_of_length_eq_zero hl
    rfl
  · have h3 : l = l.take (l.length - 1) ++ [dgt l 0] := by
      conv => lhs; rw [← List.take_append_drop (l.length - 1) l]
      congr 1
      rw [drop_cons l (l.length - 1) (by omega), show l.length - 1 + 1 = l.length from by omega, List.drop_length]
      unfold dgt
      rw [if_pos (by omega), Nat.sub_zero]
    have h4 := num_mod2 (l.take (l.length - 1)) (dgt l 0)
    rw [← h3] at h4
    omega
theorem last_stepZ (l : List Int) (h : okD l) (i : Nat) : (num (lastN (i + 1) l) : Int) = dgt l i * 10 ^ i + (num (lastN i l) : Int) := by
  have h1 := last_step l i
  have h2 := dgt_bd l h i
  rw [h1]
  have h3 : ((10 ^ i : Nat) : Int) = 10 ^ i := by simp
  rw [Int.natCast_add, Int.natCast_mul, h3, show ((dgt l i).toNat : Int) = dgt l i from by omega]
theorem okB_drop (xs : List Int) (k : Nat) (hk : k < xs.length) : okB (xs.drop k) = (decide (0 ≤ xs.getD k 0 ∧ xs.getD k 0 ≤ 9) && okB (xs.drop (k + 1))) := by
  rw [drop_cons xs k hk]; rfl
theorem okB_bad (xs : List Int) (k : Nat) (hk : k < xs.length) (h : ¬ (0 ≤ xs.getD k 0 ∧ xs.getD k 0 ≤ 9)) : okB (xs.drop k) = false := by
  rw [okB_drop xs k hk, decide_eq_false h]; rfl
theorem okB_on (xs : List Int) (k : Nat) (hk : k < xs.length) (h : 0 ≤ xs.getD k 0 ∧ xs.getD k 0 ≤ 9) : okB (xs.drop k) = okB (xs.drop (k + 1)) := by
  rw [okB_drop xs k hk, decide_eq_true h]; rfl
theorem okB_end (xs : List Int) (k : Nat) (hk : xs.length ≤ k) : okB (xs.drop k) = true := by rw [List.drop_eq_nil_of_le hk]; rfl
/-- A list, turned as far as k places from each end. -/
def RV (xs : List Int) (k : Nat) (zs : List Int) : Prop := zs.length = xs.length ∧ ∀ j, j < xs.length → zs.getD j 0 = if j < k ∨ xs.length - k ≤ j then xs.getD (xs.length - 1 - j) 0 else xs.getD j 0
theorem RV.start (xs : List Int) : RV xs 0 xs := ⟨rfl, fun j hj => by rw [if_neg (by omega)]⟩
theorem RV.done {xs zs : List Int} {k : Nat} (h : RV xs k zs) (hk : xs.length ≤ 2 * k + 1) (hk2 : 2 * k ≤ xs.length) : zs = xs.reverse := by
  apply List.ext_getElem
  · rw [List.length_reverse]; exact h.1
  · intro j h1 h2
    have h3 := h.2 j (by rw [← h.1]; exact h1)
    rw [List.getD_eq_getElem?_getD, List.getElem?_eq_getElem h1, Option.getD_some] at h3
    rw [h3, List.getElem_reverse]
    have hl : j < xs.length := by rw [← h.1]; exact h1
    have e : xs.getD (xs.length - 1 - j) 0 = xs[xs.length - 1 - j] := by
      rw [List.getD_eq_getElem?_getD, List.getElem?_eq_getElem (by omega), Option.getD_some]
    by_cases hc : j < k ∨ xs.length - k ≤ j
    · rw [if_pos hc, e]
    · rw [if_neg hc, ← e]
      rw [show xs.length - 1 - j = j from by omega]
theorem getD_set (zs : List Int) (i j : Nat) (x : Int) (hi : i < zs.length) : (zs.set i x).getD j 0 = if i = j then x else zs.getD j 0 := by
  rw [List.getD_eq_getElem?_getD, List.getD_eq_getElem?_getD, List.getElem?_set]
  by_cases h : i = j
  · subst h
    rw [if_pos rfl, if_pos hi, if_pos rfl]; rfl
  · rw [if_neg h, if_neg h]
theorem RV.step {xs zs : List Int} {k m : Nat} (h : RV xs k zs) (hm : m + 1 + k = xs.length) (hkm : k < m) : RV xs (k + 1) ((zs.set k (zs.getD m 0)).set m (zs.getD k 0)) := by
  refine ⟨by rw [List.length_set, List.length_set]; exact h.1, fun j hj => ?_⟩
  have hl := h.1
  have h1 := h.2 k (by omega)
  have h2 := h.2 m (by omega)
  have h3 := h.2 j hj
  rw [if_neg (by omega)] at h1 h2
  rw [getD_set _ _ _ _ (by rw [List.length_set]; omega), getD_set _ _ _ _ (by omega), h1, h2, h3]
  by_cases e1 : m = j
  · subst e1
    rw [if_pos rfl, if_pos (by omega), show xs.length - 1 - m = k from by omega]
  · rw [if_neg e1]
    by_cases e2 : k = j
    · subst e2
      rw [if_pos rfl, if_pos (by omega), show xs.length - 1 - k = m from by omega]
    · rw [if_neg e2]
      by_cases e3 : j < k ∨ xs.length - k ≤ j
      · rw [if_pos e3, if_pos (by omega)]
      · rw [if_neg e3, if_neg (by omega)]
theorem lsv_bd (l : List Int) (h : okD l) : 0 ≤ lsv l ∧ lsv l < 10 ^ l.length := by
  have h1 := num_rev l h
  have h2 := num_lt l.reverse (fun d hd => h d (by simpa using hd))
  rw [List.length_reverse] at h2
  have h3 : ((10 ^ l.length : Nat) : Int) = 10 ^ l.length := by simp
  omega
theorem rest_pos (l : List Int) (h : okD l) (rest : Int) (T : Nat) (hT : lsv l + 10 ^ l.length * rest = T) : 0 ≤ rest := by
  have h1 := lsv_bd l h
  rcases (show rest < 0 ∨ 0 ≤ rest from by omega) with h2 | h2
  · have h3 : (10 : Int) ^ l.length * rest ≤ 10 ^ l.length * (-1) := Int.mul_le_mul_of_nonneg_left (by omega) (by omega)
    omega
  · exact h2
theorem okD_snoc {l : List Int} {d : Int} (h : okD l) (hd : 0 ≤ d ∧ d ≤ 9) : okD (l ++ [d]) := okD_append.2 ⟨h, okD_cons.2 ⟨hd, okD_nil⟩⟩
theorem settled (l : List Int) (h : okD l) (T : Nat) (hT : lsv l + 10 ^ l.length * 0 = T) : dg T = l.reverse.drop (zer l.reverse) := by
  rw [← trim_drop, trim_num (n := T) (fun d hd => h d (by simpa using hd))]
  have := num_rev l h
  omega
/-- Go's remainder and quotient by 10, of a number that may be below 0. -/
theorem tmod10 (r : Int) : (r.tmod 10 + 10).tmod 10 = r % 10 ∧ -9 ≤ r.tmod 10 ∧ r.tmod 10 ≤ 9 := by
  rcases (show r < 0 ∨ 0 ≤ r from by omega) with h | h
  · have h1 : r.tmod 10 = -((-r) % 10) := by
      have := Int.neg_tmod (a := -r) (b := 10)
      rw [Int.neg_neg] at this
      rw [this, Int.tmod_eq_emod_of_nonneg (by omega)]
    rw [h1, Int.tmod_eq_emod_of_nonneg (by omega)]
    omega
  · rw [Int.tmod_eq_emod_of_nonneg h, Int.tmod_eq_emod_of_nonneg (by omega)]
    omega
theorem tdiv10 (r : Int) : (r - r % 10).tdiv 10 = r / 10 := by
  rcases (show r < 0 ∨ 0 ≤ r from by omega) with h | h
  · have h1 : (r - r % 10).tdiv 10 = -((-(r - r % 10)).tdiv 10) := by rw [Int.neg_tdiv, Int.neg_neg]
    rw [h1, Int.tdiv_eq_ediv_of_nonneg (by omega)]
    omega
  · rw [Int.tdiv_eq_ediv_of_nonneg (by omega)]; omega
/-- With more, or fewer, digits behind. -/
def shl (l : List Int) (k : Int) : List Int := (l ++ List.replicate k.toNat 0).take ((l.length : Int) + k).toNat
theorem shl_make (l : List Int) (k : Int) : shl l k = l.take ((l.length : Int) + k).toNat ++ List.replicate (((l.length : Int) + k).toNat - min l.length ((l.length : Int) + k).toNat) 0 := by
  unfold shl
  rw [List.take_append, List.take_replicate]
  congr 2
  omega
theorem shl_len (l : List Int) (k : Int) : (shl l k).length = ((l.length : Int) + k).toNat := by
  unfold shl
  rw [List.length_take, List.length_append, List.length_replicate]; omega
theorem shl_neg (l : List Int) (k : Int) (h : k < 0) : shl l k = l.take ((l.length : Int) + k).toNat := by
  unfold shl
  rw [show k.toNat = 0 from by omega, List.replicate_zero, List.append_nil]
theorem shl_pos (l : List Int) (k : Nat) : shl l k = l ++ List.replicate k 0 := by
  unfold shl
  rw [List.take_of_length_le]
  · simp
  · rw [List.length_append, List.length_replicate]; omega
end Go.Proofs.Ytagpofhencpliaa.Dm
