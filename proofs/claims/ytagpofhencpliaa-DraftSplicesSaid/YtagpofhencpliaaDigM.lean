/- Lists of digits as plain mathematics: the number that one reads, the list of a number, and the steps of school. -/
import Derived.Test.YtagpofhencpliaaRows
set_option linter.unusedVariables false
set_option linter.unusedSimpArgs false
namespace Go.Proofs.Ytagpofhencpliaa.Dm
/-- The number that a list of digits reads, the first one the highest. -/
def num (l : List Int) : Nat := l.foldl (fun n d => 10 * n + d.toNat) 0
def okD (l : List Int) : Prop := ∀ d ∈ l, 0 ≤ d ∧ d ≤ 9
def okB (l : List Int) : Bool := l.all fun d => decide (0 ≤ d ∧ d ≤ 9)
theorem okB_iff (l : List Int) : okB l = true ↔ okD l := by simp [okB, okD]
theorem num_nil : num [] = 0 := rfl
theorem num_from (n : Nat) (l : List Int) : l.foldl (fun n d => 10 * n + d.toNat) n = n * 10 ^ l.length + num l := by
  induction l generalizing n with
  | nil => simp [num]
  | cons d l ih =>
    have h1 := ih (10 * n + d.toNat)
    have h2 := ih (10 * 0 + d.toNat)
    unfold num
    rw [List.foldl_cons, List.foldl_cons, h1, h2, List.length_cons, Nat.pow_succ]
    rw [Nat.add_mul, Nat.mul_comm 10 n, Nat.mul_zero, Nat.zero_add, Nat.mul_assoc, Nat.mul_comm 10 (10 ^ l.length)]
    omega
theorem num_append (a b : List Int) : num (a ++ b) = num a * 10 ^ b.length + num b := by
  unfold num
  rw [List.foldl_append]
  exact num_from _ b
theorem num_cons (d : Int) (l : List Int) : num (d :: l) = d.toNat * 10 ^ l.length + num l := by
  have := num_append [d] l
  simpa [num] using this
theorem num_snoc (l : List Int) (d : Int) : num (l ++ [d]) = 10 * num l + d.toNat := by
  rw [num_append]; simp [num]; omega
theorem okD_nil : okD [] := by simp [okD]
theorem okD_cons {d : Int} {l : List Int} : okD (d :: l) ↔ (0 ≤ d ∧ d ≤ 9) ∧ okD l := by simp [okD]
theorem okD_append {a b : List Int} : okD (a ++ b) ↔ okD a ∧ okD b := by
  simp only [okD, List.mem_append]
  exact ⟨fun h => ⟨fun d hd => h d (.inl hd), fun d hd => h d (.inr hd)⟩, fun h d hd => hd.elim (h.1 d) (h.2 d)⟩
theorem okD_drop {l : List Int} (h : okD l) (n : Nat) : okD (l.drop n) := fun d hd => h d (List.mem_of_mem_drop hd)
theorem okD_take {l : List Int} (h : okD l) (n : Nat) : okD (l.take n) := fun d hd => h d (List.mem_of_mem_take hd)
theorem num_lt (l : List Int) (h : okD l) : num l < 10 ^ l.length := by
  induction l with
  | nil => simp [num]
  | cons d l ih =>
    rw [okD_cons] at h
    have := ih h.2
    rw [num_cons, List.length_cons, Nat.pow_succ]
    have h9 : d.toNat ≤ 9 := by omega
    have := Nat.mul_le_mul_right (10 ^ l.length) h9
    omega
/-- Without noughts ahead. -/
def trimL (l : List Int) : List Int := l.dropWhile (· == 0)
theorem num_trim (l : List Int) : num (trimL l) = num l := by
  induction l with
  | nil => rfl
  | cons d l ih =>
    unfold trimL
    by_cases h : d = 0
    · subst h
      rw [List.dropWhile_cons_of_pos (by simp), num_cons]
      simpa [trimL] using ih
    · rw [List.dropWhile_cons_of_neg (by simpa using h)]
theorem okD_trim {l : List Int} (h : okD l) : okD (trimL l) := fun d hd => h d ((List.dropWhile_sublist _).subset hd)
theorem trim_head (l : List Int) : trimL l = [] ∨ ∃ d r, trimL l = d :: r ∧ d ≠ 0 := by
  induction l with
  | nil => exact .inl rfl
  | cons d l ih =>
    unfold trimL
    by_cases h : d = 0
    · subst h
      rw [List.dropWhile_cons_of_pos (by simp)]
      exact ih
    · rw [List.dropWhile_cons_of_neg (by simpa using h)]
      exact .inr ⟨d, l, rfl, h⟩
theorem trim_trim (l : List Int) : trimL (trimL l) = trimL l := by
  rcases trim_head l with h | ⟨d, r, h, hd⟩
  · rw [h]; rfl
  · rw [h]; unfold trimL; rw [List.dropWhile_cons_of_neg (by simpa using hd)]
theorem num_ge (d : Int) (l : List Int) (h : okD (d :: l)) (hd : d ≠ 0) : 10 ^ l.length ≤ num (d :: l) := by
  rw [okD_cons] at h
  rw [num_cons]
  have h1 : 1 ≤ d.toNat := by omega
  have := Nat.mul_le_mul_right (10 ^ l.length) h1
  omega
theorem same_len (a b : List Int) (ha : okD a) (hb : okD b) (hl : a.length = b.length) (hn : num a = num b) : a = b := by
  induction a generalizing b with
  | nil => exact (List.eq_nil_of_length_eq_zero hl.symm).symm
  | cons x a ih =>
    cases b with
    | nil => simp at hl
    | cons y b =>
      rw [okD_cons] at ha hb
      have hl' : a.length = b.length := by simpa using hl
      rw [num_cons, num_cons, hl'] at hn
      have h1 := num_lt a ha.2
      have h2 := num_lt b hb.2
      rw [hl'] at h1
      generalize hp : 10 ^ b.length = p at *
      have hxy : x.toNat = y.toNat := by
        rcases Nat.lt_trichotomy x.toNat y.toNat with h | h | h
        · have := Nat.mul_le_mul_right p (show x.toNat + 1 ≤ y.toNat from h)
          rw [Nat.add_mul] at this; omega
        · exact h
        · have := Nat.mul_le_mul_right p (show y.toNat + 1 ≤ x.toNat from h)
          rw [Nat.add_mul] at this; omega
      rw [hxy] at hn
      rw [ih b ha.2 hb.2 hl' (by omega), show x = y from by omega]
/-- The digits of a number, without noughts ahead. -/
def dg (n : Nat) : List Int := if h : n = 0 then [] else dg (n / 10) ++ [((n % 10 : Nat) : Int)]
termination_by n
decreasing_by omega
theorem dg_zero : dg 0 = [] := by rw [dg]; simp
theorem dg_pos (n : Nat) (h : n ≠ 0) : dg n = dg (n / 10) ++ [((n % 10 : Nat) : Int)] := by rw [dg]; simp [h]
theorem num_dg (n : Nat) : num (dg n) = n := by
  induction n using Nat.strongRecOn with
  | ind n ih =>
    by_cases h : n = 0
    · subst h; rw [dg_zero]; rfl
    · rw [dg_pos n h, num_snoc, ih _ (by omega)]; omega
theorem okD_dg (n : Nat) : okD (dg n) := by
  induction n using Nat.strongRecOn with
  | ind n ih =>
    by_cases h : n = 0
    · subst h; rw [dg_zero]; exact okD_nil
    · rw [dg_pos n h, okD_append]
      refine ⟨ih _ (by omega), ?_⟩
      rw [okD_cons]
      exact ⟨by omega, okD_nil⟩
theorem dg_head (n : Nat) : dg n = [] ∨ ∃ d r, dg n = d :: r ∧ d ≠ 0 := by
  induction n using Nat.strongRecOn with
  | ind n ih =>
    by_cases h : n = 0
    · subst h; exact .inl dg_zero
    · refine .inr ?_
      rcases ih (n / 10) (by omega) with h1 | ⟨d, r, h1, h2⟩
      · have h3 := num_dg (n / 10)
        rw [h1, num_nil] at h3
        refine ⟨_, [], by rw [dg_pos n h, h1]; rfl, by omega⟩
      · exact ⟨d, r ++ [((n % 10 : Nat) : Int)], by rw [dg_pos n h, h1]; rfl, h2⟩
theorem trim_dg (n : Nat) : trimL (dg n) = dg n := by
  rcases dg_head n with h | ⟨d, r, h, hd⟩
  · rw [h]; rfl
  · rw [h]; unfold trimL; rw [List.dropWhile_cons_of_neg (by simpa using hd)]
theorem len_lt (a b : List Int) (ha : okD a) (hb : okD b) (ht : b = [] ∨ ∃ d r, b = d :: r ∧ d ≠ 0) (hl : a.length < b.length) : num a < num b := by
  rcases ht with rfl | ⟨d, r, rfl, hd⟩
  · simp at hl
  · have h1 := num_lt a ha
    have h2 := num_ge d r hb hd
    have h3 : 10 ^ a.length ≤ 10 ^ r.length := Nat.pow_le_pow_right (by omega) (by simp at hl; omega)
    omega
/-- Two lists of digits without noughts ahead that read one number are one. -/
theorem trim_one (a b : List Int) (ha : okD a) (hb : okD b) (h : num a = num b) : trimL a = trimL b := by
  have h1 := num_trim a
  have h2 := num_trim b
  refine same_len _ _ (okD_trim ha) (okD_trim hb) ?_ (by omega)
  rcases Nat.lt_trichotomy (trimL a).length (trimL b).length with h3 | h3 | h3
  · have := len_lt _ _ (okD_trim ha) (okD_trim hb) (trim_head b) h3; omega
  · exact h3
  · have := len_lt _ _ (okD_trim hb) (okD_trim ha) (trim_head a) h3; omega
theorem trim_eq (l : List Int) (h : okD l) : trimL l = dg (num l) := by
  have := trim_one l (dg (num l)) h (okD_dg _) (num_dg _).symm
  rwa [trim_dg] at this
theorem trim_num {l : List Int} {n : Nat} (h : okD l) (hn : num l = n) : trimL l = dg n := by rw [trim_eq l h, hn]
/-- The first digit that is another one decides. -/
theorem dif_lt (p r s : List Int) (x y : Int) (hr : okD r) (hs : okD s) (hl : r.length = s.length) (hx : 0 ≤ x) (hxy : x < y) : num (p ++ x :: r) < num (p ++ y :: s) := by
  rw [num_append, num_append, num_cons, num_cons, List.length_cons, List.length_cons, hl]
  have h1 := num_lt r hr
  rw [hl] at h1
  have := Nat.mul_le_mul_right (10 ^ s.length) (show x.toNat + 1 ≤ y.toNat from by omega)
  rw [Nat.add_mul] at this
  omega
theorem dg_len_le (a b : Nat) (h : a ≤ b) : (dg a).length ≤ (dg b).length := by
  rcases Nat.lt_or_ge (dg b).length (dg a).length with h1 | h1
  · have := len_lt (dg b) (dg a) (okD_dg b) (okD_dg a) (dg_head a) h1
    rw [num_dg, num_dg] at this; omega
  · exact h1
theorem dg_len (l : List Int) (h : okD l) : (dg (num l)).length ≤ l.length := by
  rw [← trim_eq l h]
  exact (List.dropWhile_sublist _).length_le
theorem dg_len_lt (n k : Nat) (h : n < 10 ^ k) : (dg n).length ≤ k := by
  rcases Nat.lt_or_ge k (dg n).length with h1 | h1
  · rcases dg_head n with h2 | ⟨d, r, h2, hd⟩
    · rw [h2] at h1; simp at h1
    · have h3 := num_dg n
      have h4 := okD_dg n
      rw [h2] at h3 h4 h1
      have h5 := num_ge d r h4 hd
      have h6 : 10 ^ k ≤ 10 ^ r.length := Nat.pow_le_pow_right (by omega) (by simp at h1; omega)
      omega
  · exact h1
/-- The last digits, from a place on. -/
theorem num_drop (l : List Int) (k : Nat) (hk : k < l.length) : num (l.drop k) = (l.getD k 0).toNat * 10 ^ (l.length - 1 - k) + num (l.drop (k + 1)) := by
  rw [List.drop_eq_getElem_cons hk, num_cons, List.getD_eq_getElem?_getD, List.getElem?_eq_getElem hk, List.length_drop, Option.getD_some]
  rw [show l.length - (k + 1) = l.length - 1 - k from by omega]
theorem num_zeros (l : List Int) (n : Nat) : num (l ++ List.replicate n 0) = num l * 10 ^ n := by
  induction n with
  | zero => simp
  | succ n ih => rw [List.replicate_succ', ← List.append_assoc, num_snoc, ih, Nat.pow_succ]; simp; rw [Nat.mul_comm 10, Nat.mul_assoc]
theorem num_mod2 (l : List Int) (d : Int) : num (l ++ [d]) % 2 = d.toNat % 2 := by rw [num_snoc]; omega
/-- The digit at a place from the end on (0: there is none), and the last digits. -/
def dgt (l : List Int) (i : Nat) : Int := if i < l.length then l.getD (l.length - 1 - i) 0 else 0
def lastN (i : Nat) (l : List Int) : List Int := l.drop (l.length - i)
theorem dgt_bd (l : List Int) (h : okD l) (i : Nat) : 0 ≤ dgt l i ∧ dgt l i ≤ 9 := by
  unfold dgt
  split
  · have hk : l.length - 1 - i < l.length := by omega
    rw [List.getD_eq_getElem?_getD, List.getElem?_eq_getElem hk]
    exact h _ (List.getElem_mem hk)
  · omega
theorem last_zero (l : List Int) : num (lastN 0 l) = 0 := by unfold lastN; rw [Nat.sub_zero, List.drop_length]; rfl
theorem last_all (l : List Int) (i : Nat) (h : l.length ≤ i) : lastN i l = l := by unfold lastN; rw [show l.length - i = 0 from by omega]; rfl
theorem last_step (l : List Int) (i : Nat) : num (lastN (i + 1) l) = (dgt l i).toNat * 10 ^ i + num (lastN i l) := by
  unfold lastN dgt
  by_cases h : i < l.length
  · rw [if_pos h, num_drop l (l.length - (i + 1)) (by omega)]
    rw [show l.length - 1 - (l.length - (i + 1)) = i from by omega, show l.length - (i + 1) + 1 = l.length - i from by omega, show l.length - 1 - i = l.length - (i + 1) from by omega]
  · rw [if_neg h, show l.length - (i + 1) = 0 from by omega, show l.length - i = 0 from by omega]; simp
/-- One step of adding, of taking away, of so many times, as at school. -/
theorem add_step (A B p o x y v : Nat) (h : o + v * p = A + B) : (x + y + v) % 10 * p + o + (x + y + v) / 10 * (p * 10) = x * p + A + (y * p + B) := by
  have h1 := Nat.div_add_mod (x + y + v) 10
  have h2 : (x + y + v) % 10 * p + (x + y + v) / 10 * (p * 10) = (x + y + v) * p := by
    rw [Nat.mul_comm p 10, ← Nat.mul_assoc, ← Nat.add_mul]
    congr 1; omega
  have h3 : (x + y + v) * p = x * p + y * p + v * p := by rw [Nat.add_mul, Nat.add_mul]
  omega
theorem sub_step (A B p o x y v n v2 : Nat) (h : o + B = A + v * p) (hn : n + y + v = x + v2 * 10) : n * p + o + (y * p + B) = x * p + A + v2 * (p * 10) := by
  have h1 := congrArg (· * p) hn
  simp only [Nat.add_mul] at h1
  rw [Nat.mul_assoc v2 10 p, Nat.mul_comm 10 p] at h1
  omega
theorem mul_step (A p o x n v : Nat) (h : o + v * p = n * A) : (x * n + v) % 10 * p + o + (x * n + v) / 10 * (p * 10) = n * (x * p + A) := by
  have h1 := Nat.div_add_mod (x * n + v) 10
  have h2 : (x * n + v) % 10 * p + (x * n + v) / 10 * (p * 10) = (x * n + v) * p := by
    rw [Nat.mul_comm p 10, ← Nat.mul_assoc, ← Nat.add_mul]
    congr 1; omega
  have h3 : (x * n + v) * p = n * (x * p) + v * p := by rw [Nat.add_mul, Nat.mul_comm x n, Nat.mul_assoc]
  rw [Nat.mul_add]
  omega
theorem over_step (p o v : Nat) : v % 10 * p + o + v / 10 * (p * 10) = o + v * p := by
  have h1 := Nat.div_add_mod v 10
  have h2 : v % 10 * p + v / 10 * (p * 10) = v * p := by
    rw [Nat.mul_comm p 10, ← Nat.mul_assoc, ← Nat.add_mul]
    congr 1; omega
  omega
end Go.Proofs.Ytagpofhencpliaa.Dm
