/- Decimals as plain mathematics: a number of which so many digits stand behind the point, and the trim one of it. -/
import Derived.Test.YtagpofhencpliaaRows
import Derived.Test.YtagpofhencpliaaDigM
import Derived.Test.YtagpofhencpliaaDigL
set_option linter.unusedVariables false
set_option linter.unusedSimpArgs false
namespace Go.Proofs.Ytagpofhencpliaa.Dm
/-- Noughts at the end struck, as many as stand behind the point at most. -/
def st : Nat → Nat → Nat × Nat
  | M, 0 => (M, 0)
  | M, s + 1 => if M % 10 = 0 then st (M / 10) s else (M, s + 1)
theorem st_zero (s : Nat) : st 0 s = (0, 0) := by
  induction s with
  | zero => rfl
  | succ s ih => rw [st, if_pos rfl]; exact ih
theorem st_on (M s : Nat) (h : M % 10 = 0) : st M (s + 1) = st (M / 10) s := by rw [st, if_pos h]
theorem st_end (M s : Nat) (h : M % 10 ≠ 0) : st M (s + 1) = (M, s + 1) := by rw [st, if_neg h]
theorem st_ten (M s : Nat) : st (M * 10) (s + 1) = st M s := by rw [st_on _ _ (by omega), show M * 10 / 10 = M from by omega]
theorem st_tens (M s k : Nat) : st (M * 10 ^ k) (s + k) = st M s := by
  induction k with
  | zero => simp
  | succ k ih =>
    rw [Nat.pow_succ, ← Nat.mul_assoc, show s + (k + 1) = (s + k) + 1 from by omega, st_ten, ih]
theorem st_le (M s : Nat) : (st M s).2 ≤ s := by
  induction s generalizing M with
  | zero => exact Nat.le_refl _
  | succ s ih =>
    rw [st]; split
    · exact Nat.le_succ_of_le (ih _)
    · exact Nat.le_refl _
theorem st_num (M s : Nat) : (st M s).1 * 10 ^ (s - (st M s).2) = M := by
  induction s generalizing M with
  | zero => simp [st]
  | succ s ih =>
    by_cases h : M % 10 = 0
    · rw [st_on M s h]
      have h1 := ih (M / 10)
      have h2 := st_le (M / 10) s
      rw [show s + 1 - (st (M / 10) s).2 = (s - (st (M / 10) s).2) + 1 from by omega, Nat.pow_succ, ← Nat.mul_assoc, h1]
      omega
    · rw [st_end M s h]; simp
theorem st_trim (M s : Nat) : st (st M s).1 (st M s).2 = st M s := by
  induction s generalizing M with
  | zero => rfl
  | succ s ih =>
    by_cases h : M % 10 = 0
    · rw [st_on M s h]; exact ih _
    · rw [st_end M s h, st_end M s h]
theorem st_pos (M s : Nat) (h : M ≠ 0) : (st M s).1 ≠ 0 := by
  intro h0
  have := st_num M s
  rw [h0] at this
  omega
theorem st_eq0 (M s : Nat) : (st M s).1 = 0 ↔ M = 0 := by
  constructor
  · intro h
    rcases Nat.eq_zero_or_pos M with h1 | h1
    · exact h1
    · exact absurd h (st_pos M s (by omega))
  · intro h; rw [h, st_zero]
/-- The sign: none of 0. -/
def cg (g : Bool) (M : Nat) : Bool := if M = 0 then false else g
theorem cg_zero (g : Bool) : cg g 0 = false := rfl
theorem cg_pos {g : Bool} {M : Nat} (h : M ≠ 0) : cg g M = g := if_neg h
theorem cg_st (g : Bool) (M s : Nat) : cg g (st M s).1 = cg g M := by
  unfold cg
  by_cases h : M = 0
  · rw [if_pos h, if_pos ((st_eq0 M s).2 h)]
  · rw [if_neg h, if_neg (st_pos M s h)]
theorem cg_cg (g : Bool) (M : Nat) : cg (cg g M) M = cg g M := by unfold cg; split <;> rfl
theorem dg_last (M : Nat) (h : M ≠ 0) : (dg M).length = (dg (M / 10)).length + 1 ∧ (dg M).getD ((dg M).length - 1) 0 = ((M % 10 : Nat) : Int) ∧ (dg M).take ((dg M).length - 1) = dg (M / 10) := by
  have h1 := dg_pos M h
  have hl : (dg M).length = (dg (M / 10)).length + 1 := by rw [h1, List.length_append]; rfl
  refine ⟨hl, ?_, ?_⟩
  · rw [hl, Nat.add_sub_cancel, List.getD_eq_getElem?_getD]
    conv => lhs; rw [h1]
    rw [List.getElem?_append_right (Nat.le_refl _), Nat.sub_self]; rfl
  · rw [hl, Nat.add_sub_cancel]
    conv => lhs; rw [h1]
    simp
theorem dg_nil (M : Nat) : dg M = [] ↔ M = 0 := by
  constructor
  · intro h
    have := num_dg M
    rw [h, num_nil] at this
    exact this.symm
  · intro h; rw [h, dg_zero]
theorem cmpZ_mul (x y p : Nat) (hp : 0 < p) : cmpZ ((x * p : Nat) : Int) ((y * p : Nat) : Int) = cmpZ (x : Int) (y : Int) := by
  rcases Nat.lt_trichotomy x y with h | h | h
  · rw [cmpZ_lt (by have := Nat.mul_lt_mul_of_pos_right h hp; omega), cmpZ_lt (by omega)]
  · subst h; rw [cmpZ_eq rfl, cmpZ_eq rfl]
  · rw [cmpZ_gt (by have := Nat.mul_lt_mul_of_pos_right h hp; omega), cmpZ_gt (by omega)]
/-- Which of two numbers is greater, of which so many digits stand behind the point. -/
def cmpS (A sa B sb : Nat) : Int := cmpZ ((A * 10 ^ sb : Nat) : Int) ((B * 10 ^ sa : Nat) : Int)
theorem cmpS_at (A sa B sb n : Nat) (ha : sa ≤ n) (hb : sb ≤ n) : cmpZ ((A * 10 ^ (n - sa) : Nat) : Int) ((B * 10 ^ (n - sb) : Nat) : Int) = cmpS A sa B sb := by
  unfold cmpS
  rw [← cmpZ_mul (A * 10 ^ (n - sa)) (B * 10 ^ (n - sb)) (10 ^ (sa + sb)) (Nat.pow_pos (by omega)), ← cmpZ_mul (A * 10 ^ sb) (B * 10 ^ sa) (10 ^ n) (Nat.pow_pos (by omega))]
  rw [Nat.mul_assoc, Nat.mul_assoc, Nat.mul_assoc, Nat.mul_assoc, ← Nat.pow_add, ← Nat.pow_add, ← Nat.pow_add, ← Nat.pow_add]
  rw [show n - sa + (sa + sb) = sb + n from by omega, show n - sb + (sa + sb) = sa + n from by omega]
theorem cmpS_st (A sa B sb : Nat) : cmpS (st A sa).1 (st A sa).2 (st B sb).1 (st B sb).2 = cmpS A sa B sb := by
  have h1 := st_num A sa
  have h2 := st_num B sb
  have h3 := st_le A sa
  have h4 := st_le B sb
  unfold cmpS
  conv => rhs; rw [← h1, ← h2]
  rw [← cmpZ_mul ((st A sa).1 * 10 ^ (st B sb).2) ((st B sb).1 * 10 ^ (st A sa).2) (10 ^ (sa - (st A sa).2 + (sb - (st B sb).2))) (Nat.pow_pos (by omega))]
  rw [Nat.mul_assoc, Nat.mul_assoc, Nat.mul_assoc, Nat.mul_assoc, ← Nat.pow_add, ← Nat.pow_add, ← Nat.pow_add, ← Nat.pow_add]
  rw [show (st B sb).2 + (sa - (st A sa).2 + (sb - (st B sb).2)) = sa - (st A sa).2 + sb from by omega, show (st A sa).2 + (sa - (st A sa).2 + (sb - (st B sb).2)) = sb - (st B sb).2 + sa from by omega]
/-- .. with their signs. -/
def cmpD (g : Bool) (A sa : Nat) (h : Bool) (B sb : Nat) : Int :=
  if cg g A = cg h B then (if cg g A = true then - cmpS A sa B sb else cmpS A sa B sb) else (if cg g A = true then -1 else 1)
end Go.Proofs.Ytagpofhencpliaa.Dm
