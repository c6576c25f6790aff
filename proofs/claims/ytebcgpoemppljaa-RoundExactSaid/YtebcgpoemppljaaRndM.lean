/- Rounding, mathematics: the two next numbers of a scale, which of them is nearer, which is taken. -/
import Derived.Test.YtebcgpoemppljaaRows
import Derived.Test.YtebcgpoemppljaaDigL
import Derived.Test.YtebcgpoemppljaaDecM
import Derived.Test.YtebcgpoemppljaaDecA
import Derived.Test.YtebcgpoemppljaaDecY
set_option linter.unusedVariables false
set_option linter.unusedSimpArgs false
namespace Go.Proofs.Ytebcgpoemppljaa
open Go.RowKit
namespace Rm
open Ep (sv sv_mul cmpD_at ad_sv sv_cg sv_inj sv_not)
/-- What is stripped ends in no nought, where it has a scale. -/
theorem st_last (M s : Nat) (h : (Dm.st M s).2 ≠ 0) : (Dm.st M s).1 % 10 ≠ 0 := by
  induction s generalizing M with
  | zero =>
    have := Dm.st_le M 0
    omega
  | succ s ih =>
    by_cases h0 : M % 10 = 0
    · rw [Dm.st_on M s h0] at h ⊢
      exact ih _ h
    · rw [Dm.st_end M s h0]; exact h0
/-- The next number of a scale that is no farther from 0: of A with the scale sa, stripped. -/
def lo (A sa n : Nat) : Nat := if sa ≤ n then A * 10 ^ (n - sa) else A / 10 ^ (sa - n)
/-- What lies behind it, and how much one of the last place is there. -/
def rs (A sa n : Nat) : Nat := if sa ≤ n then 0 else A % 10 ^ (sa - n)
def un (sa n : Nat) : Nat := 10 ^ (sa - n)
/-- Is the farther one of the two taken? -/
def up (g : Bool) (K r B : Nat) (m : Int) : Bool :=
  if m = 1 then true else if m = 2 then g else if m = 3 then !g else if m = 4 then decide (0 < Dm.cmpZ (r : Int) ((B - r : Nat) : Int)) else if m = 5 then decide (0 ≤ Dm.cmpZ (r : Int) ((B - r : Nat) : Int)) else if m = 6 then decide (0 < Dm.cmpZ (r : Int) ((B - r : Nat) : Int)) || (decide (Dm.cmpZ (r : Int) ((B - r : Nat) : Int) = 0) && decide (K % 2 = 1)) else false
/-- The number, rounded. -/
def rk (g : Bool) (A sa n : Nat) (m : Int) : Nat := if sa ≤ n then lo A sa n else if up g (lo A sa n) (rs A sa n) (un sa n) m = true then lo A sa n + 1 else lo A sa n
theorem rs_pos {A sa n : Nat} (h : n < sa) (hA : A % 10 ≠ 0) : 0 < rs A sa n := by
  unfold rs
  rw [if_neg (by omega)]
  obtain ⟨k, hk⟩ : ∃ k, sa - n = k + 1 := ⟨sa - n - 1, by omega⟩
  rw [hk]
  by_cases h0 : A % 10 ^ (k + 1) = 0
  · exfalso
    have h1 : 10 ∣ 10 ^ (k + 1) := ⟨10 ^ k, by rw [Nat.pow_succ, Nat.mul_comm]⟩
    have h2 : 10 ∣ A := Nat.dvd_trans h1 (Nat.dvd_of_mod_eq_zero h0)
    exact hA (Nat.mod_eq_zero_of_dvd h2)
  · omega
theorem rs_lt {A sa n : Nat} (h : n < sa) : rs A sa n < un sa n := by
  unfold rs un
  rw [if_neg (by omega)]
  exact Nat.mod_lt _ (Nat.pow_pos (by omega))
theorem lo_rs {A sa n : Nat} (h : n < sa) : lo A sa n * un sa n + rs A sa n = A := by
  unfold lo rs un
  rw [if_neg (by omega), if_neg (by omega), Nat.mul_comm]
  exact Nat.div_add_mod _ _
/-- In a scale that has room for both: the number and the next one. -/
theorem at_scale {A sa n N : Nat} (h : n < sa) (hN : sa ≤ N) : lo A sa n * 10 ^ (N - n) + rs A sa n * 10 ^ (N - sa) = A * 10 ^ (N - sa) ∧ 10 ^ (N - n) = un sa n * 10 ^ (N - sa) := by
  have h1 : 10 ^ (N - n) = un sa n * 10 ^ (N - sa) := by
    unfold un
    rw [← Nat.pow_add, show sa - n + (N - sa) = N - n from by omega]
  refine ⟨?_, h1⟩
  have h2 := lo_rs (A := A) h
  rw [h1, ← Nat.mul_assoc, ← Nat.add_mul, h2]
theorem at_exact {A sa n N : Nat} (h : sa ≤ n) (hN : n ≤ N) : lo A sa n * 10 ^ (N - n) = A * 10 ^ (N - sa) := by
  unfold lo
  rw [if_pos h, Nat.mul_assoc, ← Nat.pow_add, show n - sa + (N - n) = N - sa from by omega]
theorem cmpZ_zero {x y : Int} : Dm.cmpZ x y = 0 ↔ x = y := by
  unfold Dm.cmpZ
  constructor
  · intro h
    split at h
    · omega
    · split at h <;> omega
  · rintro rfl
    exact Dm.cmpZ_eq rfl
theorem st_scale (M s N : Nat) (h : s ≤ N) : (Dm.st M s).1 * 10 ^ (N - (Dm.st M s).2) = M * 10 ^ (N - s) := by
  have h1 := Dm.st_num M s
  have h2 := Dm.st_le M s
  calc (Dm.st M s).1 * 10 ^ (N - (Dm.st M s).2) = (Dm.st M s).1 * (10 ^ (s - (Dm.st M s).2) * 10 ^ (N - s)) := by rw [← Nat.pow_add, show s - (Dm.st M s).2 + (N - s) = N - (Dm.st M s).2 from by omega]
    _ = M * 10 ^ (N - s) := by rw [← Nat.mul_assoc, h1]
/-- A number is one of the scale just where the next one is the same. -/
theorem near_cmp (g : Bool) (M s n : Nat) : Dm.cmpD (Dm.cg g (lo (Dm.st M s).1 (Dm.st M s).2 n)) (lo (Dm.st M s).1 (Dm.st M s).2 n) n g M s = 0 ↔ (Dm.st M s).2 ≤ n := by
  rw [cmpD_at _ _ _ _ _ _ (max n s) (by omega) (by omega), cmpZ_zero]
  have e := st_scale M s (max n s) (by omega)
  have hl := st_last M s
  have hz := Dm.st_le M s
  rw [← e]
  generalize (Dm.st M s).1 = A at *
  generalize (Dm.st M s).2 = sa at *
  by_cases h : sa ≤ n
  · have h1 := at_exact (A := A) (N := max n s) h (by omega)
    refine ⟨fun _ => h, fun _ => ?_⟩
    rw [← sv_mul, sv_cg, sv_mul, h1]
  · refine ⟨fun e1 => ?_, fun h2 => absurd h2 h⟩
    exfalso
    have h1 := (at_scale (A := A) (sa := sa) (n := n) (N := max n s) (by omega) (by omega)).1
    have h2 := rs_pos (A := A) (sa := sa) (n := n) (by omega) (hl (by omega))
    have h3 : 0 < rs A sa n * 10 ^ (max n s - sa) := Nat.mul_pos h2 (Nat.pow_pos (by omega))
    rw [← sv_mul, sv_cg, sv_mul] at e1
    have := (sv_inj e1).1
    omega
/-- One of the last place more. -/
theorem sum_eq (g : Bool) (K : Nat) : Dm.adM (Dm.cg g K) K g 1 = K + 1 ∧ Dm.cg (Dm.adG (Dm.cg g K) K g 1) (Dm.adM (Dm.cg g K) K g 1) = g := by
  have e := ad_sv (Dm.cg g K) K g 1
  rw [sv_cg] at e
  have e2 : sv g K + sv g 1 = sv g (K + 1) := by unfold sv; cases g <;> simp <;> omega
  rw [e2] at e
  obtain ⟨h1, h2⟩ := sv_inj e
  refine ⟨h1, ?_⟩
  rw [h2]
  exact Dm.cg_pos (by omega)
theorem align_eq (M n : Nat) : (Dm.st (Dm.st M n).1 (Dm.st M n).2).1 * 10 ^ (n - (Dm.st (Dm.st M n).1 (Dm.st M n).2).2) = M := by
  rw [Dm.st_trim]
  exact Dm.st_num M n
/-- How far a number is from the next one, and that from it. -/
theorem from_eq {g : Bool} {X Y : Nat} (h : Y ≤ X) : Dm.adM g X (!(Dm.cg g Y)) Y = X - Y := by
  by_cases h0 : Y = 0
  · subst h0
    unfold Dm.adM Dm.cg
    cases g <;> simp
  · rw [Dm.cg_pos h0]
    unfold Dm.adM
    rw [if_neg (by cases g <;> simp), if_neg (by omega)]
theorem to_eq {g : Bool} {X Y : Nat} (h : Y ≤ X) : Dm.adM g X (!g) Y = X - Y := by
  unfold Dm.adM
  rw [if_neg (by cases g <;> simp), if_neg (by omega)]
/-- Which of the two next ones is nearer. -/
theorem half_eq (F T N : Nat) : Dm.cmpD false (Dm.st F N).1 (Dm.st F N).2 false (Dm.st T N).1 (Dm.st T N).2 = Dm.cmpZ (F : Int) (T : Int) := by
  rw [cmpD_at _ _ _ _ _ _ N (Dm.st_le _ _) (Dm.st_le _ _), Dm.st_num, Dm.st_num]
  rfl
theorem cmpZ_scale (x y p : Nat) (hp : 0 < p) : Dm.cmpZ ((x * p : Nat) : Int) ((y * p : Nat) : Int) = Dm.cmpZ (x : Int) (y : Int) := Dm.cmpZ_mul x y p hp
theorem num_cut (l : List Int) (h : Dm.okD l) (k : Nat) : Dm.num (Dm.shl l (-(k : Int))) = Dm.num l / 10 ^ k ∧ Dm.okD (Dm.shl l (-(k : Int))) := by
  have e : Dm.shl l (-(k : Int)) = l.take (l.length - k) := by
    unfold Dm.shl
    rw [show (-(k : Int)).toNat = 0 from by omega, List.replicate_zero, List.append_nil]
    congr 1
    omega
  rw [e]
  refine ⟨?_, Dm.okD_take h _⟩
  have h1 := Dm.num_append (l.take (l.length - k)) (l.drop (l.length - k))
  rw [List.take_append_drop] at h1
  have h2 := Dm.num_lt _ (Dm.okD_drop h (l.length - k))
  have h3 : (l.drop (l.length - k)).length = min k l.length := by rw [List.length_drop]; omega
  rw [h3] at h1 h2
  by_cases hk : k ≤ l.length
  · rw [show min k l.length = k from by omega] at h1 h2
    rw [h1]
    have hp : 0 < 10 ^ k := Nat.pow_pos (by omega)
    rw [Nat.mul_comm, Nat.mul_add_div hp, Nat.div_eq_of_lt h2, Nat.add_zero]
  · have h4 := Dm.num_lt l h
    have h5 : 10 ^ l.length ≤ 10 ^ k := Nat.pow_le_pow_right (by omega) (by omega)
    rw [show l.length - k = 0 from by omega, List.take_zero, Nat.div_eq_of_lt (by omega)]
    rfl
theorem num_to (A sa n : Nat) : Dm.num (Dm.shl (Dm.dg A) ((n : Int) - (sa : Int))) = lo A sa n ∧ Dm.okD (Dm.shl (Dm.dg A) ((n : Int) - (sa : Int))) := by
  unfold lo
  by_cases h : sa ≤ n
  · rw [if_pos h, show (n : Int) - (sa : Int) = ((n - sa : Nat) : Int) from by omega, Dm.shl_pos]
    refine ⟨by rw [Dm.num_zeros, Dm.num_dg], Dm.okD_append.2 ⟨Dm.okD_dg _, fun d hd => by have := List.eq_of_mem_replicate hd; omega⟩⟩
  · rw [if_neg h, show (n : Int) - (sa : Int) = -((sa - n : Nat) : Int) from by omega]
    have := num_cut (Dm.dg A) (Dm.okD_dg _) (sa - n)
    rwa [Dm.num_dg] at this
theorem lo_zero (sa n : Nat) : lo 0 sa n = 0 := by
  unfold lo
  split
  · rw [Nat.zero_mul]
  · rw [Nat.zero_div]
end Rm
end Go.Proofs.Ytebcgpoemppljaa
