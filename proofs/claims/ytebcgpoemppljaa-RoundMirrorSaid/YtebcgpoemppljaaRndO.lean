/- The program's rounding: its small functions, and the next decimal of a scale. -/
import Derived.Test.YtebcgpoemppljaaRows
import Derived.Test.YtebcgpoemppljaaDigL
import Derived.Test.YtebcgpoemppljaaDecM
import Derived.Test.YtebcgpoemppljaaInts
import Derived.Test.YtebcgpoemppljaaSto
import Derived.Test.YtebcgpoemppljaaDigW
import Derived.Test.YtebcgpoemppljaaDigV
import Derived.Test.YtebcgpoemppljaaDigX
import Derived.Test.YtebcgpoemppljaaDigZ
import Derived.Test.YtebcgpoemppljaaDigQ
import Derived.Test.YtebcgpoemppljaaDecR
import Derived.Test.YtebcgpoemppljaaDecS
import Derived.Test.YtebcgpoemppljaaDecP
import Derived.Test.YtebcgpoemppljaaDecQ
import Derived.Test.YtebcgpoemppljaaDecJ
import Derived.Test.YtebcgpoemppljaaDecK
import Derived.Test.YtebcgpoemppljaaRndM
import Derived.Test.YtebcgpoemppljaaRndN
import Derived.Deep.QuietTactic
import Derived.Deep.RegionWith
import Derived.Deep.RegionHeld3
import Derived.BigQuiet
import Derived.Laws.ResultCell
set_option linter.unusedVariables false
set_option linter.unusedSimpArgs false
namespace Go.Proofs.Ytebcgpoemppljaa
open Go.RowKit
namespace Rq
open Er (dv cellV LF LF.of LF.nil LF.mono LF.q LF.put LF.shape LF.lst block_cells some_cells block_set wrapI)
open Ep (SD SD.of SD.q SD.start SD.put SD.room SD.here SD.reset ret_dv ret_dv2)
/-- Which of two next decimals is taken, as the program tells it. -/
def far (m : Int) (g od : Bool) (c : Int) : Bool :=
  if m = 1 then true else if m = 2 then g else if m = 3 then !g else if m = 4 then decide (0 < c) else if m = 5 then decide (0 ≤ c) else if m = 6 then decide (0 < c) || (decide (c = 0) && od) else false
theorem far_up (g : Bool) (K r B : Nat) (m : Int) : Rm.up g K r B m = far m g (decide (K % 2 = 1)) (Dm.cmpZ (r : Int) ((B - r : Nat) : Int)) := rfl
theorem rk_code (g : Bool) (M s n : Nat) (m : Int) (h : n < (Dm.st M s).2) : Rm.rk g (Dm.st M s).1 (Dm.st M s).2 n m = (if Rm.up g (M / 10 ^ (s - n)) (M % 10 ^ (s - n)) (10 ^ (s - n)) m = true then M / 10 ^ (s - n) + 1 else M / 10 ^ (s - n)) ∧ 0 < M % 10 ^ (s - n) := by
  have hz := Dm.st_le M s
  have hl := Rm.st_last M s
  have e := Rm.st_scale M s s (Nat.le_refl _)
  have hr := Rm.rk_at g M s n s m (by omega) (Nat.le_refl _)
  have hpos : 0 < M % 10 ^ (s - n) := by
    rw [Nat.sub_self, Nat.pow_zero, Nat.mul_one] at e
    rw [← e]
    generalize (Dm.st M s).1 = A at *
    generalize (Dm.st M s).2 = sa at *
    have h3 := (Rm.at_scale (A := A) (sa := sa) (n := n) (N := s) (by omega) (by omega)).1
    have h4 := (Rm.at_scale (A := A) (sa := sa) (n := n) (N := s) (by omega) (by omega)).2
    have h5 := Rm.rs_pos (A := A) (sa := sa) (n := n) (by omega) (hl (by omega))
    have h6 := Rm.rs_lt (A := A) (sa := sa) (n := n) (by omega)
    have hp : 0 < 10 ^ (s - sa) := Nat.pow_pos (by omega)
    rw [← h3]
    generalize Rm.lo A sa n = K at *
    generalize Rm.rs A sa n = r at *
    generalize Rm.un sa n = B at *
    generalize 10 ^ (s - sa) = p at *
    generalize 10 ^ (s - n) = P at *
    have h7 : r * p < P := by rw [h4]; exact Nat.mul_lt_mul_of_pos_right h6 hp
    have h8 : 0 < r * p := Nat.mul_pos h5 hp
    have h9 : (K * P + r * p) % P = r * p := by rw [Nat.mul_comm, Nat.mul_add_mod, Nat.mod_eq_of_lt h7]
    omega
  refine ⟨?_, hpos⟩
  rw [hr, Nat.sub_self, Nat.pow_zero, Nat.mul_one]
  unfold Rm.rr
  rw [if_neg (by omega)]
/-- The digits that are cut off, held against the middle. -/
theorem side_eq (L : List Int) (h : Dm.okD L) (k : Nat) : Dm.num (L.drop (L.length - (k + 1))) = Dm.num L % 10 ^ (k + 1) ∧ Dm.num (Dm.shl [5] ((k : Nat) : Int)) = 5 * 10 ^ k ∧ Dm.cmpZ ((Dm.num L % 10 ^ (k + 1) : Nat) : Int) ((5 * 10 ^ k : Nat) : Int) = Dm.cmpZ ((Dm.num L % 10 ^ (k + 1) : Nat) : Int) ((10 ^ (k + 1) - Dm.num L % 10 ^ (k + 1) : Nat) : Int) := by
  have hc := (Rm.num_cut L h (k + 1)).1
  have e : Dm.shl L (-((k + 1 : Nat) : Int)) = L.take (L.length - (k + 1)) := by
    unfold Dm.shl
    rw [show (-((k + 1 : Nat) : Int)).toNat = 0 from by omega, List.replicate_zero, List.append_nil]
    congr 1
    omega
  rw [e] at hc
  have h1 := Dm.num_append (L.take (L.length - (k + 1))) (L.drop (L.length - (k + 1)))
  rw [List.take_append_drop, hc] at h1
  have h2 := Dm.num_lt _ (Dm.okD_drop h (L.length - (k + 1)))
  have h3 : (L.drop (L.length - (k + 1))).length = min (k + 1) L.length := by rw [List.length_drop]; omega
  rw [h3] at h1 h2
  refine ⟨?_, ?_, ?_⟩
  · by_cases hk : k + 1 ≤ L.length
    · rw [show min (k + 1) L.length = k + 1 from by omega] at h1 h2
      have h4 := Nat.div_add_mod (Dm.num L) (10 ^ (k + 1))
      rw [Nat.mul_comm] at h4
      omega
    · have h4 := Dm.num_lt L h
      have h5 : 10 ^ L.length ≤ 10 ^ (k + 1) := Nat.pow_le_pow_right (by omega) (by omega)
      rw [Nat.mod_eq_of_lt (by omega), show L.length - (k + 1) = 0 from by omega, List.drop_zero]
  · rw [Dm.shl_pos, Dm.num_zeros]
    rfl
  · have h4 : Dm.num L % 10 ^ (k + 1) < 10 ^ (k + 1) := Nat.mod_lt _ (Nat.pow_pos (by omega))
    have h5 : 10 ^ (k + 1) = 10 * 10 ^ k := by rw [Nat.pow_succ, Nat.mul_comm]
    unfold Dm.cmpZ
    generalize Dm.num L % 10 ^ (k + 1) = r at *
    generalize 10 ^ (k + 1) = P at *
    generalize 10 ^ k = Q at *
    split <;> split <;> (try split) <;> (try split) <;> omega
theorem odd_eq (l : List Int) (h : Dm.okD l) : (Dm.dgt l 0 % 2 == 1) = decide (Dm.num l % 2 = 1) := by
  have h1 := Dm.dgt_even l h
  by_cases h2 : Dm.num l % 2 = 1
  · rw [decide_eq_true h2, beq_iff_eq]; omega
  · rw [decide_eq_false h2, beq_eq_false_iff_ne]; omega
theorem mayMode_any (m : Int) (w : World) (hm : -9223372036854775808 ≤ m ∧ m ≤ 9223372036854775807) :
    Calls Try.prog 33 #[.int .i64 m] w fun e w' => e = .returned (.bool (decide (0 ≤ m) && decide (m ≤ 6))) ∧ w = w' := by
  obtain ⟨hs1, hs2⟩ := hm
  by_cases h1 : 0 ≤ m
  · by_cases h2 : m ≤ 6
    · go_enter Try.func33, Try.ntmps33
      go_wp2_with fail
      go_ret
      exact ⟨retB (by simp [h1, h2]), rfl⟩
    · have h3 : 6 < m := by omega
      go_enter Try.func33, Try.ntmps33
      go_wp2_with fail
      go_ret
      exact ⟨retB (by simp [h1]; omega), rfl⟩
  · have h3 : m < 0 := by omega
    go_enter Try.func33, Try.ntmps33
    go_wp2_with fail
    go_ret
    exact ⟨retB (by simp; omega), rfl⟩
set_option maxHeartbeats 1600000 in
theorem farther_any (m : Int) (g od : Bool) (c : Int) (w : World) (hm : 0 ≤ m ∧ m ≤ 6) (hc : c = -1 ∨ c = 0 ∨ c = 1) :
    Calls Try.prog 52 #[.int .i64 m, .bool g, .bool od, .int .i64 c] w fun e w' => e = .returned (.bool (far m g od c)) ∧ w = w' := by
  rcases (show m = 0 ∨ m = 1 ∨ m = 2 ∨ m = 3 ∨ m = 4 ∨ m = 5 ∨ m = 6 from by omega) with rfl | rfl | rfl | rfl | rfl | rfl | rfl
  all_goals
    rcases hc with rfl | rfl | rfl
    all_goals
      go_enter Try.func52, Try.ntmps52
      go_wp2_with fail
      go_ret
      exact ⟨rfl, rfl⟩
end Rq
end Go.Proofs.Ytebcgpoemppljaa
