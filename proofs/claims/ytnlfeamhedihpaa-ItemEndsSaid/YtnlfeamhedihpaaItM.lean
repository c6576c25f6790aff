/- Where groups end among digits, and how many, as plain mathematics. -/
import Derived.Test.YtnlfeamhedihpaaRows
set_option linter.unusedVariables false
set_option linter.unusedSimpArgs false
namespace Go.Proofs.Ytnlfeamhedihpaa
namespace Im

/-- Whether a group ends where so many digits are behind. -/
def endB (l p s : Int) : Bool := decide (1 ≤ p ∧ p ≤ l) && (decide (l = p) || (decide (0 < s) && decide ((l - p) % s = 0)))
/-- How many groups end among so many digits. -/
def grp (n p s : Int) : Int := if p < 1 ∨ n ≤ p then 0 else if s < 1 then 1 else 1 + (n - 1 - p) / s
def cntE (p s : Int) (n : Nat) : Nat := (List.range n).countP fun i : Nat => endB i p s
theorem cntE_zero (p s : Int) : cntE p s 0 = 0 := rfl
theorem cntE_succ (p s : Int) (n : Nat) : cntE p s (n + 1) = cntE p s n + if endB n p s = true then 1 else 0 := by
  unfold cntE
  rw [List.range_succ, List.countP_append, List.countP_singleton]
theorem cntE_le (p s : Int) (n : Nat) : cntE p s n ≤ n := by
  unfold cntE
  have h := List.countP_le_length (p := fun i : Nat => endB i p s) (l := List.range n)
  rwa [List.length_range] at h
theorem div_step (m s : Int) (hm : 1 ≤ m) (hs : 1 ≤ s) : m / s = (m - 1) / s + (if m % s = 0 then 1 else 0) := by
  obtain ⟨a, ha⟩ : ∃ a : Nat, m = (a : Int) + 1 := ⟨(m - 1).toNat, by omega⟩
  obtain ⟨b, hb⟩ : ∃ b : Nat, s = (b : Int) := ⟨s.toNat, by omega⟩
  have h : (a + 1) / b = a / b + if b ∣ a + 1 then 1 else 0 := Nat.succ_div
  have e1 : m / s = (((a + 1) / b : Nat) : Int) := by rw [ha, hb]; simp
  have e2 : (m - 1) / s = ((a / b : Nat) : Int) := by rw [ha, hb, show (a : Int) + 1 - 1 = (a : Int) from by omega]; simp
  have e3 : m % s = (((a + 1) % b : Nat) : Int) := by rw [ha, hb]; simp
  rw [e1, e2, e3, h]
  by_cases hd : b ∣ a + 1
  · rw [if_pos hd, if_pos (by rw [Nat.mod_eq_zero_of_dvd hd]; rfl)]
    simp
  · rw [if_neg hd, if_neg (by intro h2; exact hd (Nat.dvd_of_mod_eq_zero (by omega)))]
    simp
theorem grp_none {n p s : Int} (h : p < 1 ∨ n ≤ p) : grp n p s = 0 := by unfold grp; rw [if_pos h]
theorem grp_one {n p s : Int} (h : 1 ≤ p) (h2 : p < n) (h3 : s < 1) : grp n p s = 1 := by unfold grp; rw [if_neg (by omega), if_pos h3]
theorem grp_many {n p s : Int} (h : 1 ≤ p) (h2 : p < n) (h3 : 1 ≤ s) : grp n p s = 1 + (n - 1 - p) / s := by unfold grp; rw [if_neg (by omega), if_neg (by omega)]
theorem endB_out {l p s : Int} (h : p < 1 ∨ l < p) : endB l p s = false := by
  unfold endB
  rw [show decide (1 ≤ p ∧ p ≤ l) = false from decide_eq_false (by omega)]
  rfl
theorem endB_at {p s : Int} (h : 1 ≤ p) : endB p p s = true := by
  unfold endB
  rw [show decide (1 ≤ p ∧ p ≤ p) = true from decide_eq_true (by omega)]
  simp
theorem endB_no {l p s : Int} (h2 : l ≠ p) (h3 : s < 1) : endB l p s = false := by
  unfold endB
  rw [decide_eq_false h2, show decide (0 < s) = false from decide_eq_false (by omega)]
  simp
theorem endB_far {l p s : Int} (h : 1 ≤ p) (h2 : p < l) (h3 : 1 ≤ s) : endB l p s = decide ((l - p) % s = 0) := by
  unfold endB
  rw [decide_eq_false (show ¬ l = p by omega), show decide (0 < s) = true from decide_eq_true (by omega), show decide (1 ≤ p ∧ p ≤ l) = true from decide_eq_true (by omega)]
  simp
theorem grp_step (n p s : Int) (h0 : 0 ≤ n) (hp : 0 ≤ p) : grp (n + 1) p s = grp n p s + (if endB n p s = true then 1 else 0) := by
  by_cases h1 : p < 1
  · rw [grp_none (.inl h1), grp_none (.inl h1), endB_out (.inl h1)]; simp
  · by_cases h2 : n < p
    · rw [grp_none (.inr (by omega)), grp_none (.inr (by omega)), endB_out (.inr h2)]; simp
    · by_cases h3 : n = p
      · subst h3
        rw [grp_none (n := n) (.inr (by omega)), endB_at (by omega)]
        by_cases h5 : s < 1
        · rw [grp_one (by omega) (by omega) h5]; simp
        · rw [grp_many (by omega) (by omega) (by omega), show n + 1 - 1 - n = 0 from by omega, Int.zero_ediv]; simp
      · by_cases h5 : s < 1
        · rw [grp_one (by omega) (by omega) h5, grp_one (by omega) (by omega) h5, endB_no h3 h5]; simp
        · rw [grp_many (by omega) (by omega) (by omega), grp_many (by omega) (by omega) (by omega), endB_far (by omega) (by omega) (by omega)]
          have h := div_step (n - p) s (by omega) (by omega)
          rw [show n + 1 - 1 - p = n - p from by omega, h, show n - p - 1 = n - 1 - p from by omega]
          by_cases h7 : (n - p) % s = 0
          · simp [h7]; omega
          · simp [h7]
theorem cntE_eq (p s : Int) (n : Nat) (hp : 0 ≤ p) : (cntE p s n : Int) = grp n p s := by
  induction n with
  | zero => rw [cntE_zero, grp_none (by omega)]; rfl
  | succ n ih =>
    rw [cntE_succ, show ((n + 1 : Nat) : Int) = (n : Int) + 1 from by omega, grp_step n p s (by omega) hp, ← ih]
    by_cases h : endB (n : Int) p s = true <;> simp [h]
theorem endB_low {l p s : Int} (h : l ≤ 0) : endB l p s = false := by
  unfold endB
  rw [show decide (1 ≤ p ∧ p ≤ l) = false from by simp; omega]
  rfl
theorem endB_none {l s : Int} : endB l 0 s = false := by unfold endB; simp
theorem grp_low {n p s : Int} (h : n ≤ 0) (hp : 0 ≤ p) : grp n p s = 0 := by unfold grp; rw [if_pos (by omega)]
theorem grp_bd (n : Nat) (p s : Int) (hp : 0 ≤ p) : 0 ≤ grp n p s ∧ grp n p s ≤ n := by
  have h1 := cntE_eq p s n hp
  have h2 := cntE_le p s n
  omega
/-- What the document's own loop comes to. -/
theorem end_loop {l p s n : Int} (hp : 1 ≤ p) (hn : p ≤ n) (hd : 0 < s → (n - p) % s = 0) (hz : s ≤ 0 → n = p) (hb : n = p ∨ n < l + s) (he : ¬ n < l ∨ s ≤ 0) : endB l p s = decide (n = l) := by
  unfold endB
  by_cases hs : 0 < s
  · have hln : ¬ n < l := he.elim id (fun h => absurd hs (by omega))
    have hd := hd hs
    by_cases h1 : n = l
    · subst h1
      simp [hs, hd]
      omega
    · rw [show decide (n = l) = false from by simp [h1]]
      rcases hb with hb | hb
      · rw [show decide (1 ≤ p ∧ p ≤ l) = false from by simp; omega]; rfl
      · have h2 : ¬ l = p ∨ ¬ p ≤ l := by
          by_cases h : l = p
          · subst h
            have h3 : (n - l) % s = n - l := Int.emod_eq_of_lt (by omega) (by omega)
            omega
          · exact .inl h
        have h3 : ¬ (l - p) % s = 0 := by
          intro h4
          have h5 : s ∣ (n - p) := Int.dvd_of_emod_eq_zero hd
          have h6 : s ∣ (l - p) := Int.dvd_of_emod_eq_zero h4
          have h7 : s ∣ (n - l) := by have := Int.dvd_sub h5 h6; rwa [show n - p - (l - p) = n - l from by omega] at this
          have h8 := Int.le_of_dvd (by omega) h7
          omega
        have h9 : decide ((l - p) % s = 0) = false := by simp [h3]
        rw [h9]
        rcases h2 with h2 | h2
        · simp [h2]
        · simp [h2]
  · have hz := hz (by omega)
    subst hz
    simp [hs]
    by_cases h : l = n
    · simp [h]; omega
    · simp [h]; intro h2; exact absurd h2.symm h
end Im
end Go.Proofs.Ytnlfeamhedihpaa
