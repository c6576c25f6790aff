/- Decimals as numbers with their signs, mathematics: which is greater is an order; both together; what is added is taken away again. -/
import Derived.Test.YtebcgpoemppljaaRows
import Derived.Test.YtebcgpoemppljaaDigL
import Derived.Test.YtebcgpoemppljaaDecM
import Derived.Test.YtebcgpoemppljaaDecA
set_option linter.unusedVariables false
set_option linter.unusedSimpArgs false
namespace Go.Proofs.Ytebcgpoemppljaa
open Go.RowKit
namespace Ep
/-- A number with its sign. -/
def sv (g : Bool) (M : Nat) : Int := if g = true then -(M : Int) else (M : Int)
theorem sv_mul (g : Bool) (M p : Nat) : sv g M * (p : Int) = sv g (M * p) := by
  unfold sv
  split
  · rw [Int.neg_mul, Int.natCast_mul]
  · rw [Int.natCast_mul]
/-- Which of two decimals is greater, by their numbers in one scale. -/
theorem cmpD_at (g : Bool) (A sa : Nat) (h : Bool) (B sb n : Nat) (ha : sa ≤ n) (hb : sb ≤ n) : Dm.cmpD g A sa h B sb = Dm.cmpZ (sv g (A * 10 ^ (n - sa))) (sv h (B * 10 ^ (n - sb))) := by
  have hc := Dm.cmpS_at A sa B sb n ha hb
  have h1 : Dm.cg g A = Dm.cg g (A * 10 ^ (n - sa)) := by
    unfold Dm.cg
    have hp : 0 < 10 ^ (n - sa) := Nat.pow_pos (by omega)
    by_cases h0 : A = 0
    · subst h0; rw [Nat.zero_mul]
    · rw [if_neg h0, if_neg (by have := Nat.mul_pos (Nat.pos_of_ne_zero h0) hp; omega)]
  have h2 : Dm.cg h B = Dm.cg h (B * 10 ^ (n - sb)) := by
    unfold Dm.cg
    have hp : 0 < 10 ^ (n - sb) := Nat.pow_pos (by omega)
    by_cases h0 : B = 0
    · subst h0; rw [Nat.zero_mul]
    · rw [if_neg h0, if_neg (by have := Nat.mul_pos (Nat.pos_of_ne_zero h0) hp; omega)]
  unfold Dm.cmpD
  rw [← hc, h1, h2]
  generalize A * 10 ^ (n - sa) = a
  generalize B * 10 ^ (n - sb) = b
  unfold Dm.cg sv Dm.cmpZ
  cases g <;> cases h <;> by_cases ha : a = 0 <;> by_cases hb : b = 0 <;> simp [ha, hb] <;> (repeat' split) <;> omega
theorem cmpD_anti (g : Bool) (A sa : Nat) (h : Bool) (B sb : Nat) : Dm.cmpD h B sb g A sa = - Dm.cmpD g A sa h B sb := by
  rw [cmpD_at g A sa h B sb (max sa sb) (by omega) (by omega), cmpD_at h B sb g A sa (max sa sb) (by omega) (by omega)]
  exact Dm.cmpZ_neg _ _
theorem cmpD_three (g : Bool) (A sa : Nat) (h : Bool) (B sb : Nat) : Dm.cmpD g A sa h B sb = -1 ∨ Dm.cmpD g A sa h B sb = 0 ∨ Dm.cmpD g A sa h B sb = 1 := by
  rw [cmpD_at g A sa h B sb (max sa sb) (by omega) (by omega)]
  exact Dm.cmpZ_three _ _
theorem cmpD_trans (g : Bool) (A sa : Nat) (h : Bool) (B sb : Nat) (k : Bool) (C sc : Nat) (h1 : Dm.cmpD g A sa h B sb ≤ 0) (h2 : Dm.cmpD h B sb k C sc ≤ 0) : Dm.cmpD g A sa k C sc ≤ 0 := by
  rw [cmpD_at g A sa h B sb (max sa (max sb sc)) (by omega) (by omega)] at h1
  rw [cmpD_at h B sb k C sc (max sa (max sb sc)) (by omega) (by omega)] at h2
  rw [cmpD_at g A sa k C sc (max sa (max sb sc)) (by omega) (by omega)]
  generalize sv g (A * 10 ^ (max sa (max sb sc) - sa)) = a at *
  generalize sv h (B * 10 ^ (max sa (max sb sc) - sb)) = b at *
  generalize sv k (C * 10 ^ (max sa (max sb sc) - sc)) = c at *
  have e1 : ¬ b < a := by have := Dm.cmpZ_pos a b; omega
  have e2 : ¬ c < b := by have := Dm.cmpZ_pos b c; omega
  have e3 : ¬ c < a := by omega
  have := Dm.cmpZ_pos a c
  omega
theorem ad_sv (g : Bool) (X : Nat) (h : Bool) (Y : Nat) : sv (Dm.adG g X h Y) (Dm.adM g X h Y) = sv g X + sv h Y := by
  unfold sv Dm.adG Dm.adM
  by_cases h0 : X < Y <;> cases g <;> cases h <;> simp [h0] <;> omega
theorem sv_cg (g : Bool) (M : Nat) : sv (Dm.cg g M) M = sv g M := by
  unfold sv Dm.cg
  by_cases h0 : M = 0
  · subst h0; cases g <;> rfl
  · rw [if_neg h0]
theorem sv_inj {g h : Bool} {M K : Nat} (e : sv g M = sv h K) : M = K ∧ Dm.cg g M = Dm.cg h K := by
  unfold sv at e
  by_cases h0 : M = 0
  · subst h0
    have : K = 0 := by cases g <;> cases h <;> simp at e <;> omega
    subst this
    exact ⟨rfl, rfl⟩
  · have hK : M = K ∧ g = h := by cases g <;> cases h <;> simp at e ⊢ <;> omega
    exact ⟨hK.1, by rw [hK.1, hK.2]⟩
theorem sv_not (g : Bool) (M : Nat) : sv (!g) M = - sv g M := by unfold sv; cases g <;> simp
/-- What is added is taken away again. -/
theorem back_eq (g h : Bool) (A B s t n m : Nat) (hn : n = max s t) (M sa : Nat) (G gr : Bool) (hG : G = Dm.adG g (A * 10 ^ (n - s)) h (B * 10 ^ (n - t))) (hM : M = Dm.adM g (A * 10 ^ (n - s)) h (B * 10 ^ (n - t))) (hgr : gr = Dm.cg G M) (hm : m = max (Dm.st M n).2 t) :
    Dm.st (Dm.adM gr ((Dm.st M n).1 * 10 ^ (m - (Dm.st M n).2)) (!h) (B * 10 ^ (m - t))) m = Dm.st A s ∧ Dm.cg (Dm.adG gr ((Dm.st M n).1 * 10 ^ (m - (Dm.st M n).2)) (!h) (B * 10 ^ (m - t))) (Dm.adM gr ((Dm.st M n).1 * 10 ^ (m - (Dm.st M n).2)) (!h) (B * 10 ^ (m - t))) = Dm.cg g A := by
  have h1 := Dm.st_le M n
  have h2 := Dm.st_num M n
  have e1 := ad_sv g (A * 10 ^ (n - s)) h (B * 10 ^ (n - t))
  rw [← hG, ← hM, ← sv_cg, ← hgr] at e1
  generalize (Dm.st M n).1 = C at *
  generalize (Dm.st M n).2 = c at *
  have e2 := ad_sv gr (C * 10 ^ (m - c)) (!h) (B * 10 ^ (m - t))
  generalize Dm.adG gr (C * 10 ^ (m - c)) (!h) (B * 10 ^ (m - t)) = G2 at *
  generalize Dm.adM gr (C * 10 ^ (m - c)) (!h) (B * 10 ^ (m - t)) = M2 at *
  have hmn : m ≤ n := by omega
  have p1 : C * 10 ^ (m - c) * 10 ^ (n - m) = M := by rw [Nat.mul_assoc, ← Nat.pow_add, show m - c + (n - m) = n - c from by omega, h2]
  have p2 : B * 10 ^ (m - t) * 10 ^ (n - m) = B * 10 ^ (n - t) := by rw [Nat.mul_assoc, ← Nat.pow_add, show m - t + (n - m) = n - t from by omega]
  have e3 : sv G2 (M2 * 10 ^ (n - m)) = sv g (A * 10 ^ (n - s)) := by
    rw [← sv_mul, e2, Int.add_mul, sv_mul, sv_mul, p1, p2, e1, sv_not]
    omega
  obtain ⟨e4, e5⟩ := sv_inj e3
  have hA : Dm.cg g (A * 10 ^ (n - s)) = Dm.cg g A := by
    unfold Dm.cg
    have hp : 0 < 10 ^ (n - s) := Nat.pow_pos (by omega)
    by_cases h0 : A = 0
    · subst h0; rw [Nat.zero_mul]
    · rw [if_neg h0, if_neg (by have := Nat.mul_pos (Nat.pos_of_ne_zero h0) hp; omega)]
  have hB : Dm.cg G2 (M2 * 10 ^ (n - m)) = Dm.cg G2 M2 := by
    unfold Dm.cg
    have hp : 0 < 10 ^ (n - m) := Nat.pow_pos (by omega)
    by_cases h0 : M2 = 0
    · subst h0; rw [Nat.zero_mul]
    · rw [if_neg h0, if_neg (by have := Nat.mul_pos (Nat.pos_of_ne_zero h0) hp; omega)]
  refine ⟨?_, by rw [← hB, e5, hA]⟩
  have f1 := Dm.st_tens M2 m (n - m)
  have f2 := Dm.st_tens A s (n - s)
  rw [show m + (n - m) = n from by omega] at f1
  rw [show s + (n - s) = n from by omega] at f2
  rw [← f1, e4, f2]
theorem ad_len (g h : Bool) (s t n : Nat) (L N : List Int) (hx : Dm.okD L) (hy : Dm.okD N) (hl : L.length < 2000) (hl2 : N.length < 2000) (hn : n ≤ 1000) : (Dm.dg (Dm.st (Dm.adM g (Dm.num L * 10 ^ (n - s)) h (Dm.num N * 10 ^ (n - t))) n).1).length < 9000 := by
  have a := Dm.num_lt L hx
  have b := Dm.num_lt N hy
  have c := Dm.ad_le g (Dm.num L * 10 ^ (n - s)) h (Dm.num N * 10 ^ (n - t))
  generalize Dm.adM g (Dm.num L * 10 ^ (n - s)) h (Dm.num N * 10 ^ (n - t)) = M at *
  have one : ∀ (K : List Int) (r : Nat), Dm.num K < 10 ^ K.length → K.length < 2000 → Dm.num K * 10 ^ (n - r) < 10 ^ 3000 := by
    intro K r h1 h2
    have e0 : 0 < 10 ^ (n - r) := Nat.pow_pos (by omega)
    calc Dm.num K * 10 ^ (n - r) < 10 ^ K.length * 10 ^ (n - r) := Nat.mul_lt_mul_of_pos_right h1 e0
      _ = 10 ^ (K.length + (n - r)) := (Nat.pow_add _ _ _).symm
      _ ≤ 10 ^ 3000 := Nat.pow_le_pow_right (by omega) (by omega)
  obtain ⟨k, hk⟩ : ∃ k, k = 3000 := ⟨_, rfl⟩
  rw [← hk] at one
  have d1 := one L s a hl
  have d2 := one N t b hl2
  have hM : M < 10 ^ (k + 1) := by rw [Nat.pow_succ]; omega
  have hs := Dm.st_num M n
  have hp : 0 < 10 ^ (n - (Dm.st M n).2) := Nat.pow_pos (by omega)
  have hle : (Dm.st M n).1 ≤ M := by
    calc (Dm.st M n).1 = (Dm.st M n).1 * 1 := by rw [Nat.mul_one]
      _ ≤ (Dm.st M n).1 * 10 ^ (n - (Dm.st M n).2) := Nat.mul_le_mul_left _ hp
      _ = M := hs
  have := Dm.dg_len_lt (Dm.st M n).1 (k + 1) (Nat.lt_of_le_of_lt hle hM)
  omega
end Ep
end Go.Proofs.Ytebcgpoemppljaa
