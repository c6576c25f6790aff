/- Decimals as numbers with their signs, mathematics: which is greater is an order; both together; what is added is taken away again. (and more) -/
import Derived.Test.YteljedefbomlgaaR00
import Derived.Test.YteljedefbomlgaaR14
import Derived.Test.YteljedefbomlgaaR01
import Derived.Test.YteljedefbomlgaaRows
import Derived.Test.YteljedefbomlgaaR12
import Derived.Test.YteljedefbomlgaaR08
import Derived.Test.YteljedefbomlgaaR10
import Derived.Test.YteljedefbomlgaaR06
import Derived.Test.YteljedefbomlgaaR03
import Derived.Test.YteljedefbomlgaaR05
import Derived.Deep.QuietTactic
import Derived.Deep.RegionWith
import Derived.Deep.RegionHeld3
import Derived.BigQuiet
set_option linter.unusedVariables false
set_option linter.unusedSimpArgs false
namespace Go.Proofs.Yteljedefbomlgaa
open Go.RowKit
namespace Ep
def sv (g : Bool) (M : Nat) : Int := if g = true then -(M : Int) else (M : Int)
theorem sv_mul (g : Bool) (M p : Nat) : sv g M * (p : Int) = sv g (M * p) := by
  unfold sv
  split
  · rw [Int.neg_mul, Int.natCast_mul]
  · rw [Int.natCast_mul]
theorem cmpD_at (g : Bool) (A sa : Nat) (h : Bool) (B sb n : Nat) (ha : sa ≤ n) (hb : sb ≤ n) : Dm.cmpD g A sa h B sb = Dm.cmpZ (sv g (A * 10 ^ (n - sa))) (sv h (B * 10 ^ (n - sb))) := by
  have hc := Dm.cmpS_at A sa B sb n ha hb
  have h1 : Dm.cg g A = Dm.cg g (A * 10 ^ (n - sa)) := by
    unfold Dm.cg
    have hp : 0 < 10 ^ (n - sa) := Nat.pow_pos (by omega)
    by_cases h0 : A = 0
    · subst h0; rw [Nat.zero_mul]
    · rw [if_neg h0, if_neg (by have := Nat.mul_pos (Nat.pos_of_ne_zero h0) hp; omega)]
  have h2 : Dm.cg h B = Dm.cg h (B * 10 ^ (n - sb)) := by
    unfold Dm.cg
    have hp : 0 < 10 ^ (n - sb) := Nat.pow_pos (by omega)
    by_cases h0 : B = 0
    · subst h0; rw [Nat.zero_mul]
    · rw [if_neg h0, if_neg (by have := Nat.mul_pos (Nat.pos_of_ne_zero h0) hp; omega)]
  unfold Dm.cmpD
  rw [← hc, h1, h2]
  generalize A * 10 ^ (n - sa) = a
  generalize B * 10 ^ (n - sb) = b
  unfold Dm.cg sv Dm.cmpZ
  cases g <;> cases h <;> by_cases ha : a = 0 <;> by_cases hb : b = 0 <;> simp [ha, hb] <;> (repeat' split) <;> omega
theorem cmpD_anti (g : Bool) (A sa : Nat) (h : Bool) (B sb : Nat) : Dm.cmpD h B sb g A sa = - Dm.cmpD g A sa h B sb := by
  rw [cmpD_at g A sa h B sb (max sa sb) (by omega) (by omega), cmpD_at h B sb g A sa (max sa sb) (by omega) (by omega)]
  exact Dm.cmpZ_neg _ _
theorem ad_sv (g : Bool) (X : Nat) (h : Bool) (Y : Nat) : sv (Dm.adG g X h Y) (Dm.adM g X h Y) = sv g X + sv h Y := by
  unfold sv Dm.adG Dm.adM
  by_cases h0 : X < Y <;> cases g <;> cases h <;> simp [h0] <;> omega
theorem sv_cg (g : Bool) (M : Nat) : sv (Dm.cg g M) M = sv g M := by
  unfold sv Dm.cg
  by_cases h0 : M = 0
  · subst h0; cases g <;> rfl
  · rw [if_neg h0]
theorem sv_inj {g h : Bool} {M K : Nat} (e : sv g M = sv h K) : M = K ∧ Dm.cg g M = Dm.cg h K := by
  unfold sv at e
  by_cases h0 : M = 0
  · subst h0
    have : K = 0 := by cases g <;> cases h <;> simp at e <;> omega
    subst this
    exact ⟨rfl, rfl⟩
  · have hK : M = K ∧ g = h := by cases g <;> cases h <;> simp at e ⊢ <;> omega
    exact ⟨hK.1, by rw [hK.1, hK.2]⟩
theorem ad_len (g h : Bool) (s t n : Nat) (L N : List Int) (hx : Dm.okD L) (hy : Dm.okD N) (hl : L.length < 2000) (hl2 : N.length < 2000) (hn : n ≤ 1000) : (Dm.dg (Dm.st (Dm.adM g (Dm.num L * 10 ^ (n - s)) h (Dm.num N * 10 ^ (n - t))) n).1).length < 9000 := by
  have a := Dm.num_lt L hx
  have b := Dm.num_lt N hy
  have c := Dm.ad_le g (Dm.num L * 10 ^ (n - s)) h (Dm.num N * 10 ^ (n - t))
  generalize Dm.adM g (Dm.num L * 10 ^ (n - s)) h (Dm.num N * 10 ^ (n - t)) = M at *
  have one : ∀ (K : List Int) (r : Nat), Dm.num K < 10 ^ K.length → K.length < 2000 → Dm.num K * 10 ^ (n - r) < 10 ^ 3000 := by
    intro K r h1 h2
    have e0 : 0 < 10 ^ (n - r) := Nat.pow_pos (by omega)
    calc Dm.num K * 10 ^ (n - r) < 10 ^ K.length * 10 ^ (n - r) := Nat.mul_lt_mul_of_pos_right h1 e0
      _ = 10 ^ (K.length + (n - r)) := (Nat.pow_add _ _ _).symm
      _ ≤ 10 ^ 3000 := Nat.pow_le_pow_right (by omega) (by omega)
  obtain ⟨k, hk⟩ : ∃ k, k = 3000 := ⟨_, rfl⟩
  rw [← hk] at one
  have d1 := one L s a hl
  have d2 := one N t b hl2
  have hM : M < 10 ^ (k + 1) := by rw [Nat.pow_succ]; omega
  have hs := Dm.st_num M n
  have hp : 0 < 10 ^ (n - (Dm.st M n).2) := Nat.pow_pos (by omega)
  have hle : (Dm.st M n).1 ≤ M := by
    calc (Dm.st M n).1 = (Dm.st M n).1 * 1 := by rw [Nat.mul_one]
      _ ≤ (Dm.st M n).1 * 10 ^ (n - (Dm.st M n).2) := Nat.mul_le_mul_left _ hp
      _ = M := hs
  have := Dm.dg_len_lt (Dm.st M n).1 (k + 1) (Nat.lt_of_le_of_lt hle hM)
  omega
end Ep
end Go.Proofs.Yteljedefbomlgaa
namespace Go.Proofs.Yteljedefbomlgaa
open Go.RowKit
namespace Er
set_option maxHeartbeats 1600000 in
theorem times_far (g : Bool) (v : Value) (s k : Int) (L : List Int) (w : World) (hv : Lst w v L) (hl : L.length < 1000000) (hs : -9223372036854775808 ≤ s ∧ s ≤ 9223372036854775807) (hb : (Dm.okB L && decide (0 ≤ s) && decide (s ≤ 1000)) = true) (hk : k < -1000 ∨ 1000 < k) :
    Calls Try.prog 47 #[dv g v s, .int .i64 k] w fun e w' => e = .returned (.tuple #[dv false (.slice none 0 0) 0, .int .i64 3]) ∧ Q w w' := by
  obtain ⟨a, c, rfl⟩ := hv.shape
  have M := Lib.hid (fun u (h : SD w g (.slice a L.length c) s u) => (by
    have e := may_any g (.slice a L.length c) s L u (hv.q h.2.2.2.2.2.2.2.2.2.2.2) (by omega) hs
    rw [hb] at e
    refine e.mono ?_
    rintro e w' ⟨rfl, hq⟩
    exact ⟨rfl, h.q hq⟩ : Calls Try.prog 24 #[.agg #[.bool g, .slice a L.length c, .int .i64 s]] u fun e w' => e = .returned (.bool true) ∧ SD w g (.slice a L.length c) s w'))
  have HS := Lib.hid (SD.start w g (.slice a L.length c) s)
  have PUT := Lib.hid (fun u (h : SD w g (.slice a L.length c) s u) x y z => h.put x y z)
  generalize L.length = n at *
  clear hv hb
  go_enter Try.func47, Try.ntmps47
  unfold dv
  go_wp2_with fail
  refine (M.out _ HS.out).mono ?_
  rintro e w1 ⟨rfl, hS⟩
  have hfin := PUT.out w1 hS (.bool false) (.slice none 0 0) (.int .i64 0)
  have HF := Lib.hid hfin.2
  have hqf : Q w _ := hfin.1.2.2.2.2.2.2.2.2.2.2.2
  have HQ := Lib.hid hqf
  unfold SD at hS
  obtain ⟨a0, a1, a2, b0, b1, b2, b3, b4, b5, _, _, _⟩ := hS
  clear hfin hqf
  rcases hk with hk | hk
  · go_wp2_with fail
    exact ret_dv2 rfl rfl rfl HF.out rfl ⟨rfl, HQ.out⟩
  · have hk2 : ¬ k < -1000 := by omega
    have hk3 : -1000 ≤ k := by omega
    go_wp2_with fail
    exact ret_dv2 rfl rfl rfl HF.out rfl ⟨rfl, HQ.out⟩
end Er
end Go.Proofs.Yteljedefbomlgaa
