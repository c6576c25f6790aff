/- Comparing decimals is an order, mathematics. -/
import Derived.Test.YtilbefdeanhnpaaRows
import Derived.Test.YtilbefdeanhnpaaDigL
import Derived.Test.YtilbefdeanhnpaaDecM
import Derived.Test.YtilbefdeanhnpaaInts
import Derived.Test.YtilbefdeanhnpaaSto
import Derived.Test.YtilbefdeanhnpaaStoB
import Derived.Test.YtilbefdeanhnpaaDigW
import Derived.Test.YtilbefdeanhnpaaDigV
import Derived.Test.YtilbefdeanhnpaaDigX
import Derived.Test.YtilbefdeanhnpaaDigQ
import Derived.Test.YtilbefdeanhnpaaDecR
import Derived.Test.YtilbefdeanhnpaaDecS
import Derived.Test.YtilbefdeanhnpaaDecC
import Derived.Test.YtilbefdeanhnpaaDecP
import Derived.Test.YtilbefdeanhnpaaDecQ
import Derived.Test.YtilbefdeanhnpaaDecZ
import Derived.Deep.QuietTactic
import Derived.Deep.RegionWith
import Derived.Deep.RegionHeld3
import Derived.BigQuiet
import Derived.Laws.ResultCell
set_option linter.unusedVariables false
set_option linter.unusedSimpArgs false
namespace Go.Proofs.Ytilbefdeanhnpaa
open Go.RowKit
namespace Ep
open Er (dv cellV LF LF.of LF.nil LF.mono LF.q LF.put LF.shape LF.lst block_cells some_cells block_set wrapI num_shl okD_shl)
/-- A number with its sign. -/
def sv (g : Bool) (M : Nat) : Int := if g = true then -(M : Int) else (M : Int)
theorem sv_mul (g : Bool) (M p : Nat) : sv g M * (p : Int) = sv g (M * p) := by
  unfold sv
  split
  · rw [Int.neg_mul, Int.natCast_mul]
  · rw [Int.natCast_mul]
/-- Which of two decimals is greater, by their numbers in one scale. -/
theorem cmpD_at (g : Bool) (A sa : Nat) (h : Bool) (B sb n : Nat) (ha : sa ≤ n) (hb : sb ≤ n) : Dm.cmpD g A sa h B sb = Dm.cmpZ (sv g (A * 10 ^ (n - sa))) (sv h (B * 10 ^ (n - sb))) := by
  have hc := Dm.cmpS_at A sa B sb n ha hb
  have h1 : Dm.cg g A = Dm.cg g (A * 10 ^ (n - sa)) := by
    unfold Dm.cg
    have hp : 0 < 10 ^ (n - sa) := Nat.pow_pos (by omega)
    by_cases h0 : A = 0
    · subst h0; rw [Nat.zero_mul]
    · rw [if_neg h0, if_neg (by have := Nat.mul_pos (Nat.pos_of_ne_zero h0) hp; omega)]
  have h2 : Dm.cg h B = Dm.cg h (B * 10 ^ (n - sb)) := by
    unfold Dm.cg
    have hp : 0 < 10 ^ (n - sb) := Nat.pow_pos (by omega)
    by_cases h0 : B = 0
    · subst h0; rw [Nat.zero_mul]
    · rw [if_neg h0, if_neg (by have := Nat.mul_pos (Nat.pos_of_ne_zero h0) hp; omega)]
  unfold Dm.cmpD
  rw [← hc, h1, h2]
  generalize A * 10 ^ (n - sa) = a
  generalize B * 10 ^ (n - sb) = b
  unfold Dm.cg sv Dm.cmpZ
  cases g <;> cases h <;> by_cases ha : a = 0 <;> by_cases hb : b = 0 <;> simp [ha, hb] <;> (repeat' split) <;> omega
theorem cmpD_anti (g : Bool) (A sa : Nat) (h : Bool) (B sb : Nat) : Dm.cmpD h B sb g A sa = - Dm.cmpD g A sa h B sb := by
  rw [cmpD_at g A sa h B sb (max sa sb) (by omega) (by omega), cmpD_at h B sb g A sa (max sa sb) (by omega) (by omega)]
  exact Dm.cmpZ_neg _ _
theorem cmpD_three (g : Bool) (A sa : Nat) (h : Bool) (B sb : Nat) : Dm.cmpD g A sa h B sb = -1 ∨ Dm.cmpD g A sa h B sb = 0 ∨ Dm.cmpD g A sa h B sb = 1 := by
  rw [cmpD_at g A sa h B sb (max sa sb) (by omega) (by omega)]
  exact Dm.cmpZ_three _ _
theorem cmpD_trans (g : Bool) (A sa : Nat) (h : Bool) (B sb : Nat) (k : Bool) (C sc : Nat) (h1 : Dm.cmpD g A sa h B sb ≤ 0) (h2 : Dm.cmpD h B sb k C sc ≤ 0) : Dm.cmpD g A sa k C sc ≤ 0 := by
  rw [cmpD_at g A sa h B sb (max sa (max sb sc)) (by omega) (by omega)] at h1
  rw [cmpD_at h B sb k C sc (max sa (max sb sc)) (by omega) (by omega)] at h2
  rw [cmpD_at g A sa k C sc (max sa (max sb sc)) (by omega) (by omega)]
  generalize sv g (A * 10 ^ (max sa (max sb sc) - sa)) = a at *
  generalize sv h (B * 10 ^ (max sa (max sb sc) - sb)) = b at *
  generalize sv k (C * 10 ^ (max sa (max sb sc) - sc)) = c at *
  have e1 : ¬ b < a := by have := Dm.cmpZ_pos a b; omega
  have e2 : ¬ c < b := by have := Dm.cmpZ_pos b c; omega
  have e3 : ¬ c < a := by omega
  have := Dm.cmpZ_pos a c
  omega
end Ep
end Go.Proofs.Ytilbefdeanhnpaa
