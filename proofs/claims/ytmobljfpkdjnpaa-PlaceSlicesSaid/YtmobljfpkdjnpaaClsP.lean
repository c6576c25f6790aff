/- What class.Blank, class.Plain and class.Name answer, by a walk through each. -/
import Derived.Test.YtmobljfpkdjnpaaRows
import Derived.Test.YtmobljfpkdjnpaaUtfM
import Derived.Test.YtmobljfpkdjnpaaClsM
import Derived.Test.YtmobljfpkdjnpaaInts
import Derived.Test.YtmobljfpkdjnpaaPairs
import Derived.Test.YtmobljfpkdjnpaaClsE
import Derived.Test.YtmobljfpkdjnpaaClsW
import Derived.Deep.QuietTactic
import Derived.BigQuiet
set_option linter.unusedVariables false
set_option linter.unusedSimpArgs false
namespace Go.Proofs.Ytmobljfpkdjnpaa
open Go.RowKit Cm

set_option maxHeartbeats 1000000 in
theorem blank_any (c : Int) (w : World) :
    Calls Try.prog 48 #[.int .i64 c] w fun e w' => e = .returned (.bool (blankB c)) ∧ w = w' := by
  by_cases h : c = 9 ∨ c = 10 ∨ c = 11 ∨ c = 12 ∨ c = 13 ∨ c = 32 ∨ c = 160 ∨ c = 8201 ∨ c = 8239
  · rcases h with rfl | rfl | rfl | rfl | rfl | rfl | rfl | rfl | rfl
    all_goals
      go_enter Try.func48, Try.ntmps48
      go_wp2_with fail
      go_ret
      exact ⟨rfl, rfl⟩
  · have HF : Hid (blankB c = false) := Lib.hid (by
      unfold blankB blanks
      rw [Bool.eq_false_iff]
      intro hc
      have := List.contains_iff_mem.1 hc
      simp at this
      exact h this)
    have e9 : (c == 9) = false := by rw [beq_eq_false_iff_ne]; omega
    have e10 : (c == 10) = false := by rw [beq_eq_false_iff_ne]; omega
    have e11 : (c == 11) = false := by rw [beq_eq_false_iff_ne]; omega
    have e12 : (c == 12) = false := by rw [beq_eq_false_iff_ne]; omega
    have e13 : (c == 13) = false := by rw [beq_eq_false_iff_ne]; omega
    have e32 : (c == 32) = false := by rw [beq_eq_false_iff_ne]; omega
    have e160 : (c == 160) = false := by rw [beq_eq_false_iff_ne]; omega
    have e8201 : (c == 8201) = false := by rw [beq_eq_false_iff_ne]; omega
    have e8239 : (c == 8239) = false := by rw [beq_eq_false_iff_ne]; omega
    clear h
    go_enter Try.func48, Try.ntmps48
    go_wp2_with fail
    go_ret
    rw [HF.out]
    exact ⟨rfl, rfl⟩

end Go.Proofs.Ytmobljfpkdjnpaa
