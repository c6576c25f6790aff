/- What the document's own answers on single numbers (may it be a character, a number made small, a number made a character) come to. -/
import Derived.Test.YtnlfeamhedihpaaRows
import Derived.Test.YtnlfeamhedihpaaUtfM
import Derived.Test.YtnlfeamhedihpaaInts
import Derived.Deep.QuietTactic
import Derived.Deep.RegionWith
import Derived.BigQuiet
import Derived.ShutString
set_option linter.unusedVariables false
set_option linter.unusedSimpArgs false
namespace Go.Proofs.Ytnlfeamhedihpaa
open Go.RowKit Um
namespace Ur
theorem ret_int {k : IntKind} {a b : Int} (h : a = b) : Ending.returned (.int k a) = .returned (.int k b) := by rw [h]
theorem ret_str {a b : ByteArray} (h : a = b) : Ending.returned (.string a) = .returned (.string b) := by rw [h]
theorem vt {c : Int} (h : 0 ≤ c ∧ c ≤ 1114111 ∧ (c < 55296 ∨ 57343 < c)) : vld c = true := (vld_iff c).2 h
theorem vf {c : Int} (h : ¬ (0 ≤ c ∧ c ≤ 1114111 ∧ (c < 55296 ∨ 57343 < c))) : vld c = false := (vld_false c).2 h

set_option maxHeartbeats 400000 in
theorem around_any (n m : Int) (w : World) (h0 : -9223372036854775808 ≤ n) (h1 : n ≤ 9223372036854775807) (hm : 1 ≤ m) (hm2 : m ≤ 9223372036854775807) :
    Calls Try.prog 4 #[.int .i64 n, .int .i64 m] w fun e w' => e = .returned (.int .i64 (around n m)) ∧ w = w' := by
  by_cases hn : n < 0
  · have HA : Hid (around n m = (-(n + 1)) % m) := Lib.hid (by unfold around; rw [if_pos hn])
    go_enter Try.func4, Try.ntmps4
    go_wp2
    go_ret
    rw [HA.out]
    exact ⟨ret_int (by rw [← Int.tmod_eq_emod_of_nonneg (by omega), Int.neg_tmod]), rfl⟩
  · have HA : Hid (around n m = n % m) := Lib.hid (by unfold around; rw [if_neg hn])
    go_enter Try.func4, Try.ntmps4
    go_wp2
    go_ret
    rw [HA.out]
    exact ⟨rfl, rfl⟩

end Ur
end Go.Proofs.Ytnlfeamhedihpaa
