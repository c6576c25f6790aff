/- What the program's small functions on patterns answer: need, meaning, special, plain, mark, keep, and what its questions of a sign answer. -/
import Derived.Test.YtjloibgjnnknnaaDoorRows
import Derived.Test.YtjloibgjnnknnaaDoorInts
import Derived.Test.YtjloibgjnnknnaaDoorUtfM
import Derived.Test.YtjloibgjnnknnaaDoorPatM
import Derived.Test.YtjloibgjnnknnaaDoorPatN
import Derived.Deep.QuietTactic
import Derived.BigQuiet
set_option linter.unusedVariables false
set_option linter.unusedSimpArgs false
namespace Go.Proofs.YtjloibgjnnknnaaDoor
open Go.RowKit
namespace Pg
open Pt Um

/-- What a text that is none is given up with. -/
abbrev form : List PanicEntry := [{ v := .iface 40 (.int .i64 2), recovered := false }]
/-- What a number that is too long is given up with. -/
abbrev range : List PanicEntry := [{ v := .iface 40 (.int .i64 3), recovered := false }]

theorem need_yes (w : World) : Calls Tryd.prog 34 #[.bool true] w fun e w' => e = .returned (.tuple #[]) ∧ w = w' := by
  go_enter Tryd.func34, Tryd.ntmps34
  go_wp2
  go_end0
  exact ⟨rfl, rfl⟩
theorem need_no (w : World) : Calls Tryd.prog 34 #[.bool false] w fun e w' => e = .panicked form ∧ w = w' := by
  go_enter Tryd.func34, Tryd.ntmps34
  go_wp2
  exact ⟨rfl, rfl, rfl⟩

set_option maxHeartbeats 4000000 in
theorem meaning_any (c : Int) (w : World) : Calls Tryd.prog 48 #[.int .i64 c] w fun e w' => e = .returned (.int .i64 (kindC c)) ∧ w = w' := by
  obtain ⟨K, hK⟩ : ∃ K, K = kindC c := ⟨_, rfl⟩
  rw [← hK]
  unfold kindC at hK
  have HK := Lib.hid hK
  clear hK
  go_enter Tryd.func48, Tryd.ntmps48
  go_wp2
  all_goals
    have hK := HK.out
    go_ret
    first | (simp_all; done) | (simp_all; omega)

set_option maxHeartbeats 1000000 in
theorem special_any (c : Int) (w : World) (h0 : 0 ≤ c) (h1 : c ≤ 1114111) : Calls Tryd.prog 55 #[.int .i32 c] w fun e w' => e = .returned (.bool (spc c)) ∧ w = w' := by
  by_cases h9 : c = 39
  · subst h9
    go_enter Tryd.func55, Tryd.ntmps55
    go_wp2_with fail
    go_ret
    exact ⟨rfl, rfl⟩
  · have h9b : (c == 39) = false := beq_eq_false_iff_ne.2 h9
    have HF : Hid (spc c = (kindC c != 0)) := Lib.hid (by unfold spc; rw [h9b]; rfl)
    have hm := fun w => meaning_any c w
    generalize spc c = r at *
    generalize kindC c = k at *
    go_enter Tryd.func55, Tryd.ntmps55
    go_wp2_with fail
    refine (hm _).mono ?_
    rintro e w1 ⟨rfl, rfl⟩
    go_wp2_with fail
    go_ret
    rw [HF.out]
    exact ⟨rfl, rfl⟩
theorem plain_any (c : Int) (w : World) (h0 : 0 ≤ c) (h1 : c ≤ 1114111) : Calls Tryd.prog 57 #[.int .i32 c] w fun e w' => e = .returned (.bool (!spc c)) ∧ w = w' := by
  have hm := fun w => special_any c w h0 h1
  generalize spc c = r at *
  go_enter Tryd.func57, Tryd.ntmps57
  go_wp2_with fail
  refine (hm _).mono ?_
  rintro e w1 ⟨rfl, rfl⟩
  go_wp2_with fail
  go_ret
  exact ⟨rfl, rfl⟩
theorem mark_any (b : Bool) (w : World) : Calls Tryd.prog 41 #[.bool b] w fun e w' => e = .returned (.int .u8 (if b = true then 48 else 35)) ∧ w = w' := by
  cases b
  all_goals
    go_enter Tryd.func41, Tryd.ntmps41
    go_wp2
    go_ret
    exact ⟨rfl, rfl⟩

/-- A number, as the program has it: its groups, its digits ahead of the point and behind it. -/
structure Nb where
  p : Int
  s : Int
  mi : Int
  xi : Int
  mf : Int
  xf : Int
deriving DecidableEq
@[reducible] def Nb.v (n : Nb) : Value := .agg #[.int .i64 n.p, .int .i64 n.s, .int .i64 n.mi, .int .i64 n.xi, .int .i64 n.mf, .int .i64 n.xf]
theorem keep_ok (p s mi xi mf xf : Int) (w : World) (h1 : xi ≤ 64) (h2 : xf ≤ 64) : Calls Tryd.prog 36 #[.agg #[.int .i64 p, .int .i64 s, .int .i64 mi, .int .i64 xi, .int .i64 mf, .int .i64 xf]] w fun e w' => e = .returned (.tuple #[]) ∧ Q w w' := by
  have hm : max xi xf ≤ 64 := by omega
  generalize hx : max xi xf = x at *
  have HX := Lib.hid hx
  go_enter Tryd.func36, Tryd.ntmps36
  go_wp2
  all_goals
    go_end0
    exact ⟨rfl, (Q.refl _).alloc _⟩
theorem keep_bad (p s mi xi mf xf : Int) (w : World) (h : 64 < xi ∨ 64 < xf) : Calls Tryd.prog 36 #[.agg #[.int .i64 p, .int .i64 s, .int .i64 mi, .int .i64 xi, .int .i64 mf, .int .i64 xf]] w fun e w' => e = .panicked range ∧ Q w w' := by
  have hm : 64 < max xi xf := by omega
  generalize hx : max xi xf = x at *
  have HX := Lib.hid hx
  clear h
  go_enter Tryd.func36, Tryd.ntmps36
  go_wp2
  all_goals exact ⟨rfl, rfl, (Q.refl _).alloc _⟩

theorem notD_any (k c : Int) (w : World) : Calls Tryd.prog 45 #[.agg #[.int .i64 k, .int .i64 c]] w fun e w' => e = .returned (.bool (!isD (k, c))) ∧ Q w w' := by
  have HF : Hid ((!isD (k, c)) = (k != 5)) := Lib.hid (by simp [isD, bne])
  generalize (!isD (k, c)) = r at *
  go_enter Tryd.func45, Tryd.ntmps45
  go_wp2
  go_ret
  rw [HF.out]
  exact ⟨rfl, (Q.refl _).alloc _⟩
theorem notN_any (k c : Int) (w : World) : Calls Tryd.prog 49 #[.agg #[.int .i64 k, .int .i64 c]] w fun e w' => e = .returned (.bool (!isN (k, c))) ∧ Q w w' := by
  have HF : Hid ((!isN (k, c)) = (k != 4)) := Lib.hid (by simp [isN, bne])
  generalize (!isN (k, c)) = r at *
  go_enter Tryd.func49, Tryd.ntmps49
  go_wp2
  go_ret
  rw [HF.out]
  exact ⟨rfl, (Q.refl _).alloc _⟩
theorem isN_any (k c : Int) (w : World) : Calls Tryd.prog 50 #[.agg #[.int .i64 k, .int .i64 c]] w fun e w' => e = .returned (.bool (isN (k, c))) ∧ Q w w' := by
  have HF : Hid (isN (k, c) = (k == 4)) := Lib.hid (by simp [isN])
  generalize isN (k, c) = r at *
  go_enter Tryd.func50, Tryd.ntmps50
  go_wp2
  go_ret
  rw [HF.out]
  exact ⟨rfl, (Q.refl _).alloc _⟩
def isL (x : Int × Int) : Bool := x.1 == 0
theorem isL_any (k c : Int) (w : World) : Calls Tryd.prog 61 #[.agg #[.int .i64 k, .int .i64 c]] w fun e w' => e = .returned (.bool (isL (k, c))) ∧ Q w w' := by
  have HF : Hid (isL (k, c) = (k == 0)) := Lib.hid (by simp [isL])
  generalize isL (k, c) = r at *
  go_enter Tryd.func61, Tryd.ntmps61
  go_wp2
  go_ret
  rw [HF.out]
  exact ⟨rfl, (Q.refl _).alloc _⟩

end Pg
end Go.Proofs.YtjloibgjnnknnaaDoor
