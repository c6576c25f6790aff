/- The statements' own small functions: a decimal as the document, and as the program, has it; the document's example. -/
import Derived.Test.YtilbefdeanhnpaaRows
import Derived.Test.YtilbefdeanhnpaaDigL
import Derived.Test.YtilbefdeanhnpaaDecM
import Derived.Test.YtilbefdeanhnpaaInts
import Derived.Test.YtilbefdeanhnpaaSto
import Derived.Test.YtilbefdeanhnpaaStoB
import Derived.Test.YtilbefdeanhnpaaDigW
import Derived.Test.YtilbefdeanhnpaaDigV
import Derived.Test.YtilbefdeanhnpaaDigX
import Derived.Test.YtilbefdeanhnpaaDigQ
import Derived.Test.YtilbefdeanhnpaaDecR
import Derived.Test.YtilbefdeanhnpaaDecS
import Derived.Test.YtilbefdeanhnpaaDecC
import Derived.Test.YtilbefdeanhnpaaDecP
import Derived.Test.YtilbefdeanhnpaaDecQ
import Derived.Test.YtilbefdeanhnpaaDecI
import Derived.Test.YtilbefdeanhnpaaDecL
import Derived.Deep.QuietTactic
import Derived.Deep.RegionWith
import Derived.Deep.RegionHeld3
import Derived.BigQuiet
import Derived.Laws.ResultCell
set_option linter.unusedVariables false
set_option linter.unusedSimpArgs false
namespace Go.Proofs.Ytilbefdeanhnpaa
open Go.RowKit
namespace Ep
open Er (dv cellV LF LF.of LF.nil LF.mono LF.q LF.put LF.shape LF.lst block_cells some_cells block_set wrapI num_shl okD_shl)
theorem as_any (g : Bool) (v : Value) (s : Int) (w : World) (hv : ∃ a n c, v = .slice a n c) :
    Calls Try.prog 19 #[dv g v s] w fun e w' => e = .returned (dv g v s) ∧ Q w w' := by
  obtain ⟨a, n, c, rfl⟩ := hv
  go_enter Try.func19, Try.ntmps19
  unfold dv
  go_wp2_with fail
  refine Er.ret_dv rfl rfl (heap_alloc2_new _ _ _) rfl ⟨rfl, ((Q.refl w).alloc _).alloc _⟩
theorem of_any (g : Bool) (v : Value) (s : Int) (w : World) (hv : ∃ a n c, v = .slice a n c) :
    Calls Try.prog 22 #[dv g v s] w fun e w' => e = .returned (dv g v s) ∧ Q w w' := by
  obtain ⟨a, n, c, rfl⟩ := hv
  go_enter Try.func22, Try.ntmps22
  unfold dv
  go_wp2_with fail
  refine Ep.ret_dv rfl rfl (heap_alloc2_new _ _ _) rfl ⟨rfl, ((Q.refl w).alloc _).alloc _⟩
theorem l75 : Dm.adG false (Dm.num [5] * 10 ^ (max 1 2 - 1)) true (Dm.num [1, 2, 5] * 10 ^ (max 1 2 - 2)) = true ∧ Dm.adM false (Dm.num [5] * 10 ^ (max 1 2 - 1)) true (Dm.num [1, 2, 5] * 10 ^ (max 1 2 - 2)) = 75 ∧ Dm.st 75 (max 1 2) = (75, 2) ∧ Dm.dg 75 = [7, 5] := by decide +kernel
theorem p75 : Dm.prt true [7, 5] 2 = ⟨#[45, 48, 46, 55, 53]⟩ := by decide +kernel
theorem p07 : Dm.prt false [7] 2 = ⟨#[48, 46, 48, 55]⟩ := by decide +kernel
theorem ok1 : Dm.okD [5] := by intro d hd; simp at hd; omega
theorem ok2 : Dm.okD [1, 2, 5] := by intro d hd; simp at hd; omega
theorem ok3 : Dm.okD [7, 5] := by intro d hd; simp at hd; omega
theorem ok4 : Dm.okD [7] := by intro d hd; simp at hd; omega
theorem live_add (w : World) : Calls Try.prog 32 #[.agg #[.bool false, .slice (some ⟨w.heap.size, 0, none⟩) 1 1, .int .i64 1], .agg #[.bool true, .slice (some ⟨w.heap.size + 1, 0, none⟩) 3 3, .int .i64 2]]
    ((w.alloc (.cells #[.int .i64 5] 3)).alloc (.cells #[.int .i64 1, .int .i64 2, .int .i64 5] 3))
    fun e w' => ∃ a c, e = .returned (.tuple #[.agg #[.bool true, .slice a 2 c, .int .i64 2], .int .i64 0]) ∧ Lst w' (.slice a 2 c) [7, 5] ∧ Q w w' := by
  obtain ⟨h1, h2⟩ := Dw.lits w [5] [1, 2, 5] 1 3 rfl rfl (by unfold maxLen; omega) (by unfold maxLen; omega)
  have h := add_any false true _ _ 1 2 _ _ _ h1 h2 (by decide) (by decide) ok1 ok2 (by omega) (by omega)
  obtain ⟨e1, e2, e3, e4⟩ := l75
  rw [e1, e2, e3, e4] at h
  refine Calls.mono h ?_
  rintro e w' ⟨u, rfl, hu, hq⟩
  obtain ⟨a, c, rfl⟩ := hu.shape
  exact ⟨a, c, rfl, hu.lst, (((Q.refl w).alloc _).alloc _).trans hq⟩
theorem live_print (w : World) (a : Option Addr) (c : Nat) (hv : Lst w (.slice a 2 c) [7, 5]) : Calls Try.prog 21 #[.agg #[.bool true, .slice a 2 c, .int .i64 2]] w fun e w' => e = .returned (.string ⟨#[45, 48, 46, 55, 53]⟩) ∧ Q w w' := by
  have h := print_any true _ 2 _ w hv (by decide) ok3 (by omega)
  rw [p75] at h
  exact h
theorem live_print2 (w : World) : Calls Try.prog 21 #[.agg #[.bool false, .slice (some ⟨w.heap.size, 0, none⟩) 1 1, .int .i64 2]] (w.alloc (.cells #[.int .i64 7] 3)) fun e w' => e = .returned (.string ⟨#[48, 46, 48, 55]⟩) ∧ Q w w' := by
  have h := print_any false _ 2 _ _ (Lst.made w [7] 1 rfl (by unfold maxLen; omega)) (by decide) ok4 (by omega)
  rw [p07] at h
  refine Calls.mono h ?_
  rintro e w' ⟨rfl, hq⟩
  exact ⟨rfl, ((Q.refl w).alloc _).trans hq⟩
set_option maxHeartbeats 1600000 in
theorem lives_any (w : World) : Calls Try.prog 13 #[] w fun e w' => e = .returned (.bool true) ∧ Q w w' := by
  have HA := Lib.hid (live_add w)
  have HP := Lib.hid live_print
  have HP2 := Lib.hid live_print2
  go_enter Try.func13, Try.ntmps13
  go_wp2_with fail
  refine HA.out.mono ?_
  rintro e w1 ⟨a, c, rfl, hu1, hq1⟩
  have L1 := Lib.hid (hu1.q ((Q.refl w1).alloc (.cells #[.bool true, .slice a 2 c, .int .i64 2] 32)))
  have Q1 := Lib.hid (hq1.alloc (.cells #[.bool true, .slice a 2 c, .int .i64 2] 32))
  clear hu1 hq1
  go_wp2_with fail
  refine (HP.out _ _ _ L1.out).mono ?_
  rintro e w2 ⟨rfl, hq2⟩
  have Q2 := Lib.hid (Q1.out.trans hq2)
  clear hq2
  go_wp2_with fail
  refine (HP2.out _).mono ?_
  rintro e w3 ⟨rfl, hq3⟩
  have Q3 := Lib.hid (Q2.out.trans hq3)
  clear hq3
  go_wp2_with fail
  go_ret
  exact ⟨rfl, Q3.out⟩
end Ep
end Go.Proofs.Ytilbefdeanhnpaa
