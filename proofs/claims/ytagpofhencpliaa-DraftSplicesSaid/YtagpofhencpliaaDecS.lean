/- What the document's own Same, Few and Times of decimals come to, by a walk through each. -/
import Derived.Test.YtagpofhencpliaaRows
import Derived.Test.YtagpofhencpliaaDigL
import Derived.Test.YtagpofhencpliaaDecM
import Derived.Test.YtagpofhencpliaaInts
import Derived.Test.YtagpofhencpliaaSto
import Derived.Test.YtagpofhencpliaaUtfM
import Derived.Test.YtagpofhencpliaaUtfG
import Derived.Test.YtagpofhencpliaaUtfR
import Derived.Test.YtagpofhencpliaaDigR
import Derived.Test.YtagpofhencpliaaDigS
import Derived.Test.YtagpofhencpliaaDigO
import Derived.Test.YtagpofhencpliaaDecR
import Derived.Deep.QuietTactic
import Derived.Deep.RegionWith
import Derived.Deep.RegionHeld3
import Derived.BigQuiet
import Derived.Laws.ResultCell
set_option linter.unusedVariables false
set_option linter.unusedSimpArgs false
namespace Go.Proofs.Ytagpofhencpliaa
open Go.RowKit
namespace Er
/-- A decimal and a second value handed back. -/
theorem ret_dv2 {fn : Func} {p q : Tmp} (h : fn.results = #[.cell p 40, .tmp q]) {R : Ending → World → Prop} {a : Act} {w : World} {g : Nat} {b : Bool} {v : Value} {s : Int} {T : TypeId} {fr : Nat × Nat} {x : Value}
    (hp : a.tmps.getD p undef = .pointer (some ⟨g, 0, none⟩)) (hq : a.tmps.getD q undef = x) (hg : w.heap[g]? = some (.cells #[.bool b, v, .int .i64 s] T fr)) (hd : a.defers = []) (hR : R (.returned (.tuple #[dv b v s, x])) w) : bodyPost Try.prog fn R .ret a w := by
  refine bodyPost_ret (v := .tuple #[dv b v s, x]) ?_ hd hR
  rw [results_cell_tmp h, hp, hq]
  simp [asAddr, Result.andThen, run_loadVar_row w g T 40 #[.bool b, v, .int .i64 s] fr _ hg Try.underlying40 rfl infoD, dv]

theorem wrapI {x : Int} (h0 : -9223372036854775808 ≤ x) (h1 : x ≤ 9223372036854775807) : IntKind.i64.wrap x = x := by
  rw [IntKind.wrap_i64]; omega

set_option maxHeartbeats 800000 in
theorem same_eq (g : Bool) (v u : Value) (s : Int) (xs : List Int) (w : World) (hv : Lst w v xs) (hu : Lst w u xs) (hl : xs.length < 1000000) :
    Calls Try.prog 20 #[dv g v s, dv g u s] w fun e w' => e = .returned (.bool true) ∧ Q w w' := by
  have M := Lib.hid (fun w' (q : Q w w') => Ur.same_any v u xs xs w' (hv.q q) (hu.q q) (by omega) (by omega))
  simp only [decide_true] at M
  obtain ⟨a, c, rfl⟩ := hv.shape
  obtain ⟨b, d, rfl⟩ := hu.shape
  generalize xs.length = n at *
  have hk := fun w' (q : Q ((w.alloc (.cells #[.bool g, .slice a n c, .int .i64 s] 40)).alloc (.cells #[.bool g, .slice b n d, .int .i64 s] 40)) w') => And.intro (block_cells ((q.block (lt_of_block (heap_alloc2_old w _ _))).trans (heap_alloc2_old w _ _))) (block_cells ((q.block (lt_of_block (heap_alloc2_new w _ _))).trans (heap_alloc2_new w _ _)))
  have HK := Lib.hid hk
  clear hv hu hk
  go_enter Try.func20, Try.ntmps20
  unfold dv
  go_wp2_with fail
  refine (M.out _ (((Q.refl w).alloc _).alloc _)).mono ?_
  rintro e w1 ⟨rfl, hq⟩
  obtain ⟨⟨a0, a1, a2, _, _, _⟩, ⟨b0, b1, b2, _, _, _⟩⟩ := HK.out w1 hq
  have HQ := Lib.hid ((((Q.refl w).alloc _).alloc _).trans hq)
  clear hq
  cases g
  all_goals
    go_wp2_with fail
    go_ret
    exact ⟨rfl, HQ.out⟩

set_option maxHeartbeats 800000 in
theorem few_any (g : Bool) (a : Option Addr) (n c : Nat) (s : Int) (m : Nat) (w : World) (hn : n ≤ c) (hc : c ≤ maxLen) (hm : m < 1000000) :
    Calls Try.prog 32 #[dv g (.slice a n c) s, .int .i64 m] w fun e w' => e = .returned (dv g (.slice a (min n m) c) s) ∧ Q w w' := by
  unfold maxLen at hc
  by_cases h : m < n
  · have HM := Lib.hid (show min n m = m from by omega)
    have hmc : (m : Int) ≤ (c : Int) := by omega
    go_enter Try.func32, Try.ntmps32
    unfold dv
    go_wp2_with fail
    rw [HM.out]
    exact ret_dv rfl rfl (heap_alloc2_new _ _ _) rfl ⟨rfl, ((Q.refl w).alloc _).alloc _⟩
  · have HM := Lib.hid (show min n m = n from by omega)
    go_enter Try.func32, Try.ntmps32
    unfold dv
    go_wp2_with fail
    rw [HM.out]
    exact ret_dv rfl rfl (heap_alloc2_new _ _ _) rfl ⟨rfl, ((Q.refl w).alloc _).alloc _⟩

end Er
end Go.Proofs.Ytagpofhencpliaa
