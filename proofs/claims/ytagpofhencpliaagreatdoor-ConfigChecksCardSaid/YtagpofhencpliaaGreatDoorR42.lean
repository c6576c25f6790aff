/- The program's bounds: what each call comes to. (and more) -/
import Derived.Test.YtagpofhencpliaaGreatDoorR00
import Derived.Test.YtagpofhencpliaaGreatDoorR26
import Derived.Test.YtagpofhencpliaaGreatDoorR31
import Derived.Test.YtagpofhencpliaaGreatDoorR33
import Derived.Test.YtagpofhencpliaaGreatDoorR02
import Derived.Test.YtagpofhencpliaaGreatDoorR15
import Derived.Test.YtagpofhencpliaaGreatDoorR20
import Derived.Test.YtagpofhencpliaaGreatDoorR10
import Derived.Test.YtagpofhencpliaaGreatDoorR13
import Derived.Test.YtagpofhencpliaaGreatDoorR17
import Derived.Test.YtagpofhencpliaaGreatDoorR07
import Derived.Test.YtagpofhencpliaaGreatDoorR04
import Derived.Test.YtagpofhencpliaaGreatDoorR11
import Derived.Test.YtagpofhencpliaaGreatDoorR19
import Derived.Test.YtagpofhencpliaaGreatDoorR21
import Derived.Test.YtagpofhencpliaaGreatDoorR39
import Derived.Test.YtagpofhencpliaaGreatDoorR03
import Derived.Test.YtagpofhencpliaaGreatDoorRows
import Derived.Deep.QuietTactic
import Derived.Deep.RegionWith
import Derived.Deep.RegionHeld3
import Derived.BigQuiet
import Derived.Laws.ResultCell
set_option linter.unusedVariables false
set_option linter.unusedSimpArgs false
namespace Go.Proofs.YtagpofhencpliaaGreatDoor
open Go.RowKit
namespace Rq
open Rr (heap_four)
open Er (dv cellV LF LF.of LF.nil LF.mono LF.q LF.put LF.shape LF.lst block_cells some_cells block_set wrapI)
open Ep (SD SD.of SD.q SD.start SD.put SD.room SD.here SD.reset ret_dv ret_dv2)
set_option maxHeartbeats 3200000 in
theorem clamp_bad (g0 g1 g2 : Bool) (v0 v1 v2 : Value) (s0 s1 s2 : Int) (L0 L1 L2 : List Int) (w : World) (h0 : Lst w v0 L0) (h1 : Lst w v1 L1) (h2 : Lst w v2 L2) (hl0 : L0.length < 10000) (hl1 : L1.length < 10000) (hl2 : L2.length < 10000) (hs0 : -9223372036854775808 ≤ s0 ∧ s0 ≤ 9223372036854775807) (hs1 : -9223372036854775808 ≤ s1 ∧ s1 ≤ 9223372036854775807) (hs2 : -9223372036854775808 ≤ s2 ∧ s2 ≤ 9223372036854775807) (hb : ((Dm.okB L0 && decide (0 ≤ s0) && decide (s0 ≤ 1000)) && (Dm.okB L1 && decide (0 ≤ s1) && decide (s1 ≤ 1000)) && (Dm.okB L2 && decide (0 ≤ s2) && decide (s2 ≤ 1000))) = false) :
    Calls Tryz.prog 60 #[dv g0 v0 s0, dv g1 v1 s1, dv g2 v2 s2] w fun e w' => e = .returned (.tuple #[dv false (.slice none 0 0) 0, .int .i64 1]) ∧ Q w w' := by
  obtain ⟨a0, c0, rfl⟩ := h0.shape
  obtain ⟨a1, c1, rfl⟩ := h1.shape
  obtain ⟨a2, c2, rfl⟩ := h2.shape
  have M0 := Lib.hid (fun u (q : Q w u) => Ep.may_any g0 (.slice a0 L0.length c0) s0 L0 u (h0.q q) (by omega) hs0)
  have M1 := Lib.hid (fun u (q : Q w u) => Ep.may_any g1 (.slice a1 L1.length c1) s1 L1 u (h1.q q) (by omega) hs1)
  have M2 := Lib.hid (fun u (q : Q w u) => Ep.may_any g2 (.slice a2 L2.length c2) s2 L2 u (h2.q q) (by omega) hs2)
  unfold dv at M0 M1 M2
  generalize (Dm.okB L0 && decide (0 ≤ s0) && decide (s0 ≤ 1000)) = m0 at *
  generalize L0.length = n0 at *
  generalize (Dm.okB L1 && decide (0 ≤ s1) && decide (s1 ≤ 1000)) = m1 at *
  generalize L1.length = n1 at *
  generalize (Dm.okB L2 && decide (0 ≤ s2) && decide (s2 ≤ 1000)) = m2 at *
  generalize L2.length = n2 at *
  have hcase : (m0 = false) ∨ (m0 = true ∧ m1 = false) ∨ (m0 = true ∧ m1 = true ∧ m2 = false) := by
    revert hb
    cases m0 <;> cases m1 <;> cases m2 <;> simp
  clear h0 h1 h2 hb
  rcases hcase with rfl | ⟨rfl, rfl⟩ | ⟨rfl, rfl, rfl⟩
  ·
    go_enter Tryz.func60, Tryz.ntmps60
    have Q0 := Lib.hid (show Q w ((((w.alloc (.cells #[.bool g0, .slice a0 n0 c0, .int .i64 s0] 36)).alloc (.cells #[.bool g1, .slice a1 n1 c1, .int .i64 s1] 36)).alloc (.cells #[.bool g2, .slice a2 n2 c2, .int .i64 s2] 36)).alloc (.cells #[.bool false, .slice none 0 0, .int .i64 0] 36)) from (((((Q.refl w).alloc (.cells #[.bool g0, .slice a0 n0 c0, .int .i64 s0] 36)).alloc (.cells #[.bool g1, .slice a1 n1 c1, .int .i64 s1] 36)).alloc (.cells #[.bool g2, .slice a2 n2 c2, .int .i64 s2] 36)).alloc (.cells #[.bool false, .slice none 0 0, .int .i64 0] 36)))
    have B0_d := Lib.hid (show ((((w.alloc (.cells #[.bool g0, .slice a0 n0 c0, .int .i64 s0] 36)).alloc (.cells #[.bool g1, .slice a1 n1 c1, .int .i64 s1] 36)).alloc (.cells #[.bool g2, .slice a2 n2 c2, .int .i64 s2] 36)).alloc (.cells #[.bool false, .slice none 0 0, .int .i64 0] 36)).heap[w.heap.size]? = some (.cells #[.bool g0, .slice a0 n0 c0, .int .i64 s0] 36) from (heap_four _ _ _ _ _).1)
    have B0_l := Lib.hid (show ((((w.alloc (.cells #[.bool g0, .slice a0 n0 c0, .int .i64 s0] 36)).alloc (.cells #[.bool g1, .slice a1 n1 c1, .int .i64 s1] 36)).alloc (.cells #[.bool g2, .slice a2 n2 c2, .int .i64 s2] 36)).alloc (.cells #[.bool false, .slice none 0 0, .int .i64 0] 36)).heap[w.heap.size + 1]? = some (.cells #[.bool g1, .slice a1 n1 c1, .int .i64 s1] 36) from (heap_four _ _ _ _ _).2.1)
    have B0_h := Lib.hid (show ((((w.alloc (.cells #[.bool g0, .slice a0 n0 c0, .int .i64 s0] 36)).alloc (.cells #[.bool g1, .slice a1 n1 c1, .int .i64 s1] 36)).alloc (.cells #[.bool g2, .slice a2 n2 c2, .int .i64 s2] 36)).alloc (.cells #[.bool false, .slice none 0 0, .int .i64 0] 36)).heap[w.heap.size + 1 + 1]? = some (.cells #[.bool g2, .slice a2 n2 c2, .int .i64 s2] 36) from (heap_four _ _ _ _ _).2.2.1)
    have B0_R := Lib.hid (show ((((w.alloc (.cells #[.bool g0, .slice a0 n0 c0, .int .i64 s0] 36)).alloc (.cells #[.bool g1, .slice a1 n1 c1, .int .i64 s1] 36)).alloc (.cells #[.bool g2, .slice a2 n2 c2, .int .i64 s2] 36)).alloc (.cells #[.bool false, .slice none 0 0, .int .i64 0] 36)).heap[w.heap.size + 1 + 1 + 1]? = some (.cells #[.bool false, .slice none 0 0, .int .i64 0] 36) from (heap_four _ _ _ _ _).2.2.2)
    unfold dv
    obtain ⟨k_d0, k_d1, k_d2, _, _, _⟩ := Er.block_cells B0_d.out
    obtain ⟨k_l0, k_l1, k_l2, _, _, _⟩ := Er.block_cells B0_l.out
    obtain ⟨k_h0, k_h1, k_h2, _, _, _⟩ := Er.block_cells B0_h.out
    obtain ⟨k_R0, k_R1, k_R2, _, _, _⟩ := Er.block_cells B0_R.out
    go_wp2_with fail
    refine (M0.out _ Q0.out).mono ?_
    rintro e z1 ⟨rfl, hq⟩
    clear k_d0 k_d1 k_d2 k_l0 k_l1 k_l2 k_h0 k_h1 k_h2 k_R0 k_R1 k_R2
    have B1_d := Lib.hid ((Q.block hq (lt_of_block B0_d.out)).trans B0_d.out)
    clear B0_d
    have B1_l := Lib.hid ((Q.block hq (lt_of_block B0_l.out)).trans B0_l.out)
    clear B0_l
    have B1_h := Lib.hid ((Q.block hq (lt_of_block B0_h.out)).trans B0_h.out)
    clear B0_h
    have B1_R := Lib.hid ((Q.block hq (lt_of_block B0_R.out)).trans B0_R.out)
    clear B0_R
    have Q1 := Lib.hid (Q.trans Q0.out hq)
    clear Q0
    clear hq
    have hset := Lib.hid (block_set (x' := .bool false) (y' := .slice none 0 0) (z' := .int .i64 0) B1_R.out)
    have HQE := Lib.hid (Q.setCell (Q.setCell (Q.setCell Q1.out (ad := ⟨w.heap.size + 1 + 1 + 1, 0, none⟩) (by show w.heap.size ≤ w.heap.size + 1 + 1 + 1; omega) (.bool false)) (ad := ⟨w.heap.size + 1 + 1 + 1, 1, none⟩) (by show w.heap.size ≤ w.heap.size + 1 + 1 + 1; omega) (.slice none 0 0)) (ad := ⟨w.heap.size + 1 + 1 + 1, 2, none⟩) (by show w.heap.size ≤ w.heap.size + 1 + 1 + 1; omega) (.int .i64 0))
    obtain ⟨k_d0, k_d1, k_d2, _, _, _⟩ := Er.block_cells B1_d.out
    obtain ⟨k_l0, k_l1, k_l2, _, _, _⟩ := Er.block_cells B1_l.out
    obtain ⟨k_h0, k_h1, k_h2, _, _, _⟩ := Er.block_cells B1_h.out
    obtain ⟨k_R0, k_R1, k_R2, _, _, _⟩ := Er.block_cells B1_R.out
    obtain ⟨_, _, _, r3, r4, r5⟩ := block_cells B1_R.out
    go_wp2_with fail
    exact ret_dv2 rfl rfl rfl hset.out rfl ⟨rfl, HQE.out⟩
  ·
    go_enter Tryz.func60, Tryz.ntmps60
    have Q0 := Lib.hid (show Q w ((((w.alloc (.cells #[.bool g0, .slice a0 n0 c0, .int .i64 s0] 36)).alloc (.cells #[.bool g1, .slice a1 n1 c1, .int .i64 s1] 36)).alloc (.cells #[.bool g2, .slice a2 n2 c2, .int .i64 s2] 36)).alloc (.cells #[.bool false, .slice none 0 0, .int .i64 0] 36)) from (((((Q.refl w).alloc (.cells #[.bool g0, .slice a0 n0 c0, .int .i64 s0] 36)).alloc (.cells #[.bool g1, .slice a1 n1 c1, .int .i64 s1] 36)).alloc (.cells #[.bool g2, .slice a2 n2 c2, .int .i64 s2] 36)).alloc (.cells #[.bool false, .slice none 0 0, .int .i64 0] 36)))
    have B0_d := Lib.hid (show ((((w.alloc (.cells #[.bool g0, .slice a0 n0 c0, .int .i64 s0] 36)).alloc (.cells #[.bool g1, .slice a1 n1 c1, .int .i64 s1] 36)).alloc (.cells #[.bool g2, .slice a2 n2 c2, .int .i64 s2] 36)).alloc (.cells #[.bool false, .slice none 0 0, .int .i64 0] 36)).heap[w.heap.size]? = some (.cells #[.bool g0, .slice a0 n0 c0, .int .i64 s0] 36) from (heap_four _ _ _ _ _).1)
    have B0_l := Lib.hid (show ((((w.alloc (.cells #[.bool g0, .slice a0 n0 c0, .int .i64 s0] 36)).alloc (.cells #[.bool g1, .slice a1 n1 c1, .int .i64 s1] 36)).alloc (.cells #[.bool g2, .slice a2 n2 c2, .int .i64 s2] 36)).alloc (.cells #[.bool false, .slice none 0 0, .int .i64 0] 36)).heap[w.heap.size + 1]? = some (.cells #[.bool g1, .slice a1 n1 c1, .int .i64 s1] 36) from (heap_four _ _ _ _ _).2.1)
    have B0_h := Lib.hid (show ((((w.alloc (.cells #[.bool g0, .slice a0 n0 c0, .int .i64 s0] 36)).alloc (.cells #[.bool g1, .slice a1 n1 c1, .int .i64 s1] 36)).alloc (.cells #[.bool g2, .slice a2 n2 c2, .int .i64 s2] 36)).alloc (.cells #[.bool false, .slice none 0 0, .int .i64 0] 36)).heap[w.heap.size + 1 + 1]? = some (.cells #[.bool g2, .slice a2 n2 c2, .int .i64 s2] 36) from (heap_four _ _ _ _ _).2.2.1)
    have B0_R := Lib.hid (show ((((w.alloc (.cells #[.bool g0, .slice a0 n0 c0, .int .i64 s0] 36)).alloc (.cells #[.bool g1, .slice a1 n1 c1, .int .i64 s1] 36)).alloc (.cells #[.bool g2, .slice a2 n2 c2, .int .i64 s2] 36)).alloc (.cells #[.bool false, .slice none 0 0, .int .i64 0] 36)).heap[w.heap.size + 1 + 1 + 1]? = some (.cells #[.bool false, .slice none 0 0, .int .i64 0] 36) from (heap_four _ _ _ _ _).2.2.2)
    unfold dv
    obtain ⟨k_d0, k_d1, k_d2, _, _, _⟩ := Er.block_cells B0_d.out
    obtain ⟨k_l0, k_l1, k_l2, _, _, _⟩ := Er.block_cells B0_l.out
    obtain ⟨k_h0, k_h1, k_h2, _, _, _⟩ := Er.block_cells B0_h.out
    obtain ⟨k_R0, k_R1, k_R2, _, _, _⟩ := Er.block_cells B0_R.out
    go_wp2_with fail
    refine (M0.out _ Q0.out).mono ?_
    rintro e z1 ⟨rfl, hq⟩
    clear k_d0 k_d1 k_d2 k_l0 k_l1 k_l2 k_h0 k_h1 k_h2 k_R0 k_R1 k_R2
    have B1_d := Lib.hid ((Q.block hq (lt_of_block B0_d.out)).trans B0_d.out)
    clear B0_d
    have B1_l := Lib.hid ((Q.block hq (lt_of_block B0_l.out)).trans B0_l.out)
    clear B0_l
    have B1_h := Lib.hid ((Q.block hq (lt_of_block B0_h.out)).trans B0_h.out)
    clear B0_h
    have B1_R := Lib.hid ((Q.block hq (lt_of_block B0_R.out)).trans B0_R.out)
    clear B0_R
    have Q1 := Lib.hid (Q.trans Q0.out hq)
    clear Q0
    clear hq
    obtain ⟨k_d0, k_d1, k_d2, _, _, _⟩ := Er.block_cells B1_d.out
    obtain ⟨k_l0, k_l1, k_l2, _, _, _⟩ := Er.block_cells B1_l.out
    obtain ⟨k_h0, k_h1, k_h2, _, _, _⟩ := Er.block_cells B1_h.out
    obtain ⟨k_R0, k_R1, k_R2, _, _, _⟩ := Er.block_cells B1_R.out
    go_wp2_with fail
    refine (M1.out _ Q1.out).mono ?_
    rintro e z2 ⟨rfl, hq⟩
    clear k_d0 k_d1 k_d2 k_l0 k_l1 k_l2 k_h0 k_h1 k_h2 k_R0 k_R1 k_R2
    have B2_d := Lib.hid ((Q.block hq (lt_of_block B1_d.out)).trans B1_d.out)
    clear B1_d
    have B2_l := Lib.hid ((Q.block hq (lt_of_block B1_l.out)).trans B1_l.out)
    clear B1_l
    have B2_h := Lib.hid ((Q.block hq (lt_of_block B1_h.out)).trans B1_h.out)
    clear B1_h
    have B2_R := Lib.hid ((Q.block hq (lt_of_block B1_R.out)).trans B1_R.out)
    clear B1_R
    have Q2 := Lib.hid (Q.trans Q1.out hq)
    clear Q1
    clear hq
    have hset := Lib.hid (block_set (x' := .bool false) (y' := .slice none 0 0) (z' := .int .i64 0) B2_R.out)
    have HQE := Lib.hid (Q.setCell (Q.setCell (Q.setCell Q2.out (ad := ⟨w.heap.size + 1 + 1 + 1, 0, none⟩) (by show w.heap.size ≤ w.heap.size + 1 + 1 + 1; omega) (.bool false)) (ad := ⟨w.heap.size + 1 + 1 + 1, 1, none⟩) (by show w.heap.size ≤ w.heap.size + 1 + 1 + 1; omega) (.slice none 0 0)) (ad := ⟨w.heap.size + 1 + 1 + 1, 2, none⟩) (by show w.heap.size ≤ w.heap.size + 1 + 1 + 1; omega) (.int .i64 0))
    obtain ⟨k_d0, k_d1, k_d2, _, _, _⟩ := Er.block_cells B2_d.out
    obtain ⟨k_l0, k_l1, k_l2, _, _, _⟩ := Er.block_cells B2_l.out
    obtain ⟨k_h0, k_h1, k_h2, _, _, _⟩ := Er.block_cells B2_h.out
    obtain ⟨k_R0, k_R1, k_R2, _, _, _⟩ := Er.block_cells B2_R.out
    obtain ⟨_, _, _, r3, r4, r5⟩ := block_cells B2_R.out
    go_wp2_with fail
    exact ret_dv2 rfl rfl rfl hset.out rfl ⟨rfl, HQE.out⟩
  ·
    go_enter Tryz.func60, Tryz.ntmps60
    have Q0 := Lib.hid (show Q w ((((w.alloc (.cells #[.bool g0, .slice a0 n0 c0, .int .i64 s0] 36)).alloc (.cells #[.bool g1, .slice a1 n1 c1, .int .i64 s1] 36)).alloc (.cells #[.bool g2, .slice a2 n2 c2, .int .i64 s2] 36)).alloc (.cells #[.bool false, .slice none 0 0, .int .i64 0] 36)) from (((((Q.refl w).alloc (.cells #[.bool g0, .slice a0 n0 c0, .int .i64 s0] 36)).alloc (.cells #[.bool g1, .slice a1 n1 c1, .int .i64 s1] 36)).alloc (.cells #[.bool g2, .slice a2 n2 c2, .int .i64 s2] 36)).alloc (.cells #[.bool false, .slice none 0 0, .int .i64 0] 36)))
    have B0_d := Lib.hid (show ((((w.alloc (.cells #[.bool g0, .slice a0 n0 c0, .int .i64 s0] 36)).alloc (.cells #[.bool g1, .slice a1 n1 c1, .int .i64 s1] 36)).alloc (.cells #[.bool g2, .slice a2 n2 c2, .int .i64 s2] 36)).alloc (.cells #[.bool false, .slice none 0 0, .int .i64 0] 36)).heap[w.heap.size]? = some (.cells #[.bool g0, .slice a0 n0 c0, .int .i64 s0] 36) from (heap_four _ _ _ _ _).1)
    have B0_l := Lib.hid (show ((((w.alloc (.cells #[.bool g0, .slice a0 n0 c0, .int .i64 s0] 36)).alloc (.cells #[.bool g1, .slice a1 n1 c1, .int .i64 s1] 36)).alloc (.cells #[.bool g2, .slice a2 n2 c2, .int .i64 s2] 36)).alloc (.cells #[.bool false, .slice none 0 0, .int .i64 0] 36)).heap[w.heap.size + 1]? = some (.cells #[.bool g1, .slice a1 n1 c1, .int .i64 s1] 36) from (heap_four _ _ _ _ _).2.1)
    have B0_h := Lib.hid (show ((((w.alloc (.cells #[.bool g0, .slice a0 n0 c0, .int .i64 s0] 36)).alloc (.cells #[.bool g1, .slice a1 n1 c1, .int .i64 s1] 36)).alloc (.cells #[.bool g2, .slice a2 n2 c2, .int .i64 s2] 36)).alloc (.cells #[.bool false, .slice none 0 0, .int .i64 0] 36)).heap[w.heap.size + 1 + 1]? = some (.cells #[.bool g2, .slice a2 n2 c2, .int .i64 s2] 36) from (heap_four _ _ _ _ _).2.2.1)
    have B0_R := Lib.hid (show ((((w.alloc (.cells #[.bool g0, .slice a0 n0 c0, .int .i64 s0] 36)).alloc (.cells #[.bool g1, .slice a1 n1 c1, .int .i64 s1] 36)).alloc (.cells #[.bool g2, .slice a2 n2 c2, .int .i64 s2] 36)).alloc (.cells #[.bool false, .slice none 0 0, .int .i64 0] 36)).heap[w.heap.size + 1 + 1 + 1]? = some (.cells #[.bool false, .slice none 0 0, .int .i64 0] 36) from (heap_four _ _ _ _ _).2.2.2)
    unfold dv
    obtain ⟨k_d0, k_d1, k_d2, _, _, _⟩ := Er.block_cells B0_d.out
    obtain ⟨k_l0, k_l1, k_l2, _, _, _⟩ := Er.block_cells B0_l.out
    obtain ⟨k_h0, k_h1, k_h2, _, _, _⟩ := Er.block_cells B0_h.out
    obtain ⟨k_R0, k_R1, k_R2, _, _, _⟩ := Er.block_cells B0_R.out
    go_wp2_with fail
    refine (M0.out _ Q0.out).mono ?_
    rintro e z1 ⟨rfl, hq⟩
    clear k_d0 k_d1 k_d2 k_l0 k_l1 k_l2 k_h0 k_h1 k_h2 k_R0 k_R1 k_R2
    have B1_d := Lib.hid ((Q.block hq (lt_of_block B0_d.out)).trans B0_d.out)
    clear B0_d
    have B1_l := Lib.hid ((Q.block hq (lt_of_block B0_l.out)).trans B0_l.out)
    clear B0_l
    have B1_h := Lib.hid ((Q.block hq (lt_of_block B0_h.out)).trans B0_h.out)
    clear B0_h
    have B1_R := Lib.hid ((Q.block hq (lt_of_block B0_R.out)).trans B0_R.out)
    clear B0_R
    have Q1 := Lib.hid (Q.trans Q0.out hq)
    clear Q0
    clear hq
    obtain ⟨k_d0, k_d1, k_d2, _, _, _⟩ := Er.block_cells B1_d.out
    obtain ⟨k_l0, k_l1, k_l2, _, _, _⟩ := Er.block_cells B1_l.out
    obtain ⟨k_h0, k_h1, k_h2, _, _, _⟩ := Er.block_cells B1_h.out
    obtain ⟨k_R0, k_R1, k_R2, _, _, _⟩ := Er.block_cells B1_R.out
    go_wp2_with fail
    refine (M1.out _ Q1.out).mono ?_
    rintro e z2 ⟨rfl, hq⟩
    clear k_d0 k_d1 k_d2 k_l0 k_l1 k_l2 k_h0 k_h1 k_h2 k_R0 k_R1 k_R2
    have B2_d := Lib.hid ((Q.block hq (lt_of_block B1_d.out)).trans B1_d.out)
    clear B1_d
    have B2_l := Lib.hid ((Q.block hq (lt_of_block B1_l.out)).trans B1_l.out)
    clear B1_l
    have B2_h := Lib.hid ((Q.block hq (lt_of_block B1_h.out)).trans B1_h.out)
    clear B1_h
    have B2_R := Lib.hid ((Q.block hq (lt_of_block B1_R.out)).trans B1_R.out)
    clear B1_R
    have Q2 := Lib.hid (Q.trans Q1.out hq)
    clear Q1
    clear hq
    obtain ⟨k_d0, k_d1, k_d2, _, _, _⟩ := Er.block_cells B2_d.out
    obtain ⟨k_l0, k_l1, k_l2, _, _, _⟩ := Er.block_cells B2_l.out
    obtain ⟨k_h0, k_h1, k_h2, _, _, _⟩ := Er.block_cells B2_h.out
    obtain ⟨k_R0, k_R1, k_R2, _, _, _⟩ := Er.block_cells B2_R.out
    go_wp2_with fail
    refine (M2.out _ Q2.out).mono ?_
    rintro e z3 ⟨rfl, hq⟩
    clear k_d0 k_d1 k_d2 k_l0 k_l1 k_l2 k_h0 k_h1 k_h2 k_R0 k_R1 k_R2
    have B3_d := Lib.hid ((Q.block hq (lt_of_block B2_d.out)).trans B2_d.out)
    clear B2_d
    have B3_l := Lib.hid ((Q.block hq (lt_of_block B2_l.out)).trans B2_l.out)
    clear B2_l
    have B3_h := Lib.hid ((Q.block hq (lt_of_block B2_h.out)).trans B2_h.out)
    clear B2_h
    have B3_R := Lib.hid ((Q.block hq (lt_of_block B2_R.out)).trans B2_R.out)
    clear B2_R
    have Q3 := Lib.hid (Q.trans Q2.out hq)
    clear Q2
    clear hq
    have hset := Lib.hid (block_set (x' := .bool false) (y' := .slice none 0 0) (z' := .int .i64 0) B3_R.out)
    have HQE := Lib.hid (Q.setCell (Q.setCell (Q.setCell Q3.out (ad := ⟨w.heap.size + 1 + 1 + 1, 0, none⟩) (by show w.heap.size ≤ w.heap.size + 1 + 1 + 1; omega) (.bool false)) (ad := ⟨w.heap.size + 1 + 1 + 1, 1, none⟩) (by show w.heap.size ≤ w.heap.size + 1 + 1 + 1; omega) (.slice none 0 0)) (ad := ⟨w.heap.size + 1 + 1 + 1, 2, none⟩) (by show w.heap.size ≤ w.heap.size + 1 + 1 + 1; omega) (.int .i64 0))
    obtain ⟨k_d0, k_d1, k_d2, _, _, _⟩ := Er.block_cells B3_d.out
    obtain ⟨k_l0, k_l1, k_l2, _, _, _⟩ := Er.block_cells B3_l.out
    obtain ⟨k_h0, k_h1, k_h2, _, _, _⟩ := Er.block_cells B3_h.out
    obtain ⟨k_R0, k_R1, k_R2, _, _, _⟩ := Er.block_cells B3_R.out
    obtain ⟨_, _, _, r3, r4, r5⟩ := block_cells B3_R.out
    go_wp2_with fail
    exact ret_dv2 rfl rfl rfl hset.out rfl ⟨rfl, HQE.out⟩
set_option maxHeartbeats 3200000 in
theorem clamp_low (g0 g1 g2 : Bool) (v0 v1 v2 : Value) (s0 s1 s2 : Nat) (L0 L1 L2 : List Int) (w : World) (h0 : Lst w v0 L0) (h1 : Lst w v1 L1) (h2 : Lst w v2 L2) (hl0 : L0.length < 10000) (hl1 : L1.length < 10000) (hl2 : L2.length < 10000) (hd0 : Dm.okD L0) (hd1 : Dm.okD L1) (hd2 : Dm.okD L2) (hs0 : s0 ≤ 1000) (hs1 : s1 ≤ 1000) (hs2 : s2 ≤ 1000) (hk : ¬ 0 < Dm.cmpD g1 (Dm.num L1) s1 g2 (Dm.num L2) s2) (hk2 : Dm.cmpD g0 (Dm.num L0) s0 g1 (Dm.num L1) s1 < 0) :
    Calls Tryz.prog 60 #[dv g0 v0 s0, dv g1 v1 s1, dv g2 v2 s2] w fun e w' => ∃ u, e = .returned (.tuple #[dv (Dm.cg g1 (Dm.num L1)) u ((Dm.st (Dm.num L1) s1).2 : Nat), .int .i64 0]) ∧ LF w' w.heap.size u (Dm.dg (Dm.st (Dm.num L1) s1).1) ∧ Q w w' := by
  obtain ⟨a0, c0, rfl⟩ := h0.shape
  obtain ⟨a1, c1, rfl⟩ := h1.shape
  obtain ⟨a2, c2, rfl⟩ := h2.shape
  have hok0 := (Dm.okB_iff L0).2 hd0
  have M0 := Lib.hid (fun u (q : Q w u) => (by
    have e := Ep.may_any g0 (.slice a0 L0.length c0) s0 L0 u (h0.q q) (by omega) (by omega)
    rw [hok0, show decide (0 ≤ (s0 : Int)) = true from by simp, show decide ((s0 : Int) ≤ 1000) = true from by simp; omega] at e
    exact e : Calls Tryz.prog 47 #[.agg #[.bool g0, .slice a0 L0.length c0, .int .i64 s0]] u fun e w' => e = .returned (.bool true) ∧ Q u w'))
  have hok1 := (Dm.okB_iff L1).2 hd1
  have M1 := Lib.hid (fun u (q : Q w u) => (by
    have e := Ep.may_any g1 (.slice a1 L1.length c1) s1 L1 u (h1.q q) (by omega) (by omega)
    rw [hok1, show decide (0 ≤ (s1 : Int)) = true from by simp, show decide ((s1 : Int) ≤ 1000) = true from by simp; omega] at e
    exact e : Calls Tryz.prog 47 #[.agg #[.bool g1, .slice a1 L1.length c1, .int .i64 s1]] u fun e w' => e = .returned (.bool true) ∧ Q u w'))
  have hok2 := (Dm.okB_iff L2).2 hd2
  have M2 := Lib.hid (fun u (q : Q w u) => (by
    have e := Ep.may_any g2 (.slice a2 L2.length c2) s2 L2 u (h2.q q) (by omega) (by omega)
    rw [hok2, show decide (0 ≤ (s2 : Int)) = true from by simp, show decide ((s2 : Int) ≤ 1000) = true from by simp; omega] at e
    exact e : Calls Tryz.prog 47 #[.agg #[.bool g2, .slice a2 L2.length c2, .int .i64 s2]] u fun e w' => e = .returned (.bool true) ∧ Q u w'))
  have C12 := Lib.hid (fun u (q : Q w u) => (Ep.compare_any g1 g2 (.slice a1 L1.length c1) (.slice a2 L2.length c2) s1 s2 L1 L2 u (h1.q q) (h2.q q) (by omega) (by omega) hd1 hd2 (by omega) (by omega)))
  have C01 := Lib.hid (fun u (q : Q w u) => (Ep.compare_any g0 g1 (.slice a0 L0.length c0) (.slice a1 L1.length c1) s0 s1 L0 L1 u (h0.q q) (h1.q q) (by omega) (by omega) hd0 hd1 (by omega) (by omega)))
  have C02 := Lib.hid (fun u (q : Q w u) => (Ep.compare_any g0 g2 (.slice a0 L0.length c0) (.slice a2 L2.length c2) s0 s2 L0 L2 u (h0.q q) (h2.q q) (by omega) (by omega) hd0 hd2 (by omega) (by omega)))
  unfold dv at C12 C01 C02
  generalize Dm.cmpD g1 (Dm.num L1) s1 g2 (Dm.num L2) s2 = k12 at *
  generalize Dm.cmpD g0 (Dm.num L0) s0 g1 (Dm.num L1) s1 = k01 at *
  generalize Dm.cmpD g0 (Dm.num L0) s0 g2 (Dm.num L2) s2 = k02 at *
  have T := Lib.hid (fun u (q : Q w u) (hsz : w.heap.size + 4 ≤ u.heap.size) => (by
    refine (Ep.trim_any g1 (.slice a1 L1.length c1) s1 L1 u (h1.q q) (by omega) hd1 (by omega)).mono ?_
    rintro e w' ⟨x, rfl, hx, hq⟩
    obtain ⟨a, c, rfl⟩ := hx.shape
    exact ⟨a, c, rfl, hx.mono (by omega), hq⟩ : Calls Tryz.prog 44 #[.agg #[.bool g1, .slice a1 L1.length c1, .int .i64 s1]] u fun e w' => ∃ a c, e = .returned (.agg #[.bool (Dm.cg g1 (Dm.num L1)), .slice a (Dm.dg (Dm.st (Dm.num L1) s1).1).length c, .int .i64 ((Dm.st (Dm.num L1) s1).2 : Nat)]) ∧ LF w' (w.heap.size + 4) (.slice a (Dm.dg (Dm.st (Dm.num L1) s1).1).length c) (Dm.dg (Dm.st (Dm.num L1) s1).1) ∧ Q u w'))
  generalize Dm.cg g1 (Dm.num L1) = cs at *
  generalize (Dm.st (Dm.num L1) s1).2 = zs at *
  generalize Dm.dg (Dm.st (Dm.num L1) s1).1 = Z at *
  generalize Z.length = r at *
  generalize L0.length = n0 at *
  generalize L1.length = n1 at *
  generalize L2.length = n2 at *
  clear h0 h1 h2 hok0 hok1 hok2 hd0 hd1 hd2
  go_enter Tryz.func60, Tryz.ntmps60
  have Q0 := Lib.hid (show Q w ((((w.alloc (.cells #[.bool g0, .slice a0 n0 c0, .int .i64 s0] 36)).alloc (.cells #[.bool g1, .slice a1 n1 c1, .int .i64 s1] 36)).alloc (.cells #[.bool g2, .slice a2 n2 c2, .int .i64 s2] 36)).alloc (.cells #[.bool false, .slice none 0 0, .int .i64 0] 36)) from (((((Q.refl w).alloc (.cells #[.bool g0, .slice a0 n0 c0, .int .i64 s0] 36)).alloc (.cells #[.bool g1, .slice a1 n1 c1, .int .i64 s1] 36)).alloc (.cells #[.bool g2, .slice a2 n2 c2, .int .i64 s2] 36)).alloc (.cells #[.bool false, .slice none 0 0, .int .i64 0] 36)))
  have B0_d := Lib.hid (show ((((w.alloc (.cells #[.bool g0, .slice a0 n0 c0, .int .i64 s0] 36)).alloc (.cells #[.bool g1, .slice a1 n1 c1, .int .i64 s1] 36)).alloc (.cells #[.bool g2, .slice a2 n2 c2, .int .i64 s2] 36)).alloc (.cells #[.bool false, .slice none 0 0, .int .i64 0] 36)).heap[w.heap.size]? = some (.cells #[.bool g0, .slice a0 n0 c0, .int .i64 s0] 36) from (heap_four _ _ _ _ _).1)
  have B0_l := Lib.hid (show ((((w.alloc (.cells #[.bool g0, .slice a0 n0 c0, .int .i64 s0] 36)).alloc (.cells #[.bool g1, .slice a1 n1 c1, .int .i64 s1] 36)).alloc (.cells #[.bool g2, .slice a2 n2 c2, .int .i64 s2] 36)).alloc (.cells #[.bool false, .slice none 0 0, .int .i64 0] 36)).heap[w.heap.size + 1]? = some (.cells #[.bool g1, .slice a1 n1 c1, .int .i64 s1] 36) from (heap_four _ _ _ _ _).2.1)
  have B0_h := Lib.hid (show ((((w.alloc (.cells #[.bool g0, .slice a0 n0 c0, .int .i64 s0] 36)).alloc (.cells #[.bool g1, .slice a1 n1 c1, .int .i64 s1] 36)).alloc (.cells #[.bool g2, .slice a2 n2 c2, .int .i64 s2] 36)).alloc (.cells #[.bool false, .slice none 0 0, .int .i64 0] 36)).heap[w.heap.size + 1 + 1]? = some (.cells #[.bool g2, .slice a2 n2 c2, .int .i64 s2] 36) from (heap_four _ _ _ _ _).2.2.1)
  have B0_R := Lib.hid (show ((((w.alloc (.cells #[.bool g0, .slice a0 n0 c0, .int .i64 s0] 36)).alloc (.cells #[.bool g1, .slice a1 n1 c1, .int .i64 s1] 36)).alloc (.cells #[.bool g2, .slice a2 n2 c2, .int .i64 s2] 36)).alloc (.cells #[.bool false, .slice none 0 0, .int .i64 0] 36)).heap[w.heap.size + 1 + 1 + 1]? = some (.cells #[.bool false, .slice none 0 0, .int .i64 0] 36) from (heap_four _ _ _ _ _).2.2.2)
  unfold dv
  obtain ⟨k_d0, k_d1, k_d2, _, _, _⟩ := Er.block_cells B0_d.out
  obtain ⟨k_l0, k_l1, k_l2, _, _, _⟩ := Er.block_cells B0_l.out
  obtain ⟨k_h0, k_h1, k_h2, _, _, _⟩ := Er.block_cells B0_h.out
  obtain ⟨k_R0, k_R1, k_R2, _, _, _⟩ := Er.block_cells B0_R.out
  go_wp2_with fail
  refine (M0.out _ Q0.out).mono ?_
  rintro e z1 ⟨rfl, hq⟩
  clear k_d0 k_d1 k_d2 k_l0 k_l1 k_l2 k_h0 k_h1 k_h2 k_R0 k_R1 k_R2
  have B1_d := Lib.hid ((Q.block hq (lt_of_block B0_d.out)).trans B0_d.out)
  clear B0_d
  have B1_l := Lib.hid ((Q.block hq (lt_of_block B0_l.out)).trans B0_l.out)
  clear B0_l
  have B1_h := Lib.hid ((Q.block hq (lt_of_block B0_h.out)).trans B0_h.out)
  clear B0_h
  have B1_R := Lib.hid ((Q.block hq (lt_of_block B0_R.out)).trans B0_R.out)
  clear B0_R
  have Q1 := Lib.hid (Q.trans Q0.out hq)
  clear Q0
  clear hq
  obtain ⟨k_d0, k_d1, k_d2, _, _, _⟩ := Er.block_cells B1_d.out
  obtain ⟨k_l0, k_l1, k_l2, _, _, _⟩ := Er.block_cells B1_l.out
  obtain ⟨k_h0, k_h1, k_h2, _, _, _⟩ := Er.block_cells B1_h.out
  obtain ⟨k_R0, k_R1, k_R2, _, _, _⟩ := Er.block_cells B1_R.out
  go_wp2_with fail
  refine (M1.out _ Q1.out).mono ?_
  rintro e z2 ⟨rfl, hq⟩
  clear k_d0 k_d1 k_d2 k_l0 k_l1 k_l2 k_h0 k_h1 k_h2 k_R0 k_R1 k_R2
  have B2_d := Lib.hid ((Q.block hq (lt_of_block B1_d.out)).trans B1_d.out)
  clear B1_d
  have B2_l := Lib.hid ((Q.block hq (lt_of_block B1_l.out)).trans B1_l.out)
  clear B1_l
  have B2_h := Lib.hid ((Q.block hq (lt_of_block B1_h.out)).trans B1_h.out)
  clear B1_h
  have B2_R := Lib.hid ((Q.block hq (lt_of_block B1_R.out)).trans B1_R.out)
  clear B1_R
  have Q2 := Lib.hid (Q.trans Q1.out hq)
  clear Q1
  clear hq
  obtain ⟨k_d0, k_d1, k_d2, _, _, _⟩ := Er.block_cells B2_d.out
  obtain ⟨k_l0, k_l1, k_l2, _, _, _⟩ := Er.block_cells B2_l.out
  obtain ⟨k_h0, k_h1, k_h2, _, _, _⟩ := Er.block_cells B2_h.out
  obtain ⟨k_R0, k_R1, k_R2, _, _, _⟩ := Er.block_cells B2_R.out
  go_wp2_with fail
  refine (M2.out _ Q2.out).mono ?_
  rintro e z3 ⟨rfl, hq⟩
  clear k_d0 k_d1 k_d2 k_l0 k_l1 k_l2 k_h0 k_h1 k_h2 k_R0 k_R1 k_R2
  have B3_d := Lib.hid ((Q.block hq (lt_of_block B2_d.out)).trans B2_d.out)
  clear B2_d
  have B3_l := Lib.hid ((Q.block hq (lt_of_block B2_l.out)).trans B2_l.out)
  clear B2_l
  have B3_h := Lib.hid ((Q.block hq (lt_of_block B2_h.out)).trans B2_h.out)
  clear B2_h
  have B3_R := Lib.hid ((Q.block hq (lt_of_block B2_R.out)).trans B2_R.out)
  clear B2_R
  have Q3 := Lib.hid (Q.trans Q2.out hq)
  clear Q2
  clear hq
  obtain ⟨k_d0, k_d1, k_d2, _, _, _⟩ := Er.block_cells B3_d.out
  obtain ⟨k_l0, k_l1, k_l2, _, _, _⟩ := Er.block_cells B3_l.out
  obtain ⟨k_h0, k_h1, k_h2, _, _, _⟩ := Er.block_cells B3_h.out
  obtain ⟨k_R0, k_R1, k_R2, _, _, _⟩ := Er.block_cells B3_R.out
  go_wp2_with fail
  refine (C12.out _ Q3.out).mono ?_
  rintro e z4 ⟨rfl, hq⟩
  clear k_d0 k_d1 k_d2 k_l0 k_l1 k_l2 k_h0 k_h1 k_h2 k_R0 k_R1 k_R2
  have B4_d := Lib.hid ((Q.block hq (lt_of_block B3_d.out)).trans B3_d.out)
  clear B3_d
  have B4_l := Lib.hid ((Q.block hq (lt_of_block B3_l.out)).trans B3_l.out)
  clear B3_l
  have B4_h := Lib.hid ((Q.block hq (lt_of_block B3_h.out)).trans B3_h.out)
  clear B3_h
  have B4_R := Lib.hid ((Q.block hq (lt_of_block B3_R.out)).trans B3_R.out)
  clear B3_R
  have Q4 := Lib.hid (Q.trans Q3.out hq)
  clear Q3
  clear hq
  have hk1 : k12 ≤ 0 := by omega
  have hk1n : ¬ 0 < k12 := by omega
  obtain ⟨k_d0, k_d1, k_d2, _, _, _⟩ := Er.block_cells B4_d.out
  obtain ⟨k_l0, k_l1, k_l2, _, _, _⟩ := Er.block_cells B4_l.out
  obtain ⟨k_h0, k_h1, k_h2, _, _, _⟩ := Er.block_cells B4_h.out
  obtain ⟨k_R0, k_R1, k_R2, _, _, _⟩ := Er.block_cells B4_R.out
  go_wp2_with fail
  refine (C01.out _ Q4.out).mono ?_
  rintro e z5 ⟨rfl, hq⟩
  clear k_d0 k_d1 k_d2 k_l0 k_l1 k_l2 k_h0 k_h1 k_h2 k_R0 k_R1 k_R2
  have B5_d := Lib.hid ((Q.block hq (lt_of_block B4_d.out)).trans B4_d.out)
  clear B4_d
  have B5_l := Lib.hid ((Q.block hq (lt_of_block B4_l.out)).trans B4_l.out)
  clear B4_l
  have B5_h := Lib.hid ((Q.block hq (lt_of_block B4_h.out)).trans B4_h.out)
  clear B4_h
  have B5_R := Lib.hid ((Q.block hq (lt_of_block B4_R.out)).trans B4_R.out)
  clear B4_R
  have Q5 := Lib.hid (Q.trans Q4.out hq)
  clear Q4
  clear hq
  have T_l := Lib.hid (two_set B5_d.out B5_l.out (by omega) (.bool g1) (.slice a1 n1 c1) (.int .i64 s1)).2
  have T_h := Lib.hid (two_set B5_d.out B5_h.out (by omega) (.bool g1) (.slice a1 n1 c1) (.int .i64 s1)).2
  have T_R := Lib.hid (two_set B5_d.out B5_R.out (by omega) (.bool g1) (.slice a1 n1 c1) (.int .i64 s1)).2
  have T_d := Lib.hid (two_set B5_d.out B5_R.out (by omega) (.bool g1) (.slice a1 n1 c1) (.int .i64 s1)).1
  have T_Q := Lib.hid (Q.setCell (Q.setCell (Q.setCell Q5.out (ad := ⟨w.heap.size, 0, none⟩) (Nat.le_refl _) (.bool g1)) (ad := ⟨w.heap.size, 1, none⟩) (Nat.le_refl _) (.slice a1 n1 c1)) (ad := ⟨w.heap.size, 2, none⟩) (Nat.le_refl _) (.int .i64 s1))
  obtain ⟨k_d0, k_d1, k_d2, _, _, _⟩ := Er.block_cells B5_d.out
  obtain ⟨k_l0, k_l1, k_l2, _, _, _⟩ := Er.block_cells B5_l.out
  obtain ⟨k_h0, k_h1, k_h2, _, _, _⟩ := Er.block_cells B5_h.out
  obtain ⟨k_R0, k_R1, k_R2, _, _, _⟩ := Er.block_cells B5_R.out
  obtain ⟨_, _, _, r0, r1, r2⟩ := block_cells B5_d.out
  obtain ⟨t0, t1, t2, _, _, _⟩ := block_cells T_d.out
  have hsz := Lib.hid (show w.heap.size + 4 ≤ Array.size (World.heap (((z5.setCell ⟨w.heap.size, 0, none⟩ (.bool g1)).setCell ⟨w.heap.size, 1, none⟩ (.slice a1 n1 c1)).setCell ⟨w.heap.size, 2, none⟩ (.int .i64 s1))) from lt_of_block T_R.out)
  go_wp2_with fail
  refine (T.out _ T_Q.out hsz.out).mono ?_
  rintro e zt ⟨xa, xc, rfl, hlf, hq⟩
  clear r0 r1 r2 t0 t1 t2 hsz k_d0 k_d1 k_d2 k_l0 k_l1 k_l2 k_h0 k_h1 k_h2 k_R0 k_R1 k_R2
  have B7_d := Lib.hid ((Q.block hq (lt_of_block T_d.out)).trans T_d.out)
  clear T_d
  have B7_l := Lib.hid ((Q.block hq (lt_of_block T_l.out)).trans T_l.out)
  clear T_l
  have B7_h := Lib.hid ((Q.block hq (lt_of_block T_h.out)).trans T_h.out)
  clear T_h
  have B7_R := Lib.hid ((Q.block hq (lt_of_block T_R.out)).trans T_R.out)
  clear T_R
  have Q7 := Lib.hid (Q.trans T_Q.out hq)
  clear T_Q
  clear hq
  have HLF := Lib.hid hlf
  clear hlf
  have hset := Lib.hid (block_set (x' := .bool cs) (y' := .slice xa r xc) (z' := .int .i64 zs) B7_R.out)
  have hlr := Lib.hid (LF.put (r := w.heap.size + 1 + 1 + 1) HLF.out (by omega) (.bool cs) (.slice xa r xc) (.int .i64 zs))
  have HQE := Lib.hid (Q.setCell (Q.setCell (Q.setCell Q7.out (ad := ⟨w.heap.size + 1 + 1 + 1, 0, none⟩) (by show w.heap.size ≤ w.heap.size + 1 + 1 + 1; omega) (.bool cs)) (ad := ⟨w.heap.size + 1 + 1 + 1, 1, none⟩) (by show w.heap.size ≤ w.heap.size + 1 + 1 + 1; omega) (.slice xa r xc)) (ad := ⟨w.heap.size + 1 + 1 + 1, 2, none⟩) (by show w.heap.size ≤ w.heap.size + 1 + 1 + 1; omega) (.int .i64 zs))
  obtain ⟨k_d0, k_d1, k_d2, _, _, _⟩ := Er.block_cells B7_d.out
  obtain ⟨k_l0, k_l1, k_l2, _, _, _⟩ := Er.block_cells B7_l.out
  obtain ⟨k_h0, k_h1, k_h2, _, _, _⟩ := Er.block_cells B7_h.out
  obtain ⟨k_R0, k_R1, k_R2, _, _, _⟩ := Er.block_cells B7_R.out
  obtain ⟨_, _, _, r3, r4, r5⟩ := block_cells B7_R.out
  go_wp2_with fail
  exact ret_dv2 rfl rfl rfl hset.out rfl ⟨_, rfl, hlr.out.mono (by omega), HQE.out⟩
set_option maxHeartbeats 3200000 in
theorem clamp_high (g0 g1 g2 : Bool) (v0 v1 v2 : Value) (s0 s1 s2 : Nat) (L0 L1 L2 : List Int) (w : World) (h0 : Lst w v0 L0) (h1 : Lst w v1 L1) (h2 : Lst w v2 L2) (hl0 : L0.length < 10000) (hl1 : L1.length < 10000) (hl2 : L2.length < 10000) (hd0 : Dm.okD L0) (hd1 : Dm.okD L1) (hd2 : Dm.okD L2) (hs0 : s0 ≤ 1000) (hs1 : s1 ≤ 1000) (hs2 : s2 ≤ 1000) (hk : ¬ 0 < Dm.cmpD g1 (Dm.num L1) s1 g2 (Dm.num L2) s2) (hk2 : ¬ Dm.cmpD g0 (Dm.num L0) s0 g1 (Dm.num L1) s1 < 0) (hk3 : 0 < Dm.cmpD g0 (Dm.num L0) s0 g2 (Dm.num L2) s2) :
    Calls Tryz.prog 60 #[dv g0 v0 s0, dv g1 v1 s1, dv g2 v2 s2] w fun e w' => ∃ u, e = .returned (.tuple #[dv (Dm.cg g2 (Dm.num L2)) u ((Dm.st (Dm.num L2) s2).2 : Nat), .int .i64 0]) ∧ LF w' w.heap.size u (Dm.dg (Dm.st (Dm.num L2) s2).1) ∧ Q w w' := by
  obtain ⟨a0, c0, rfl⟩ := h0.shape
  obtain ⟨a1, c1, rfl⟩ := h1.shape
  obtain ⟨a2, c2, rfl⟩ := h2.shape
  have hok0 := (Dm.okB_iff L0).2 hd0
  have M0 := Lib.hid (fun u (q : Q w u) => (by
    have e := Ep.may_any g0 (.slice a0 L0.length c0) s0 L0 u (h0.q q) (by omega) (by omega)
    rw [hok0, show decide (0 ≤ (s0 : Int)) = true from by simp, show decide ((s0 : Int) ≤ 1000) = true from by simp; omega] at e
    exact e : Calls Tryz.prog 47 #[.agg #[.bool g0, .slice a0 L0.length c0, .int .i64 s0]] u fun e w' => e = .returned (.bool true) ∧ Q u w'))
  have hok1 := (Dm.okB_iff L1).2 hd1
  have M1 := Lib.hid (fun u (q : Q w u) => (by
    have e := Ep.may_any g1 (.slice a1 L1.length c1) s1 L1 u (h1.q q) (by omega) (by omega)
    rw [hok1, show decide (0 ≤ (s1 : Int)) = true from by simp, show decide ((s1 : Int) ≤ 1000) = true from by simp; omega] at e
    exact e : Calls Tryz.prog 47 #[.agg #[.bool g1, .slice a1 L1.length c1, .int .i64 s1]] u fun e w' => e = .returned (.bool true) ∧ Q u w'))
  have hok2 := (Dm.okB_iff L2).2 hd2
  have M2 := Lib.hid (fun u (q : Q w u) => (by
    have e := Ep.may_any g2 (.slice a2 L2.length c2) s2 L2 u (h2.q q) (by omega) (by omega)
    rw [hok2, show decide (0 ≤ (s2 : Int)) = true from by simp, show decide ((s2 : Int) ≤ 1000) = true from by simp; omega] at e
    exact e : Calls Tryz.prog 47 #[.agg #[.bool g2, .slice a2 L2.length c2, .int .i64 s2]] u fun e w' => e = .returned (.bool true) ∧ Q u w'))
  have C12 := Lib.hid (fun u (q : Q w u) => (Ep.compare_any g1 g2 (.slice a1 L1.length c1) (.slice a2 L2.length c2) s1 s2 L1 L2 u (h1.q q) (h2.q q) (by omega) (by omega) hd1 hd2 (by omega) (by omega)))
  have C01 := Lib.hid (fun u (q : Q w u) => (Ep.compare_any g0 g1 (.slice a0 L0.length c0) (.slice a1 L1.length c1) s0 s1 L0 L1 u (h0.q q) (h1.q q) (by omega) (by omega) hd0 hd1 (by omega) (by omega)))
  have C02 := Lib.hid (fun u (q : Q w u) => (Ep.compare_any g0 g2 (.slice a0 L0.length c0) (.slice a2 L2.length c2) s0 s2 L0 L2 u (h0.q q) (h2.q q) (by omega) (by omega) hd0 hd2 (by omega) (by omega)))
  unfold dv at C12 C01 C02
  generalize Dm.cmpD g1 (Dm.num L1) s1 g2 (Dm.num L2) s2 = k12 at *
  generalize Dm.cmpD g0 (Dm.num L0) s0 g1 (Dm.num L1) s1 = k01 at *
  generalize Dm.cmpD g0 (Dm.num L0) s0 g2 (Dm.num L2) s2 = k02 at *
  have T := Lib.hid (fun u (q : Q w u) (hsz : w.heap.size + 4 ≤ u.heap.size) => (by
    refine (Ep.trim_any g2 (.slice a2 L2.length c2) s2 L2 u (h2.q q) (by omega) hd2 (by omega)).mono ?_
    rintro e w' ⟨x, rfl, hx, hq⟩
    obtain ⟨a, c, rfl⟩ := hx.shape
    exact ⟨a, c, rfl, hx.mono (by omega), hq⟩ : Calls Tryz.prog 44 #[.agg #[.bool g2, .slice a2 L2.length c2, .int .i64 s2]] u fun e w' => ∃ a c, e = .returned (.agg #[.bool (Dm.cg g2 (Dm.num L2)), .slice a (Dm.dg (Dm.st (Dm.num L2) s2).1).length c, .int .i64 ((Dm.st (Dm.num L2) s2).2 : Nat)]) ∧ LF w' (w.heap.size + 4) (.slice a (Dm.dg (Dm.st (Dm.num L2) s2).1).length c) (Dm.dg (Dm.st (Dm.num L2) s2).1) ∧ Q u w'))
  generalize Dm.cg g2 (Dm.num L2) = cs at *
  generalize (Dm.st (Dm.num L2) s2).2 = zs at *
  generalize Dm.dg (Dm.st (Dm.num L2) s2).1 = Z at *
  generalize Z.length = r at *
  generalize L0.length = n0 at *
  generalize L1.length = n1 at *
  generalize L2.length = n2 at *
  clear h0 h1 h2 hok0 hok1 hok2 hd0 hd1 hd2
  go_enter Tryz.func60, Tryz.ntmps60
  have Q0 := Lib.hid (show Q w ((((w.alloc (.cells #[.bool g0, .slice a0 n0 c0, .int .i64 s0] 36)).alloc (.cells #[.bool g1, .slice a1 n1 c1, .int .i64 s1] 36)).alloc (.cells #[.bool g2, .slice a2 n2 c2, .int .i64 s2] 36)).alloc (.cells #[.bool false, .slice none 0 0, .int .i64 0] 36)) from (((((Q.refl w).alloc (.cells #[.bool g0, .slice a0 n0 c0, .int .i64 s0] 36)).alloc (.cells #[.bool g1, .slice a1 n1 c1, .int .i64 s1] 36)).alloc (.cells #[.bool g2, .slice a2 n2 c2, .int .i64 s2] 36)).alloc (.cells #[.bool false, .slice none 0 0, .int .i64 0] 36)))
  have B0_d := Lib.hid (show ((((w.alloc (.cells #[.bool g0, .slice a0 n0 c0, .int .i64 s0] 36)).alloc (.cells #[.bool g1, .slice a1 n1 c1, .int .i64 s1] 36)).alloc (.cells #[.bool g2, .slice a2 n2 c2, .int .i64 s2] 36)).alloc (.cells #[.bool false, .slice none 0 0, .int .i64 0] 36)).heap[w.heap.size]? = some (.cells #[.bool g0, .slice a0 n0 c0, .int .i64 s0] 36) from (heap_four _ _ _ _ _).1)
  have B0_l := Lib.hid (show ((((w.alloc (.cells #[.bool g0, .slice a0 n0 c0, .int .i64 s0] 36)).alloc (.cells #[.bool g1, .slice a1 n1 c1, .int .i64 s1] 36)).alloc (.cells #[.bool g2, .slice a2 n2 c2, .int .i64 s2] 36)).alloc (.cells #[.bool false, .slice none 0 0, .int .i64 0] 36)).heap[w.heap.size + 1]? = some (.cells #[.bool g1, .slice a1 n1 c1, .int .i64 s1] 36) from (heap_four _ _ _ _ _).2.1)
  have B0_h := Lib.hid (show ((((w.alloc (.cells #[.bool g0, .slice a0 n0 c0, .int .i64 s0] 36)).alloc (.cells #[.bool g1, .slice a1 n1 c1, .int .i64 s1] 36)).alloc (.cells #[.bool g2, .slice a2 n2 c2, .int .i64 s2] 36)).alloc (.cells #[.bool false, .slice none 0 0, .int .i64 0] 36)).heap[w.heap.size + 1 + 1]? = some (.cells #[.bool g2, .slice a2 n2 c2, .int .i64 s2] 36) from (heap_four _ _ _ _ _).2.2.1)
  have B0_R := Lib.hid (show ((((w.alloc (.cells #[.bool g0, .slice a0 n0 c0, .int .i64 s0] 36)).alloc (.cells #[.bool g1, .slice a1 n1 c1, .int .i64 s1] 36)).alloc (.cells #[.bool g2, .slice a2 n2 c2, .int .i64 s2] 36)).alloc (.cells #[.bool false, .slice none 0 0, .int .i64 0] 36)).heap[w.heap.size + 1 + 1 + 1]? = some (.cells #[.bool false, .slice none 0 0, .int .i64 0] 36) from (heap_four _ _ _ _ _).2.2.2)
  unfold dv
  obtain ⟨k_d0, k_d1, k_d2, _, _, _⟩ := Er.block_cells B0_d.out
  obtain ⟨k_l0, k_l1, k_l2, _, _, _⟩ := Er.block_cells B0_l.out
  obtain ⟨k_h0, k_h1, k_h2, _, _, _⟩ := Er.block_cells B0_h.out
  obtain ⟨k_R0, k_R1, k_R2, _, _, _⟩ := Er.block_cells B0_R.out
  go_wp2_with fail
  refine (M0.out _ Q0.out).mono ?_
  rintro e z1 ⟨rfl, hq⟩
  clear k_d0 k_d1 k_d2 k_l0 k_l1 k_l2 k_h0 k_h1 k_h2 k_R0 k_R1 k_R2
  have B1_d := Lib.hid ((Q.block hq (lt_of_block B0_d.out)).trans B0_d.out)
  clear B0_d
  have B1_l := Lib.hid ((Q.block hq (lt_of_block B0_l.out)).trans B0_l.out)
  clear B0_l
  have B1_h := Lib.hid ((Q.block hq (lt_of_block B0_h.out)).trans B0_h.out)
  clear B0_h
  have B1_R := Lib.hid ((Q.block hq (lt_of_block B0_R.out)).trans B0_R.out)
  clear B0_R
  have Q1 := Lib.hid (Q.trans Q0.out hq)
  clear Q0
  clear hq
  obtain ⟨k_d0, k_d1, k_d2, _, _, _⟩ := Er.block_cells B1_d.out
  obtain ⟨k_l0, k_l1, k_l2, _, _, _⟩ := Er.block_cells B1_l.out
  obtain ⟨k_h0, k_h1, k_h2, _, _, _⟩ := Er.block_cells B1_h.out
  obtain ⟨k_R0, k_R1, k_R2, _, _, _⟩ := Er.block_cells B1_R.out
  go_wp2_with fail
  refine (M1.out _ Q1.out).mono ?_
  rintro e z2 ⟨rfl, hq⟩
  clear k_d0 k_d1 k_d2 k_l0 k_l1 k_l2 k_h0 k_h1 k_h2 k_R0 k_R1 k_R2
  have B2_d := Lib.hid ((Q.block hq (lt_of_block B1_d.out)).trans B1_d.out)
  clear B1_d
  have B2_l := Lib.hid ((Q.block hq (lt_of_block B1_l.out)).trans B1_l.out)
  clear B1_l
  have B2_h := Lib.hid ((Q.block hq (lt_of_block B1_h.out)).trans B1_h.out)
  clear B1_h
  have B2_R := Lib.hid ((Q.block hq (lt_of_block B1_R.out)).trans B1_R.out)
  clear B1_R
  have Q2 := Lib.hid (Q.trans Q1.out hq)
  clear Q1
  clear hq
  obtain ⟨k_d0, k_d1, k_d2, _, _, _⟩ := Er.block_cells B2_d.out
  obtain ⟨k_l0, k_l1, k_l2, _, _, _⟩ := Er.block_cells B2_l.out
  obtain ⟨k_h0, k_h1, k_h2, _, _, _⟩ := Er.block_cells B2_h.out
  obtain ⟨k_R0, k_R1, k_R2, _, _, _⟩ := Er.block_cells B2_R.out
  go_wp2_with fail
  refine (M2.out _ Q2.out).mono ?_
  rintro e z3 ⟨rfl, hq⟩
  clear k_d0 k_d1 k_d2 k_l0 k_l1 k_l2 k_h0 k_h1 k_h2 k_R0 k_R1 k_R2
  have B3_d := Lib.hid ((Q.block hq (lt_of_block B2_d.out)).trans B2_d.out)
  clear B2_d
  have B3_l := Lib.hid ((Q.block hq (lt_of_block B2_l.out)).trans B2_l.out)
  clear B2_l
  have B3_h := Lib.hid ((Q.block hq (lt_of_block B2_h.out)).trans B2_h.out)
  clear B2_h
  have B3_R := Lib.hid ((Q.block hq (lt_of_block B2_R.out)).trans B2_R.out)
  clear B2_R
  have Q3 := Lib.hid (Q.trans Q2.out hq)
  clear Q2
  clear hq
  obtain ⟨k_d0, k_d1, k_d2, _, _, _⟩ := Er.block_cells B3_d.out
  obtain ⟨k_l0, k_l1, k_l2, _, _, _⟩ := Er.block_cells B3_l.out
  obtain ⟨k_h0, k_h1, k_h2, _, _, _⟩ := Er.block_cells B3_h.out
  obtain ⟨k_R0, k_R1, k_R2, _, _, _⟩ := Er.block_cells B3_R.out
  go_wp2_with fail
  refine (C12.out _ Q3.out).mono ?_
  rintro e z4 ⟨rfl, hq⟩
  clear k_d0 k_d1 k_d2 k_l0 k_l1 k_l2 k_h0 k_h1 k_h2 k_R0 k_R1 k_R2
  have B4_d := Lib.hid ((Q.block hq (lt_of_block B3_d.out)).trans B3_d.out)
  clear B3_d
  have B4_l := Lib.hid ((Q.block hq (lt_of_block B3_l.out)).trans B3_l.out)
  clear B3_l
  have B4_h := Lib.hid ((Q.block hq (lt_of_block B3_h.out)).trans B3_h.out)
  clear B3_h
  have B4_R := Lib.hid ((Q.block hq (lt_of_block B3_R.out)).trans B3_R.out)
  clear B3_R
  have Q4 := Lib.hid (Q.trans Q3.out hq)
  clear Q3
  clear hq
  have hk1 : k12 ≤ 0 := by omega
  have hk1n : ¬ 0 < k12 := by omega
  obtain ⟨k_d0, k_d1, k_d2, _, _, _⟩ := Er.block_cells B4_d.out
  obtain ⟨k_l0, k_l1, k_l2, _, _, _⟩ := Er.block_cells B4_l.out
  obtain ⟨k_h0, k_h1, k_h2, _, _, _⟩ := Er.block_cells B4_h.out
  obtain ⟨k_R0, k_R1, k_R2, _, _, _⟩ := Er.block_cells B4_R.out
  go_wp2_with fail
  refine (C01.out _ Q4.out).mono ?_
  rintro e z5 ⟨rfl, hq⟩
  clear k_d0 k_d1 k_d2 k_l0 k_l1 k_l2 k_h0 k_h1 k_h2 k_R0 k_R1 k_R2
  have B5_d := Lib.hid ((Q.block hq (lt_of_block B4_d.out)).trans B4_d.out)
  clear B4_d
  have B5_l := Lib.hid ((Q.block hq (lt_of_block B4_l.out)).trans B4_l.out)
  clear B4_l
  have B5_h := Lib.hid ((Q.block hq (lt_of_block B4_h.out)).trans B4_h.out)
  clear B4_h
  have B5_R := Lib.hid ((Q.block hq (lt_of_block B4_R.out)).trans B4_R.out)
  clear B4_R
  have Q5 := Lib.hid (Q.trans Q4.out hq)
  clear Q4
  clear hq
  have hk2n : 0 ≤ k01 := by omega
  obtain ⟨k_d0, k_d1, k_d2, _, _, _⟩ := Er.block_cells B5_d.out
  obtain ⟨k_l0, k_l1, k_l2, _, _, _⟩ := Er.block_cells B5_l.out
  obtain ⟨k_h0, k_h1, k_h2, _, _, _⟩ := Er.block_cells B5_h.out
  obtain ⟨k_R0, k_R1, k_R2, _, _, _⟩ := Er.block_cells B5_R.out
  go_wp2_with fail
  refine (C02.out _ Q5.out).mono ?_
  rintro e z6 ⟨rfl, hq⟩
  clear k_d0 k_d1 k_d2 k_l0 k_l1 k_l2 k_h0 k_h1 k_h2 k_R0 k_R1 k_R2
  have B6_d := Lib.hid ((Q.block hq (lt_of_block B5_d.out)).trans B5_d.out)
  clear B5_d
  have B6_l := Lib.hid ((Q.block hq (lt_of_block B5_l.out)).trans B5_l.out)
  clear B5_l
  have B6_h := Lib.hid ((Q.block hq (lt_of_block B5_h.out)).trans B5_h.out)
  clear B5_h
  have B6_R := Lib.hid ((Q.block hq (lt_of_block B5_R.out)).trans B5_R.out)
  clear B5_R
  have Q6 := Lib.hid (Q.trans Q5.out hq)
  clear Q5
  clear hq
  have T_l := Lib.hid (two_set B6_d.out B6_l.out (by omega) (.bool g2) (.slice a2 n2 c2) (.int .i64 s2)).2
  have T_h := Lib.hid (two_set B6_d.out B6_h.out (by omega) (.bool g2) (.slice a2 n2 c2) (.int .i64 s2)).2
  have T_R := Lib.hid (two_set B6_d.out B6_R.out (by omega) (.bool g2) (.slice a2 n2 c2) (.int .i64 s2)).2
  have T_d := Lib.hid (two_set B6_d.out B6_R.out (by omega) (.bool g2) (.slice a2 n2 c2) (.int .i64 s2)).1
  have T_Q := Lib.hid (Q.setCell (Q.setCell (Q.setCell Q6.out (ad := ⟨w.heap.size, 0, none⟩) (Nat.le_refl _) (.bool g2)) (ad := ⟨w.heap.size, 1, none⟩) (Nat.le_refl _) (.slice a2 n2 c2)) (ad := ⟨w.heap.size, 2, none⟩) (Nat.le_refl _) (.int .i64 s2))
  obtain ⟨k_d0, k_d1, k_d2, _, _, _⟩ := Er.block_cells B6_d.out
  obtain ⟨k_l0, k_l1, k_l2, _, _, _⟩ := Er.block_cells B6_l.out
  obtain ⟨k_h0, k_h1, k_h2, _, _, _⟩ := Er.block_cells B6_h.out
  obtain ⟨k_R0, k_R1, k_R2, _, _, _⟩ := Er.block_cells B6_R.out
  obtain ⟨_, _, _, r0, r1, r2⟩ := block_cells B6_d.out
  obtain ⟨t0, t1, t2, _, _, _⟩ := block_cells T_d.out
  have hsz := Lib.hid (show w.heap.size + 4 ≤ Array.size (World.heap (((z6.setCell ⟨w.heap.size, 0, none⟩ (.bool g2)).setCell ⟨w.heap.size, 1, none⟩ (.slice a2 n2 c2)).setCell ⟨w.heap.size, 2, none⟩ (.int .i64 s2))) from lt_of_block T_R.out)
  go_wp2_with fail
  refine (T.out _ T_Q.out hsz.out).mono ?_
  rintro e zt ⟨xa, xc, rfl, hlf, hq⟩
  clear r0 r1 r2 t0 t1 t2 hsz k_d0 k_d1 k_d2 k_l0 k_l1 k_l2 k_h0 k_h1 k_h2 k_R0 k_R1 k_R2
  have B8_d := Lib.hid ((Q.block hq (lt_of_block T_d.out)).trans T_d.out)
  clear T_d
  have B8_l := Lib.hid ((Q.block hq (lt_of_block T_l.out)).trans T_l.out)
  clear T_l
  have B8_h := Lib.hid ((Q.block hq (lt_of_block T_h.out)).trans T_h.out)
  clear T_h
  have B8_R := Lib.hid ((Q.block hq (lt_of_block T_R.out)).trans T_R.out)
  clear T_R
  have Q8 := Lib.hid (Q.trans T_Q.out hq)
  clear T_Q
  clear hq
  have HLF := Lib.hid hlf
  clear hlf
  have hset := Lib.hid (block_set (x' := .bool cs) (y' := .slice xa r xc) (z' := .int .i64 zs) B8_R.out)
  have hlr := Lib.hid (LF.put (r := w.heap.size + 1 + 1 + 1) HLF.out (by omega) (.bool cs) (.slice xa r xc) (.int .i64 zs))
  have HQE := Lib.hid (Q.setCell (Q.setCell (Q.setCell Q8.out (ad := ⟨w.heap.size + 1 + 1 + 1, 0, none⟩) (by show w.heap.size ≤ w.heap.size + 1 + 1 + 1; omega) (.bool cs)) (ad := ⟨w.heap.size + 1 + 1 + 1, 1, none⟩) (by show w.heap.size ≤ w.heap.size + 1 + 1 + 1; omega) (.slice xa r xc)) (ad := ⟨w.heap.size + 1 + 1 + 1, 2, none⟩) (by show w.heap.size ≤ w.heap.size + 1 + 1 + 1; omega) (.int .i64 zs))
  obtain ⟨k_d0, k_d1, k_d2, _, _, _⟩ := Er.block_cells B8_d.out
  obtain ⟨k_l0, k_l1, k_l2, _, _, _⟩ := Er.block_cells B8_l.out
  obtain ⟨k_h0, k_h1, k_h2, _, _, _⟩ := Er.block_cells B8_h.out
  obtain ⟨k_R0, k_R1, k_R2, _, _, _⟩ := Er.block_cells B8_R.out
  obtain ⟨_, _, _, r3, r4, r5⟩ := block_cells B8_R.out
  go_wp2_with fail
  exact ret_dv2 rfl rfl rfl hset.out rfl ⟨_, rfl, hlr.out.mono (by omega), HQE.out⟩
set_option maxHeartbeats 3200000 in
theorem clamp_mid (g0 g1 g2 : Bool) (v0 v1 v2 : Value) (s0 s1 s2 : Nat) (L0 L1 L2 : List Int) (w : World) (h0 : Lst w v0 L0) (h1 : Lst w v1 L1) (h2 : Lst w v2 L2) (hl0 : L0.length < 10000) (hl1 : L1.length < 10000) (hl2 : L2.length < 10000) (hd0 : Dm.okD L0) (hd1 : Dm.okD L1) (hd2 : Dm.okD L2) (hs0 : s0 ≤ 1000) (hs1 : s1 ≤ 1000) (hs2 : s2 ≤ 1000) (hk : ¬ 0 < Dm.cmpD g1 (Dm.num L1) s1 g2 (Dm.num L2) s2) (hk2 : ¬ Dm.cmpD g0 (Dm.num L0) s0 g1 (Dm.num L1) s1 < 0) (hk3 : ¬ 0 < Dm.cmpD g0 (Dm.num L0) s0 g2 (Dm.num L2) s2) :
    Calls Tryz.prog 60 #[dv g0 v0 s0, dv g1 v1 s1, dv g2 v2 s2] w fun e w' => ∃ u, e = .returned (.tuple #[dv (Dm.cg g0 (Dm.num L0)) u ((Dm.st (Dm.num L0) s0).2 : Nat), .int .i64 0]) ∧ LF w' w.heap.size u (Dm.dg (Dm.st (Dm.num L0) s0).1) ∧ Q w w' := by
  obtain ⟨a0, c0, rfl⟩ := h0.shape
  obtain ⟨a1, c1, rfl⟩ := h1.shape
  obtain ⟨a2, c2, rfl⟩ := h2.shape
  have hok0 := (Dm.okB_iff L0).2 hd0
  have M0 := Lib.hid (fun u (q : Q w u) => (by
    have e := Ep.may_any g0 (.slice a0 L0.length c0) s0 L0 u (h0.q q) (by omega) (by omega)
    rw [hok0, show decide (0 ≤ (s0 : Int)) = true from by simp, show decide ((s0 : Int) ≤ 1000) = true from by simp; omega] at e
    exact e : Calls Tryz.prog 47 #[.agg #[.bool g0, .slice a0 L0.length c0, .int .i64 s0]] u fun e w' => e = .returned (.bool true) ∧ Q u w'))
  have hok1 := (Dm.okB_iff L1).2 hd1
  have M1 := Lib.hid (fun u (q : Q w u) => (by
    have e := Ep.may_any g1 (.slice a1 L1.length c1) s1 L1 u (h1.q q) (by omega) (by omega)
    rw [hok1, show decide (0 ≤ (s1 : Int)) = true from by simp, show decide ((s1 : Int) ≤ 1000) = true from by simp; omega] at e
    exact e : Calls Tryz.prog 47 #[.agg #[.bool g1, .slice a1 L1.length c1, .int .i64 s1]] u fun e w' => e = .returned (.bool true) ∧ Q u w'))
  have hok2 := (Dm.okB_iff L2).2 hd2
  have M2 := Lib.hid (fun u (q : Q w u) => (by
    have e := Ep.may_any g2 (.slice a2 L2.length c2) s2 L2 u (h2.q q) (by omega) (by omega)
    rw [hok2, show decide (0 ≤ (s2 : Int)) = true from by simp, show decide ((s2 : Int) ≤ 1000) = true from by simp; omega] at e
    exact e : Calls Tryz.prog 47 #[.agg #[.bool g2, .slice a2 L2.length c2, .int .i64 s2]] u fun e w' => e = .returned (.bool true) ∧ Q u w'))
  have C12 := Lib.hid (fun u (q : Q w u) => (Ep.compare_any g1 g2 (.slice a1 L1.length c1) (.slice a2 L2.length c2) s1 s2 L1 L2 u (h1.q q) (h2.q q) (by omega) (by omega) hd1 hd2 (by omega) (by omega)))
  have C01 := Lib.hid (fun u (q : Q w u) => (Ep.compare_any g0 g1 (.slice a0 L0.length c0) (.slice a1 L1.length c1) s0 s1 L0 L1 u (h0.q q) (h1.q q) (by omega) (by omega) hd0 hd1 (by omega) (by omega)))
  have C02 := Lib.hid (fun u (q : Q w u) => (Ep.compare_any g0 g2 (.slice a0 L0.length c0) (.slice a2 L2.length c2) s0 s2 L0 L2 u (h0.q q) (h2.q q) (by omega) (by omega) hd0 hd2 (by omega) (by omega)))
  unfold dv at C12 C01 C02
  generalize Dm.cmpD g1 (Dm.num L1) s1 g2 (Dm.num L2) s2 = k12 at *
  generalize Dm.cmpD g0 (Dm.num L0) s0 g1 (Dm.num L1) s1 = k01 at *
  generalize Dm.cmpD g0 (Dm.num L0) s0 g2 (Dm.num L2) s2 = k02 at *
  have T := Lib.hid (fun u (q : Q w u) (hsz : w.heap.size + 4 ≤ u.heap.size) => (by
    refine (Ep.trim_any g0 (.slice a0 L0.length c0) s0 L0 u (h0.q q) (by omega) hd0 (by omega)).mono ?_
    rintro e w' ⟨x, rfl, hx, hq⟩
    obtain ⟨a, c, rfl⟩ := hx.shape
    exact ⟨a, c, rfl, hx.mono (by omega), hq⟩ : Calls Tryz.prog 44 #[.agg #[.bool g0, .slice a0 L0.length c0, .int .i64 s0]] u fun e w' => ∃ a c, e = .returned (.agg #[.bool (Dm.cg g0 (Dm.num L0)), .slice a (Dm.dg (Dm.st (Dm.num L0) s0).1).length c, .int .i64 ((Dm.st (Dm.num L0) s0).2 : Nat)]) ∧ LF w' (w.heap.size + 4) (.slice a (Dm.dg (Dm.st (Dm.num L0) s0).1).length c) (Dm.dg (Dm.st (Dm.num L0) s0).1) ∧ Q u w'))
  generalize Dm.cg g0 (Dm.num L0) = cs at *
  generalize (Dm.st (Dm.num L0) s0).2 = zs at *
  generalize Dm.dg (Dm.st (Dm.num L0) s0).1 = Z at *
  generalize Z.length = r at *
  generalize L0.length = n0 at *
  generalize L1.length = n1 at *
  generalize L2.length = n2 at *
  clear h0 h1 h2 hok0 hok1 hok2 hd0 hd1 hd2
  go_enter Tryz.func60, Tryz.ntmps60
  have Q0 := Lib.hid (show Q w ((((w.alloc (.cells #[.bool g0, .slice a0 n0 c0, .int .i64 s0] 36)).alloc (.cells #[.bool g1, .slice a1 n1 c1, .int .i64 s1] 36)).alloc (.cells #[.bool g2, .slice a2 n2 c2, .int .i64 s2] 36)).alloc (.cells #[.bool false, .slice none 0 0, .int .i64 0] 36)) from (((((Q.refl w).alloc (.cells #[.bool g0, .slice a0 n0 c0, .int .i64 s0] 36)).alloc (.cells #[.bool g1, .slice a1 n1 c1, .int .i64 s1] 36)).alloc (.cells #[.bool g2, .slice a2 n2 c2, .int .i64 s2] 36)).alloc (.cells #[.bool false, .slice none 0 0, .int .i64 0] 36)))
  have B0_d := Lib.hid (show ((((w.alloc (.cells #[.bool g0, .slice a0 n0 c0, .int .i64 s0] 36)).alloc (.cells #[.bool g1, .slice a1 n1 c1, .int .i64 s1] 36)).alloc (.cells #[.bool g2, .slice a2 n2 c2, .int .i64 s2] 36)).alloc (.cells #[.bool false, .slice none 0 0, .int .i64 0] 36)).heap[w.heap.size]? = some (.cells #[.bool g0, .slice a0 n0 c0, .int .i64 s0] 36) from (heap_four _ _ _ _ _).1)
  have B0_l := Lib.hid (show ((((w.alloc (.cells #[.bool g0, .slice a0 n0 c0, .int .i64 s0] 36)).alloc (.cells #[.bool g1, .slice a1 n1 c1, .int .i64 s1] 36)).alloc (.cells #[.bool g2, .slice a2 n2 c2, .int .i64 s2] 36)).alloc (.cells #[.bool false, .slice none 0 0, .int .i64 0] 36)).heap[w.heap.size + 1]? = some (.cells #[.bool g1, .slice a1 n1 c1, .int .i64 s1] 36) from (heap_four _ _ _ _ _).2.1)
  have B0_h := Lib.hid (show ((((w.alloc (.cells #[.bool g0, .slice a0 n0 c0, .int .i64 s0] 36)).alloc (.cells #[.bool g1, .slice a1 n1 c1, .int .i64 s1] 36)).alloc (.cells #[.bool g2, .slice a2 n2 c2, .int .i64 s2] 36)).alloc (.cells #[.bool false, .slice none 0 0, .int .i64 0] 36)).heap[w.heap.size + 1 + 1]? = some (.cells #[.bool g2, .slice a2 n2 c2, .int .i64 s2] 36) from (heap_four _ _ _ _ _).2.2.1)
  have B0_R := Lib.hid (show ((((w.alloc (.cells #[.bool g0, .slice a0 n0 c0, .int .i64 s0] 36)).alloc (.cells #[.bool g1, .slice a1 n1 c1, .int .i64 s1] 36)).alloc (.cells #[.bool g2, .slice a2 n2 c2, .int .i64 s2] 36)).alloc (.cells #[.bool false, .slice none 0 0, .int .i64 0] 36)).heap[w.heap.size + 1 + 1 + 1]? = some (.cells #[.bool false, .slice none 0 0, .int .i64 0] 36) from (heap_four _ _ _ _ _).2.2.2)
  unfold dv
  obtain ⟨k_d0, k_d1, k_d2, _, _, _⟩ := Er.block_cells B0_d.out
  obtain ⟨k_l0, k_l1, k_l2, _, _, _⟩ := Er.block_cells B0_l.out
  obtain ⟨k_h0, k_h1, k_h2, _, _, _⟩ := Er.block_cells B0_h.out
  obtain ⟨k_R0, k_R1, k_R2, _, _, _⟩ := Er.block_cells B0_R.out
  go_wp2_with fail
  refine (M0.out _ Q0.out).mono ?_
  rintro e z1 ⟨rfl, hq⟩
  clear k_d0 k_d1 k_d2 k_l0 k_l1 k_l2 k_h0 k_h1 k_h2 k_R0 k_R1 k_R2
  have B1_d := Lib.hid ((Q.block hq (lt_of_block B0_d.out)).trans B0_d.out)
  clear B0_d
  have B1_l := Lib.hid ((Q.block hq (lt_of_block B0_l.out)).trans B0_l.out)
  clear B0_l
  have B1_h := Lib.hid ((Q.block hq (lt_of_block B0_h.out)).trans B0_h.out)
  clear B0_h
  have B1_R := Lib.hid ((Q.block hq (lt_of_block B0_R.out)).trans B0_R.out)
  clear B0_R
  have Q1 := Lib.hid (Q.trans Q0.out hq)
  clear Q0
  clear hq
  obtain ⟨k_d0, k_d1, k_d2, _, _, _⟩ := Er.block_cells B1_d.out
  obtain ⟨k_l0, k_l1, k_l2, _, _, _⟩ := Er.block_cells B1_l.out
  obtain ⟨k_h0, k_h1, k_h2, _, _, _⟩ := Er.block_cells B1_h.out
  obtain ⟨k_R0, k_R1, k_R2, _, _, _⟩ := Er.block_cells B1_R.out
  go_wp2_with fail
  refine (M1.out _ Q1.out).mono ?_
  rintro e z2 ⟨rfl, hq⟩
  clear k_d0 k_d1 k_d2 k_l0 k_l1 k_l2 k_h0 k_h1 k_h2 k_R0 k_R1 k_R2
  have B2_d := Lib.hid ((Q.block hq (lt_of_block B1_d.out)).trans B1_d.out)
  clear B1_d
  have B2_l := Lib.hid ((Q.block hq (lt_of_block B1_l.out)).trans B1_l.out)
  clear B1_l
  have B2_h := Lib.hid ((Q.block hq (lt_of_block B1_h.out)).trans B1_h.out)
  clear B1_h
  have B2_R := Lib.hid ((Q.block hq (lt_of_block B1_R.out)).trans B1_R.out)
  clear B1_R
  have Q2 := Lib.hid (Q.trans Q1.out hq)
  clear Q1
  clear hq
  obtain ⟨k_d0, k_d1, k_d2, _, _, _⟩ := Er.block_cells B2_d.out
  obtain ⟨k_l0, k_l1, k_l2, _, _, _⟩ := Er.block_cells B2_l.out
  obtain ⟨k_h0, k_h1, k_h2, _, _, _⟩ := Er.block_cells B2_h.out
  obtain ⟨k_R0, k_R1, k_R2, _, _, _⟩ := Er.block_cells B2_R.out
  go_wp2_with fail
  refine (M2.out _ Q2.out).mono ?_
  rintro e z3 ⟨rfl, hq⟩
  clear k_d0 k_d1 k_d2 k_l0 k_l1 k_l2 k_h0 k_h1 k_h2 k_R0 k_R1 k_R2
  have B3_d := Lib.hid ((Q.block hq (lt_of_block B2_d.out)).trans B2_d.out)
  clear B2_d
  have B3_l := Lib.hid ((Q.block hq (lt_of_block B2_l.out)).trans B2_l.out)
  clear B2_l
  have B3_h := Lib.hid ((Q.block hq (lt_of_block B2_h.out)).trans B2_h.out)
  clear B2_h
  have B3_R := Lib.hid ((Q.block hq (lt_of_block B2_R.out)).trans B2_R.out)
  clear B2_R
  have Q3 := Lib.hid (Q.trans Q2.out hq)
  clear Q2
  clear hq
  obtain ⟨k_d0, k_d1, k_d2, _, _, _⟩ := Er.block_cells B3_d.out
  obtain ⟨k_l0, k_l1, k_l2, _, _, _⟩ := Er.block_cells B3_l.out
  obtain ⟨k_h0, k_h1, k_h2, _, _, _⟩ := Er.block_cells B3_h.out
  obtain ⟨k_R0, k_R1, k_R2, _, _, _⟩ := Er.block_cells B3_R.out
  go_wp2_with fail
  refine (C12.out _ Q3.out).mono ?_
  rintro e z4 ⟨rfl, hq⟩
  clear k_d0 k_d1 k_d2 k_l0 k_l1 k_l2 k_h0 k_h1 k_h2 k_R0 k_R1 k_R2
  have B4_d := Lib.hid ((Q.block hq (lt_of_block B3_d.out)).trans B3_d.out)
  clear B3_d
  have B4_l := Lib.hid ((Q.block hq (lt_of_block B3_l.out)).trans B3_l.out)
  clear B3_l
  have B4_h := Lib.hid ((Q.block hq (lt_of_block B3_h.out)).trans B3_h.out)
  clear B3_h
  have B4_R := Lib.hid ((Q.block hq (lt_of_block B3_R.out)).trans B3_R.out)
  clear B3_R
  have Q4 := Lib.hid (Q.trans Q3.out hq)
  clear Q3
  clear hq
  have hk1 : k12 ≤ 0 := by omega
  have hk1n : ¬ 0 < k12 := by omega
  obtain ⟨k_d0, k_d1, k_d2, _, _, _⟩ := Er.block_cells B4_d.out
  obtain ⟨k_l0, k_l1, k_l2, _, _, _⟩ := Er.block_cells B4_l.out
  obtain ⟨k_h0, k_h1, k_h2, _, _, _⟩ := Er.block_cells B4_h.out
  obtain ⟨k_R0, k_R1, k_R2, _, _, _⟩ := Er.block_cells B4_R.out
  go_wp2_with fail
  refine (C01.out _ Q4.out).mono ?_
  rintro e z5 ⟨rfl, hq⟩
  clear k_d0 k_d1 k_d2 k_l0 k_l1 k_l2 k_h0 k_h1 k_h2 k_R0 k_R1 k_R2
  have B5_d := Lib.hid ((Q.block hq (lt_of_block B4_d.out)).trans B4_d.out)
  clear B4_d
  have B5_l := Lib.hid ((Q.block hq (lt_of_block B4_l.out)).trans B4_l.out)
  clear B4_l
  have B5_h := Lib.hid ((Q.block hq (lt_of_block B4_h.out)).trans B4_h.out)
  clear B4_h
  have B5_R := Lib.hid ((Q.block hq (lt_of_block B4_R.out)).trans B4_R.out)
  clear B4_R
  have Q5 := Lib.hid (Q.trans Q4.out hq)
  clear Q4
  clear hq
  have hk2n : 0 ≤ k01 := by omega
  obtain ⟨k_d0, k_d1, k_d2, _, _, _⟩ := Er.block_cells B5_d.out
  obtain ⟨k_l0, k_l1, k_l2, _, _, _⟩ := Er.block_cells B5_l.out
  obtain ⟨k_h0, k_h1, k_h2, _, _, _⟩ := Er.block_cells B5_h.out
  obtain ⟨k_R0, k_R1, k_R2, _, _, _⟩ := Er.block_cells B5_R.out
  go_wp2_with fail
  refine (C02.out _ Q5.out).mono ?_
  rintro e z6 ⟨rfl, hq⟩
  clear k_d0 k_d1 k_d2 k_l0 k_l1 k_l2 k_h0 k_h1 k_h2 k_R0 k_R1 k_R2
  have B6_d := Lib.hid ((Q.block hq (lt_of_block B5_d.out)).trans B5_d.out)
  clear B5_d
  have B6_l := Lib.hid ((Q.block hq (lt_of_block B5_l.out)).trans B5_l.out)
  clear B5_l
  have B6_h := Lib.hid ((Q.block hq (lt_of_block B5_h.out)).trans B5_h.out)
  clear B5_h
  have B6_R := Lib.hid ((Q.block hq (lt_of_block B5_R.out)).trans B5_R.out)
  clear B5_R
  have Q6 := Lib.hid (Q.trans Q5.out hq)
  clear Q5
  clear hq
  have hk3n : k02 ≤ 0 := by omega
  have hsz := Lib.hid (show w.heap.size + 4 ≤ z6.heap.size from lt_of_block B6_R.out)
  obtain ⟨k_d0, k_d1, k_d2, _, _, _⟩ := Er.block_cells B6_d.out
  obtain ⟨k_l0, k_l1, k_l2, _, _, _⟩ := Er.block_cells B6_l.out
  obtain ⟨k_h0, k_h1, k_h2, _, _, _⟩ := Er.block_cells B6_h.out
  obtain ⟨k_R0, k_R1, k_R2, _, _, _⟩ := Er.block_cells B6_R.out
  go_wp2_with fail
  refine (T.out _ Q6.out hsz.out).mono ?_
  rintro e z7 ⟨xa, xc, rfl, hlf, hq⟩
  clear k_d0 k_d1 k_d2 k_l0 k_l1 k_l2 k_h0 k_h1 k_h2 k_R0 k_R1 k_R2
  have B7_d := Lib.hid ((Q.block hq (lt_of_block B6_d.out)).trans B6_d.out)
  clear B6_d
  have B7_l := Lib.hid ((Q.block hq (lt_of_block B6_l.out)).trans B6_l.out)
  clear B6_l
  have B7_h := Lib.hid ((Q.block hq (lt_of_block B6_h.out)).trans B6_h.out)
  clear B6_h
  have B7_R := Lib.hid ((Q.block hq (lt_of_block B6_R.out)).trans B6_R.out)
  clear B6_R
  have Q7 := Lib.hid (Q.trans Q6.out hq)
  clear Q6
  clear hq
  have HLF := Lib.hid hlf
  clear hlf
  have hset := Lib.hid (block_set (x' := .bool cs) (y' := .slice xa r xc) (z' := .int .i64 zs) B7_R.out)
  have hlr := Lib.hid (LF.put (r := w.heap.size + 1 + 1 + 1) HLF.out (by omega) (.bool cs) (.slice xa r xc) (.int .i64 zs))
  have HQE := Lib.hid (Q.setCell (Q.setCell (Q.setCell Q7.out (ad := ⟨w.heap.size + 1 + 1 + 1, 0, none⟩) (by show w.heap.size ≤ w.heap.size + 1 + 1 + 1; omega) (.bool cs)) (ad := ⟨w.heap.size + 1 + 1 + 1, 1, none⟩) (by show w.heap.size ≤ w.heap.size + 1 + 1 + 1; omega) (.slice xa r xc)) (ad := ⟨w.heap.size + 1 + 1 + 1, 2, none⟩) (by show w.heap.size ≤ w.heap.size + 1 + 1 + 1; omega) (.int .i64 zs))
  obtain ⟨k_d0, k_d1, k_d2, _, _, _⟩ := Er.block_cells B7_d.out
  obtain ⟨k_l0, k_l1, k_l2, _, _, _⟩ := Er.block_cells B7_l.out
  obtain ⟨k_h0, k_h1, k_h2, _, _, _⟩ := Er.block_cells B7_h.out
  obtain ⟨k_R0, k_R1, k_R2, _, _, _⟩ := Er.block_cells B7_R.out
  obtain ⟨_, _, _, r3, r4, r5⟩ := block_cells B7_R.out
  go_wp2_with fail
  exact ret_dv2 rfl rfl rfl hset.out rfl ⟨_, rfl, hlr.out.mono (by omega), HQE.out⟩
end Rq
end Go.Proofs.YtagpofhencpliaaGreatDoor
