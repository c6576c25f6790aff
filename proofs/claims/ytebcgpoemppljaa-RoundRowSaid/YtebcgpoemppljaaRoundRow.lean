/- RoundRow: of whatever two decimals (their first 12 numbers made digits, their scales made 0 to 9), a scale (made 0 to 9) and a mode (made one) rounding keeps the order; no conditions. -/
import Derived.Test.YtebcgpoemppljaaRows
import Derived.WalkKit
import Derived.ProofKit
import Derived.OpenShut
import Derived.ShutString
import Derived.ChangeOld
import Derived.Below
import Derived.Lib.SmallJoins
import Derived.Test.YtebcgpoemppljaaInts
import Derived.Test.YtebcgpoemppljaaUtfM
import Derived.Test.YtebcgpoemppljaaUtfG
import Derived.Test.YtebcgpoemppljaaUtfR
import Derived.Test.YtebcgpoemppljaaDigM
import Derived.Test.YtebcgpoemppljaaDigL
import Derived.Test.YtebcgpoemppljaaDigR
import Derived.Test.YtebcgpoemppljaaDecM
import Derived.Test.YtebcgpoemppljaaDecR
import Derived.Test.YtebcgpoemppljaaDecS
import Derived.Test.YtebcgpoemppljaaDecC
import Derived.Test.YtebcgpoemppljaaDecZ
import Derived.Test.YtebcgpoemppljaaDecY
import Derived.Test.YtebcgpoemppljaaRndM
import Derived.Test.YtebcgpoemppljaaRndN
import Derived.Test.YtebcgpoemppljaaRndU
import Derived.Test.YtebcgpoemppljaaRndP
import Derived.Test.YtebcgpoemppljaaRndZ
set_option linter.unusedVariables false
set_option linter.unusedSimpArgs false
namespace Go.Proofs.Ytebcgpoemppljaa.roundRow
open Go.ChangeShapes Go.WideShapes Go.ChangeAt Go.RowKit
open Go.ChangeMaps (open_string shut_string)

theorem own : ownKnob Try.prog.godebug = none := by kernel_rfl
theorem laidOut : laidOutB Try.prog = true := by kernel_rfl


set_option maxHeartbeats 8000000 in
set_option maxRecDepth 100000 in
theorem walk (w : World) (g0 : Bool) (v0 : Value) (xs0 : List Int) (w0 : Lst w v0 xs0) (b0 : ∀ n ∈ xs0, -9223372036854775808 ≤ n ∧ n ≤ 9223372036854775807) (s0 : Int) (ws0 : -9223372036854775808 ≤ s0 ∧ s0 ≤ 9223372036854775807) (g1 : Bool) (v1 : Value) (xs1 : List Int) (w1 : Lst w v1 xs1) (b1 : ∀ n ∈ xs1, -9223372036854775808 ≤ n ∧ n ≤ 9223372036854775807) (s1 : Int) (ws1 : -9223372036854775808 ≤ s1 ∧ s1 ≤ 9223372036854775807) (a2 : Int) (w2 : -9223372036854775808 ≤ a2 ∧ a2 ≤ 9223372036854775807) (a3 : Int) (w3 : -9223372036854775808 ≤ a3 ∧ a3 ≤ 9223372036854775807) :
    Calls Try.prog 5 #[.agg #[.bool g0, v0, .int .i64 s0], .agg #[.bool g1, v1, .int .i64 s1], .int .i64 a2, .int .i64 a3] w fun e w' => e = .returned (.bool true) ∧ Q w w' := by
  obtain ⟨A0, C0, rfl, _, _⟩ := w0.shape2
  have hgl0 := Dm.gdL_len xs0 12
  have kX0 := Dm.gdL_ok xs0 12
  have hab0 := Um.around_bd s0 10 (by omega)
  obtain ⟨t0, ht0⟩ : ∃ t : Nat, Um.around s0 10 = (t : Int) := ⟨(Um.around s0 10).toNat, by omega⟩
  rw [ht0] at hab0
  have hs0 : t0 ≤ 9 := by omega
  obtain ⟨p0, hp0⟩ : ∃ p, (Dm.gdL xs0 12).length = p := ⟨_, rfl⟩
  have hpm0 : p0 ≤ 12 := by omega
  have G0 := Lib.hid (fun u (q : Q w u) => Ep.good_sh u g0 A0 xs0.length C0 s0 xs0 12 (w0.q q) rfl ws0 (by omega) b0 t0 p0 ht0 hp0)
  generalize Dm.gdL xs0 12 = X0 at *
  generalize hn0 : xs0.length = n0 at *
  have HP0 := Lib.hid hp0
  clear hgl0 hab0 ht0 hp0
  obtain ⟨A1, C1, rfl, _, _⟩ := w1.shape2
  have hgl1 := Dm.gdL_len xs1 12
  have kX1 := Dm.gdL_ok xs1 12
  have hab1 := Um.around_bd s1 10 (by omega)
  obtain ⟨t1, ht1⟩ : ∃ t : Nat, Um.around s1 10 = (t : Int) := ⟨(Um.around s1 10).toNat, by omega⟩
  rw [ht1] at hab1
  have hs1 : t1 ≤ 9 := by omega
  obtain ⟨p1, hp1⟩ : ∃ p, (Dm.gdL xs1 12).length = p := ⟨_, rfl⟩
  have hpm1 : p1 ≤ 12 := by omega
  have G1 := Lib.hid (fun u (q : Q w u) => Ep.good_sh u g1 A1 xs1.length C1 s1 xs1 12 (w1.q q) rfl ws1 (by omega) b1 t1 p1 ht1 hp1)
  generalize Dm.gdL xs1 12 = X1 at *
  generalize hn1 : xs1.length = n1 at *
  have HP1 := Lib.hid hp1
  clear hgl1 hab1 ht1 hp1
  have A2 := fun w => Ur.around_any a2 10 w w2.1 w2.2 (by omega) (by omega)
  have hab2 := Um.around_bd a2 10 (by omega)
  obtain ⟨n, hn⟩ : ∃ t : Nat, Um.around a2 10 = (t : Int) := ⟨(Um.around a2 10).toNat, by omega⟩
  rw [hn] at A2 hab2
  have nlt : n < 10 := by omega
  have AR2 := Lib.hid A2
  clear A2 hab2 hn
  have A3 := fun w => Ur.around_any a3 7 w w3.1 w3.2 (by omega) (by omega)
  have hab3 := Um.around_bd a3 7 (by omega)
  obtain ⟨m, hm⟩ : ∃ t : Nat, Um.around a3 7 = (t : Int) := ⟨(Um.around a3 7).toNat, by omega⟩
  rw [hm] at A3 hab3
  have mlt : m < 7 := by omega
  have AR3 := Lib.hid A3
  clear A3 hab3 hm
  have hp0 := HP0.out
  have hp1 := HP1.out
  have P0 := Rl.to_prog g0 t0 n m X0 (by omega) kX0 (by omega) (by omega) (by omega)
  have zl0 := Rl.rk_len g0 t0 n m X0 (by omega) kX0 (by omega)
  unfold Rl.R3 at P0
  have P1 := Rl.to_prog g1 t1 n m X1 (by omega) kX1 (by omega) (by omega) (by omega)
  have zl1 := Rl.rk_len g1 t1 n m X1 (by omega) kX1 (by omega)
  unfold Rl.R3 at P1
  have CXY := fun u a b c d h1 h2 => Rl.cmp_sh g0 g1 t0 t1 X0 X1 (by omega) (by omega) kX0 kX1 (by omega) (by omega) u a b p0 p1 c d hp0 hp1 h1 h2
  have row1 := Rm.rk_row g0 g1 (Dm.num X0) t0 (Dm.num X1) t1 n m
  have row2 := Rm.rk_row g1 g0 (Dm.num X1) t1 (Dm.num X0) t0 n m
  have h3 := Ep.cmpD_three g0 (Dm.num X0) t0 g1 (Dm.num X1) t1
  rw [Ep.cmpD_anti g0 (Dm.num X0) t0 g1 (Dm.num X1) t1] at row2
  generalize Dm.cmpD g0 (Dm.num X0) t0 g1 (Dm.num X1) t1 = k at *
  generalize Rm.rk g0 (Dm.st (Dm.num X0) t0).1 (Dm.st (Dm.num X0) t0).2 n m = R0 at *
  generalize Rm.rk g1 (Dm.st (Dm.num X1) t1).1 (Dm.st (Dm.num X1) t1).2 n m = R1 at *
  rw [Ep.cmpD_anti (Dm.cg g0 R0) R0 n (Dm.cg g1 R1) R1 n] at row2
  have CPQ := fun u a b c d h1 h2 => Rl.cmp_sh (Dm.cg g0 R0) (Dm.cg g1 R1) n n (Dm.dg R0) (Dm.dg R1) (by omega) (by omega) (Dm.okD_dg _) (Dm.okD_dg _) (by omega) (by omega) u a b _ _ c d rfl rfl h1 h2
  rw [Dm.num_dg, Dm.num_dg] at CPQ
  generalize Dm.cmpD (Dm.cg g0 R0) R0 n (Dm.cg g1 R1) R1 n = kk at *
  generalize Dm.cg g0 R0 = c0 at *
  generalize Dm.cg g1 R1 = c1 at *
  generalize Dm.dg R0 = Z0 at *
  generalize Dm.dg R1 = Z1 at *
  generalize Z0.length = r0 at *
  generalize Z1.length = r1 at *
  have PP0 := Lib.hid P0
  have PP1 := Lib.hid P1
  have CX := Lib.hid CXY
  have CP := Lib.hid CPQ
  have hcase : (0 < k ∧ 0 ≤ kk) ∨ (k = 0 ∧ kk = 0) ∨ (k < 0 ∧ kk ≤ 0) := by
    by_cases h1 : k ≤ 0
    · have := row1 h1
      by_cases h2 : 0 ≤ k
      · have := row2 (by omega)
        omega
      · omega
    · have := row2 (by omega)
      omega
  have LV := Lib.hid Rl.lives_any
  clear P0 P1 CXY CPQ row1 row2 h3 hp0 hp1 w0 w1 b0 b1 kX0 kX1 hn0 hn1
  go_enter Try.func5, Try.ntmps5
  have Q0 := Lib.hid (show Q w ((w.alloc (.cells #[.bool g0, .slice A0 n0 C0, .int .i64 s0] 24)).alloc (.cells #[.bool g1, .slice A1 n1 C1, .int .i64 s1] 24)) from (((Q.refl w).alloc (.cells #[.bool g0, .slice A0 n0 C0, .int .i64 s0] 24)).alloc (.cells #[.bool g1, .slice A1 n1 C1, .int .i64 s1] 24)))
  have B0_i0 := Lib.hid (show ((w.alloc (.cells #[.bool g0, .slice A0 n0 C0, .int .i64 s0] 24)).alloc (.cells #[.bool g1, .slice A1 n1 C1, .int .i64 s1] 24)).heap[w.heap.size]? = some (.cells #[.bool g0, .slice A0 n0 C0, .int .i64 s0] 24) from by exact heap_alloc2_old _ _ _)
  have B0_i1 := Lib.hid (show ((w.alloc (.cells #[.bool g0, .slice A0 n0 C0, .int .i64 s0] 24)).alloc (.cells #[.bool g1, .slice A1 n1 C1, .int .i64 s1] 24)).heap[w.heap.size + 1]? = some (.cells #[.bool g1, .slice A1 n1 C1, .int .i64 s1] 24) from by exact heap_alloc2_new _ _ _)
  obtain ⟨k_i00, k_i01, k_i02, _, _, _⟩ := Er.block_cells B0_i0.out
  obtain ⟨k_i10, k_i11, k_i12, _, _, _⟩ := Er.block_cells B0_i1.out
  go_wp2_with fail
  refine (G0.out _ Q0.out).mono ?_
  rintro e z1 ⟨a1, c1x, rfl, hx, hq⟩
  clear k_i00 k_i01 k_i02 k_i10 k_i11 k_i12
  have B1_i0 := Lib.hid ((Q.block hq (lt_of_block B0_i0.out)).trans B0_i0.out)
  clear B0_i0
  have B1_i1 := Lib.hid ((Q.block hq (lt_of_block B0_i1.out)).trans B0_i1.out)
  clear B0_i1
  have Q1 := Lib.hid (Q.trans Q0.out hq)
  clear Q0
  have L1_X0 := Lib.hid hx
  clear hx
  clear hq
  have hq := (Q.refl z1).alloc (.cells #[.bool g0, .slice a1 p0 c1x, .int .i64 t0] 24)
  have hb := heap_alloc_new z1 (.cells #[.bool g0, .slice a1 p0 c1x, .int .i64 t0] 24)
  have L2_X0 := Lib.hid (Lst.q L1_X0.out hq)
  clear L1_X0
  have B2_i0 := Lib.hid ((Q.block hq (lt_of_block B1_i0.out)).trans B1_i0.out)
  clear B1_i0
  have B2_i1 := Lib.hid ((Q.block hq (lt_of_block B1_i1.out)).trans B1_i1.out)
  clear B1_i1
  have Q2 := Lib.hid (Q.trans Q1.out hq)
  clear Q1
  have B2_x := Lib.hid hb
  clear hb hq
  obtain ⟨k_i00, k_i01, k_i02, _, _, _⟩ := Er.block_cells B2_i0.out
  obtain ⟨k_i10, k_i11, k_i12, _, _, _⟩ := Er.block_cells B2_i1.out
  obtain ⟨k_x0, k_x1, k_x2, _, _, _⟩ := Er.block_cells B2_x.out
  go_wp2_with fail
  refine (G1.out _ Q2.out).mono ?_
  rintro e z3 ⟨a2, c2x, rfl, hx, hq⟩
  clear k_i00 k_i01 k_i02 k_i10 k_i11 k_i12 k_x0 k_x1 k_x2
  have L3_X0 := Lib.hid (Lst.q L2_X0.out hq)
  clear L2_X0
  have B3_i0 := Lib.hid ((Q.block hq (lt_of_block B2_i0.out)).trans B2_i0.out)
  clear B2_i0
  have B3_i1 := Lib.hid ((Q.block hq (lt_of_block B2_i1.out)).trans B2_i1.out)
  clear B2_i1
  have B3_x := Lib.hid ((Q.block hq (lt_of_block B2_x.out)).trans B2_x.out)
  clear B2_x
  have Q3 := Lib.hid (Q.trans Q2.out hq)
  clear Q2
  have L3_X1 := Lib.hid hx
  clear hx
  clear hq
  have hq := (Q.refl z3).alloc (.cells #[.bool g1, .slice a2 p1 c2x, .int .i64 t1] 24)
  have hb := heap_alloc_new z3 (.cells #[.bool g1, .slice a2 p1 c2x, .int .i64 t1] 24)
  have L4_X0 := Lib.hid (Lst.q L3_X0.out hq)
  clear L3_X0
  have L4_X1 := Lib.hid (Lst.q L3_X1.out hq)
  clear L3_X1
  have B4_i0 := Lib.hid ((Q.block hq (lt_of_block B3_i0.out)).trans B3_i0.out)
  clear B3_i0
  have B4_i1 := Lib.hid ((Q.block hq (lt_of_block B3_i1.out)).trans B3_i1.out)
  clear B3_i1
  have B4_x := Lib.hid ((Q.block hq (lt_of_block B3_x.out)).trans B3_x.out)
  clear B3_x
  have Q4 := Lib.hid (Q.trans Q3.out hq)
  clear Q3
  have B4_y := Lib.hid hb
  clear hb hq
  obtain ⟨k_i00, k_i01, k_i02, _, _, _⟩ := Er.block_cells B4_i0.out
  obtain ⟨k_i10, k_i11, k_i12, _, _, _⟩ := Er.block_cells B4_i1.out
  obtain ⟨k_x0, k_x1, k_x2, _, _, _⟩ := Er.block_cells B4_x.out
  obtain ⟨k_y0, k_y1, k_y2, _, _, _⟩ := Er.block_cells B4_y.out
  go_wp2_with fail
  refine (AR2.out _).mono ?_
  rintro e y ⟨rfl, rfl⟩
  clear k_i00 k_i01 k_i02 k_i10 k_i11 k_i12 k_x0 k_x1 k_x2 k_y0 k_y1 k_y2
  obtain ⟨k_i00, k_i01, k_i02, _, _, _⟩ := Er.block_cells B4_i0.out
  obtain ⟨k_i10, k_i11, k_i12, _, _, _⟩ := Er.block_cells B4_i1.out
  obtain ⟨k_x0, k_x1, k_x2, _, _, _⟩ := Er.block_cells B4_x.out
  obtain ⟨k_y0, k_y1, k_y2, _, _, _⟩ := Er.block_cells B4_y.out
  go_wp2_with fail
  refine (AR3.out _).mono ?_
  rintro e y ⟨rfl, rfl⟩
  clear k_i00 k_i01 k_i02 k_i10 k_i11 k_i12 k_x0 k_x1 k_x2 k_y0 k_y1 k_y2
  obtain ⟨k_i00, k_i01, k_i02, _, _, _⟩ := Er.block_cells B4_i0.out
  obtain ⟨k_i10, k_i11, k_i12, _, _, _⟩ := Er.block_cells B4_i1.out
  obtain ⟨k_x0, k_x1, k_x2, _, _, _⟩ := Er.block_cells B4_x.out
  obtain ⟨k_y0, k_y1, k_y2, _, _, _⟩ := Er.block_cells B4_y.out
  go_wp2_with fail
  refine (Rl.of_sh _ _ _ _ _ _).mono ?_
  rintro e z5 ⟨rfl, hq⟩
  clear k_i00 k_i01 k_i02 k_i10 k_i11 k_i12 k_x0 k_x1 k_x2 k_y0 k_y1 k_y2
  have L5_X0 := Lib.hid (Lst.q L4_X0.out hq)
  clear L4_X0
  have L5_X1 := Lib.hid (Lst.q L4_X1.out hq)
  clear L4_X1
  have B5_i0 := Lib.hid ((Q.block hq (lt_of_block B4_i0.out)).trans B4_i0.out)
  clear B4_i0
  have B5_i1 := Lib.hid ((Q.block hq (lt_of_block B4_i1.out)).trans B4_i1.out)
  clear B4_i1
  have B5_x := Lib.hid ((Q.block hq (lt_of_block B4_x.out)).trans B4_x.out)
  clear B4_x
  have B5_y := Lib.hid ((Q.block hq (lt_of_block B4_y.out)).trans B4_y.out)
  clear B4_y
  have Q5 := Lib.hid (Q.trans Q4.out hq)
  clear Q4
  clear hq
  obtain ⟨k_i00, k_i01, k_i02, _, _, _⟩ := Er.block_cells B5_i0.out
  obtain ⟨k_i10, k_i11, k_i12, _, _, _⟩ := Er.block_cells B5_i1.out
  obtain ⟨k_x0, k_x1, k_x2, _, _, _⟩ := Er.block_cells B5_x.out
  obtain ⟨k_y0, k_y1, k_y2, _, _, _⟩ := Er.block_cells B5_y.out
  go_wp2_with fail
  refine (PP0.out _ _ L5_X0.out).mono ?_
  rintro e z6 ⟨a3, c3x, rfl, hx, hq⟩
  clear k_i00 k_i01 k_i02 k_i10 k_i11 k_i12 k_x0 k_x1 k_x2 k_y0 k_y1 k_y2
  have L6_X0 := Lib.hid (Lst.q L5_X0.out hq)
  clear L5_X0
  have L6_X1 := Lib.hid (Lst.q L5_X1.out hq)
  clear L5_X1
  have B6_i0 := Lib.hid ((Q.block hq (lt_of_block B5_i0.out)).trans B5_i0.out)
  clear B5_i0
  have B6_i1 := Lib.hid ((Q.block hq (lt_of_block B5_i1.out)).trans B5_i1.out)
  clear B5_i1
  have B6_x := Lib.hid ((Q.block hq (lt_of_block B5_x.out)).trans B5_x.out)
  clear B5_x
  have B6_y := Lib.hid ((Q.block hq (lt_of_block B5_y.out)).trans B5_y.out)
  clear B5_y
  have Q6 := Lib.hid (Q.trans Q5.out hq)
  clear Q5
  have L6_Z0 := Lib.hid hx.lst
  clear hx
  clear hq
  have hq := (Q.refl z6).alloc (.cells #[.bool c0, .slice a3 r0 c3x, .int .i64 n] 27)
  have hb := heap_alloc_new z6 (.cells #[.bool c0, .slice a3 r0 c3x, .int .i64 n] 27)
  have L7_X0 := Lib.hid (Lst.q L6_X0.out hq)
  clear L6_X0
  have L7_X1 := Lib.hid (Lst.q L6_X1.out hq)
  clear L6_X1
  have L7_Z0 := Lib.hid (Lst.q L6_Z0.out hq)
  clear L6_Z0
  have B7_i0 := Lib.hid ((Q.block hq (lt_of_block B6_i0.out)).trans B6_i0.out)
  clear B6_i0
  have B7_i1 := Lib.hid ((Q.block hq (lt_of_block B6_i1.out)).trans B6_i1.out)
  clear B6_i1
  have B7_x := Lib.hid ((Q.block hq (lt_of_block B6_x.out)).trans B6_x.out)
  clear B6_x
  have B7_y := Lib.hid ((Q.block hq (lt_of_block B6_y.out)).trans B6_y.out)
  clear B6_y
  have Q7 := Lib.hid (Q.trans Q6.out hq)
  clear Q6
  have B7_p := Lib.hid hb
  clear hb hq
  obtain ⟨k_i00, k_i01, k_i02, _, _, _⟩ := Er.block_cells B7_i0.out
  obtain ⟨k_i10, k_i11, k_i12, _, _, _⟩ := Er.block_cells B7_i1.out
  obtain ⟨k_x0, k_x1, k_x2, _, _, _⟩ := Er.block_cells B7_x.out
  obtain ⟨k_y0, k_y1, k_y2, _, _, _⟩ := Er.block_cells B7_y.out
  obtain ⟨k_p0, k_p1, k_p2, _, _, _⟩ := Er.block_cells B7_p.out
  go_wp2_with fail
  refine (Rl.of_sh _ _ _ _ _ _).mono ?_
  rintro e z8 ⟨rfl, hq⟩
  clear k_i00 k_i01 k_i02 k_i10 k_i11 k_i12 k_x0 k_x1 k_x2 k_y0 k_y1 k_y2 k_p0 k_p1 k_p2
  have L8_X0 := Lib.hid (Lst.q L7_X0.out hq)
  clear L7_X0
  have L8_X1 := Lib.hid (Lst.q L7_X1.out hq)
  clear L7_X1
  have L8_Z0 := Lib.hid (Lst.q L7_Z0.out hq)
  clear L7_Z0
  have B8_i0 := Lib.hid ((Q.block hq (lt_of_block B7_i0.out)).trans B7_i0.out)
  clear B7_i0
  have B8_i1 := Lib.hid ((Q.block hq (lt_of_block B7_i1.out)).trans B7_i1.out)
  clear B7_i1
  have B8_x := Lib.hid ((Q.block hq (lt_of_block B7_x.out)).trans B7_x.out)
  clear B7_x
  have B8_y := Lib.hid ((Q.block hq (lt_of_block B7_y.out)).trans B7_y.out)
  clear B7_y
  have B8_p := Lib.hid ((Q.block hq (lt_of_block B7_p.out)).trans B7_p.out)
  clear B7_p
  have Q8 := Lib.hid (Q.trans Q7.out hq)
  clear Q7
  clear hq
  obtain ⟨k_i00, k_i01, k_i02, _, _, _⟩ := Er.block_cells B8_i0.out
  obtain ⟨k_i10, k_i11, k_i12, _, _, _⟩ := Er.block_cells B8_i1.out
  obtain ⟨k_x0, k_x1, k_x2, _, _, _⟩ := Er.block_cells B8_x.out
  obtain ⟨k_y0, k_y1, k_y2, _, _, _⟩ := Er.block_cells B8_y.out
  obtain ⟨k_p0, k_p1, k_p2, _, _, _⟩ := Er.block_cells B8_p.out
  go_wp2_with fail
  refine (PP1.out _ _ L8_X1.out).mono ?_
  rintro e z9 ⟨a4, c4x, rfl, hx, hq⟩
  clear k_i00 k_i01 k_i02 k_i10 k_i11 k_i12 k_x0 k_x1 k_x2 k_y0 k_y1 k_y2 k_p0 k_p1 k_p2
  have L9_X0 := Lib.hid (Lst.q L8_X0.out hq)
  clear L8_X0
  have L9_X1 := Lib.hid (Lst.q L8_X1.out hq)
  clear L8_X1
  have L9_Z0 := Lib.hid (Lst.q L8_Z0.out hq)
  clear L8_Z0
  have B9_i0 := Lib.hid ((Q.block hq (lt_of_block B8_i0.out)).trans B8_i0.out)
  clear B8_i0
  have B9_i1 := Lib.hid ((Q.block hq (lt_of_block B8_i1.out)).trans B8_i1.out)
  clear B8_i1
  have B9_x := Lib.hid ((Q.block hq (lt_of_block B8_x.out)).trans B8_x.out)
  clear B8_x
  have B9_y := Lib.hid ((Q.block hq (lt_of_block B8_y.out)).trans B8_y.out)
  clear B8_y
  have B9_p := Lib.hid ((Q.block hq (lt_of_block B8_p.out)).trans B8_p.out)
  clear B8_p
  have Q9 := Lib.hid (Q.trans Q8.out hq)
  clear Q8
  have L9_Z1 := Lib.hid hx.lst
  clear hx
  clear hq
  have hq := (Q.refl z9).alloc (.cells #[.bool c1, .slice a4 r1 c4x, .int .i64 n] 27)
  have hb := heap_alloc_new z9 (.cells #[.bool c1, .slice a4 r1 c4x, .int .i64 n] 27)
  have L10_X0 := Lib.hid (Lst.q L9_X0.out hq)
  clear L9_X0
  have L10_X1 := Lib.hid (Lst.q L9_X1.out hq)
  clear L9_X1
  have L10_Z0 := Lib.hid (Lst.q L9_Z0.out hq)
  clear L9_Z0
  have L10_Z1 := Lib.hid (Lst.q L9_Z1.out hq)
  clear L9_Z1
  have B10_i0 := Lib.hid ((Q.block hq (lt_of_block B9_i0.out)).trans B9_i0.out)
  clear B9_i0
  have B10_i1 := Lib.hid ((Q.block hq (lt_of_block B9_i1.out)).trans B9_i1.out)
  clear B9_i1
  have B10_x := Lib.hid ((Q.block hq (lt_of_block B9_x.out)).trans B9_x.out)
  clear B9_x
  have B10_y := Lib.hid ((Q.block hq (lt_of_block B9_y.out)).trans B9_y.out)
  clear B9_y
  have B10_p := Lib.hid ((Q.block hq (lt_of_block B9_p.out)).trans B9_p.out)
  clear B9_p
  have Q10 := Lib.hid (Q.trans Q9.out hq)
  clear Q9
  have B10_q := Lib.hid hb
  clear hb hq
  obtain ⟨k_i00, k_i01, k_i02, _, _, _⟩ := Er.block_cells B10_i0.out
  obtain ⟨k_i10, k_i11, k_i12, _, _, _⟩ := Er.block_cells B10_i1.out
  obtain ⟨k_x0, k_x1, k_x2, _, _, _⟩ := Er.block_cells B10_x.out
  obtain ⟨k_y0, k_y1, k_y2, _, _, _⟩ := Er.block_cells B10_y.out
  obtain ⟨k_p0, k_p1, k_p2, _, _, _⟩ := Er.block_cells B10_p.out
  obtain ⟨k_q0, k_q1, k_q2, _, _, _⟩ := Er.block_cells B10_q.out
  go_wp2_with fail
  refine (CX.out _ _ _ _ _ L10_X0.out L10_X1.out).mono ?_
  rintro e z11 ⟨rfl, hq⟩
  clear k_i00 k_i01 k_i02 k_i10 k_i11 k_i12 k_x0 k_x1 k_x2 k_y0 k_y1 k_y2 k_p0 k_p1 k_p2 k_q0 k_q1 k_q2
  have L11_X0 := Lib.hid (Lst.q L10_X0.out hq)
  clear L10_X0
  have L11_X1 := Lib.hid (Lst.q L10_X1.out hq)
  clear L10_X1
  have L11_Z0 := Lib.hid (Lst.q L10_Z0.out hq)
  clear L10_Z0
  have L11_Z1 := Lib.hid (Lst.q L10_Z1.out hq)
  clear L10_Z1
  have B11_i0 := Lib.hid ((Q.block hq (lt_of_block B10_i0.out)).trans B10_i0.out)
  clear B10_i0
  have B11_i1 := Lib.hid ((Q.block hq (lt_of_block B10_i1.out)).trans B10_i1.out)
  clear B10_i1
  have B11_x := Lib.hid ((Q.block hq (lt_of_block B10_x.out)).trans B10_x.out)
  clear B10_x
  have B11_y := Lib.hid ((Q.block hq (lt_of_block B10_y.out)).trans B10_y.out)
  clear B10_y
  have B11_p := Lib.hid ((Q.block hq (lt_of_block B10_p.out)).trans B10_p.out)
  clear B10_p
  have B11_q := Lib.hid ((Q.block hq (lt_of_block B10_q.out)).trans B10_q.out)
  clear B10_q
  have Q11 := Lib.hid (Q.trans Q10.out hq)
  clear Q10
  clear hq
  rcases hcase with ⟨hk, hkk⟩ | ⟨rfl, rfl⟩ | ⟨hk, hkk⟩
  · have hk1 : decide ((0 : Int) < k) = true := by simp; omega
    have hk2 : ¬ k < 0 := by omega
    have hk3 : decide (k < (0 : Int)) = false := by simp; omega
    have hk4 : decide ((0 : Int) ≤ kk) = true := by simp; omega
    have SQ := Lib.hid (fun u (q : Q (z11) u) => (Ep.SB2.of B11_p.out B11_q.out q : Ep.SB2 (z11) (z6.heap.size) c0 (.slice a3 r0 c3x) (n) (z9.heap.size) c1 (.slice a4 r1 c4x) (n) u))
    obtain ⟨k_i00, k_i01, k_i02, _, _, _⟩ := Er.block_cells B11_i0.out
    obtain ⟨k_i10, k_i11, k_i12, _, _, _⟩ := Er.block_cells B11_i1.out
    obtain ⟨k_x0, k_x1, k_x2, _, _, _⟩ := Er.block_cells B11_x.out
    obtain ⟨k_y0, k_y1, k_y2, _, _, _⟩ := Er.block_cells B11_y.out
    obtain ⟨k_p0, k_p1, k_p2, _, _, _⟩ := Er.block_cells B11_p.out
    obtain ⟨k_q0, k_q1, k_q2, _, _, _⟩ := Er.block_cells B11_q.out
    go_wp2_with fail
    clear k_i00 k_i01 k_i02 k_i10 k_i11 k_i12 k_x0 k_x1 k_x2 k_y0 k_y1 k_y2 k_p0 k_p1 k_p2 k_q0 k_q1 k_q2
    refine wp_region_held_drew (S := fun u => Ep.SB2 (z11) (z6.heap.size) c0 (.slice a3 r0 c3x) (n) (z9.heap.size) c1 (.slice a4 r1 c4x) (n) u) (by kernel_rfl) (by exact SQ.out _ ((Q.refl z11).drew)) (fun hHeld => ?_)
    have hS : Ep.SB2 (z11) (z6.heap.size) c0 (.slice a3 r0 c3x) (n) (z9.heap.size) c1 (.slice a4 r1 c4x) (n) z11.drew := hHeld
    clear hHeld
    generalize z11.drew = yT7x0 at hS ⊢
    refine wpAnyH_take (i := 0) (oi := { dst := some 45, op := Op.move (Operand.tmp 14), type := 28, pos := "law.go:64", after := #[], guard := none }) (v := ?vT7x1) rfl (by kernel_rfl) (by kernel_rfl) (by kernel_rfl) (fun _ _ _ h => h) (Or.inl ⟨by rfl, ?hyT7x1⟩) (by exact hS) ?rsT7x1
    case hyT7x1 => (intro w hSw; (try dsimp only at hSw); unfold Ep.SB2 at hSw; go_simp; try with_reducible rfl)
    try simp only [Act.put, List.setIfInBounds_toArray, List.set_cons_zero, List.set_cons_succ]
    refine wpAnyH_take (i := 1) (oi := { dst := some 46, op := Op.binOp BinOp.eql 28 (Operand.tmp 45) (Operand.const (Value.int IntKind.i64 0)) 28, type := 4, pos := "law.go:64", after := #[{ on := 0, ground := Ground.data }], guard := none }) (v := ?vT7x2) rfl (by kernel_rfl) (by kernel_rfl) (by kernel_rfl) (fun _ _ _ h => h) (Or.inl ⟨by rfl, ?hyT7x2⟩) (by exact hS) ?rsT7x2
    case hyT7x2 => (intro w hSw; (try dsimp only at hSw); unfold Ep.SB2 at hSw; go_simp; try with_reducible rfl)
    try simp only [Act.put, List.setIfInBounds_toArray, List.set_cons_zero, List.set_cons_succ]
    refine wpAnyH_take (i := 2) (oi := { dst := some 47, op := Op.move (Operand.tmp 46), type := 4, pos := "law.go:64", after := #[{ on := 1, ground := Ground.data }], guard := none }) (v := ?vT7x3) rfl (by kernel_rfl) (by kernel_rfl) (by kernel_rfl) (fun _ _ _ h => h) (Or.inl ⟨by rfl, ?hyT7x3⟩) (by exact hS) ?rsT7x3
    case hyT7x3 => (intro w hSw; (try dsimp only at hSw); unfold Ep.SB2 at hSw; go_simp; try with_reducible rfl)
    try simp only [Act.put, List.setIfInBounds_toArray, List.set_cons_zero, List.set_cons_succ]
    refine wpAnyH_take (i := 3) (oi := { dst := some 48, op := Op.move (Operand.tmp 16), type := 28, pos := "law.go:64", after := #[{ on := 2, ground := Ground.guard }], guard := some (2, true) }) (v := ?vT7x4) rfl (by kernel_rfl) (by kernel_rfl) (by kernel_rfl) (fun _ _ _ h => h) (Or.inl ⟨by rfl, ?hyT7x4⟩) (by exact hS) ?rsT7x4
    case hyT7x4 => (intro w hSw; (try dsimp only at hSw); unfold Ep.SB2 at hSw; go_simp; try with_reducible rfl)
    try simp only [Act.put, List.setIfInBounds_toArray, List.set_cons_zero, List.set_cons_succ]
    refine wpAnyH_take (i := 4) (oi := { dst := some 49, op := Op.binOp BinOp.eql 28 (Operand.tmp 48) (Operand.const (Value.int IntKind.i64 0)) 28, type := 4, pos := "law.go:64", after := #[{ on := 3, ground := Ground.data }, { on := 2, ground := Ground.guard }], guard := some (2, true) }) (v := ?vT7x5) rfl (by kernel_rfl) (by kernel_rfl) (by kernel_rfl) (fun _ _ _ h => h) (Or.inl ⟨by rfl, ?hyT7x5⟩) (by exact hS) ?rsT7x5
    case hyT7x5 => (intro w hSw; (try dsimp only at hSw); unfold Ep.SB2 at hSw; go_simp; try with_reducible rfl)
    try simp only [Act.put, List.setIfInBounds_toArray, List.set_cons_zero, List.set_cons_succ]
    refine wpAnyH_take (i := 5) (oi := { dst := some 50, op := Op.pick (Operand.tmp 47) (Operand.tmp 49) (Operand.const (Value.bool false)), type := 4, pos := "law.go:64", after := #[{ on := 2, ground := Ground.data }, { on := 4, ground := Ground.data }], guard := none }) (v := ?vT7x6) rfl (by kernel_rfl) (by kernel_rfl) (by kernel_rfl) (fun _ _ _ h => h) (Or.inl ⟨by rfl, ?hyT7x6⟩) (by exact hS) ?rsT7x6
    case hyT7x6 => (intro w hSw; (try dsimp only at hSw); unfold Ep.SB2 at hSw; go_simp; try with_reducible rfl)
    try simp only [Act.put, List.setIfInBounds_toArray, List.set_cons_zero, List.set_cons_succ]
    refine wpAnyH_take (i := 6) (oi := { dst := some 51, op := Op.move (Operand.tmp 50), type := 4, pos := "law.go:64", after := #[{ on := 5, ground := Ground.data }, { on := 2, ground := Ground.chain }], guard := none }) (v := ?vT7x7) rfl (by kernel_rfl) (by kernel_rfl) (by kernel_rfl) (fun _ _ _ h => h) (Or.inl ⟨by rfl, ?hyT7x7⟩) (by exact hS) ?rsT7x7
    case hyT7x7 => (intro w hSw; (try dsimp only at hSw); unfold Ep.SB2 at hSw; go_simp; try with_reducible rfl)
    try simp only [Act.put, List.setIfInBounds_toArray, List.set_cons_zero, List.set_cons_succ]
    refine wpAnyH_take (i := 7) (oi := { dst := some 52, op := Op.move (Operand.tmp 17), type := 3, pos := "law.go:64", after := #[{ on := 6, ground := Ground.guard }], guard := some (6, true) }) (v := ?vT7x8) rfl (by kernel_rfl) (by kernel_rfl) (by kernel_rfl) (fun _ _ _ h => h) (Or.inl ⟨by rfl, ?hyT7x8⟩) (by exact hS) ?rsT7x8
    case hyT7x8 => (intro w hSw; (try dsimp only at hSw); unfold Ep.SB2 at hSw; go_simp; try with_reducible rfl)
    try simp only [Act.put, List.setIfInBounds_toArray, List.set_cons_zero, List.set_cons_succ]
    refine wpAnyH_take (i := 8) (oi := { dst := some 53, op := Op.binOp BinOp.gtr 3 (Operand.tmp 52) (Operand.const (Value.int IntKind.i64 0)) 3, type := 4, pos := "law.go:64", after := #[{ on := 7, ground := Ground.data }, { on := 6, ground := Ground.guard }], guard := some (6, true) }) (v := ?vT7x9) rfl (by kernel_rfl) (by kernel_rfl) (by kernel_rfl) (fun _ _ _ h => h) (Or.inl ⟨by rfl, ?hyT7x9⟩) (by exact hS) ?rsT7x9
    case hyT7x9 => (intro w hSw; (try dsimp only at hSw); unfold Ep.SB2 at hSw; go_simp; try with_reducible rfl)
    try simp only [Act.put, List.setIfInBounds_toArray, List.set_cons_zero, List.set_cons_succ]
    refine wpAnyH_take (i := 9) (oi := { dst := some 54, op := Op.move (Operand.tmp 53), type := 4, pos := "law.go:64", after := #[{ on := 8, ground := Ground.data }, { on := 6, ground := Ground.chain }, { on := 6, ground := Ground.guard }], guard := some (6, true) }) (v := ?vT7x10) rfl (by kernel_rfl) (by kernel_rfl) (by kernel_rfl) (fun _ _ _ h => h) (Or.inl ⟨by rfl, ?hyT7x10⟩) (by exact hS) ?rsT7x10
    case hyT7x10 => (intro w hSw; (try dsimp only at hSw); unfold Ep.SB2 at hSw; go_simp; try with_reducible rfl)
    try simp only [Act.put, List.setIfInBounds_toArray, List.set_cons_zero, List.set_cons_succ]
    refine wpAnyH_take (i := 10) (oi := { dst := some 55, op := Op.load 27 (Operand.tmp 13), type := 27, pos := "law.go:64", after := #[{ on := 9, ground := Ground.guard }], guard := some (9, false) }) (v := undef) rfl (by kernel_rfl) (by kernel_rfl) (by kernel_rfl) (fun _ _ _ h => h) (Or.inr ⟨by rfl, rfl⟩) (by exact hS) ?_
    try simp only [Act.put, List.setIfInBounds_toArray, List.set_cons_zero, List.set_cons_succ]
    refine wpAnyH_take (i := 12) (oi := { dst := some 57, op := Op.load 27 (Operand.tmp 15), type := 27, pos := "law.go:64", after := #[{ on := 9, ground := Ground.guard }], guard := some (9, false) }) (v := undef) rfl (by kernel_rfl) (by kernel_rfl) (by kernel_rfl) (fun _ _ _ h => h) (Or.inr ⟨by rfl, rfl⟩) (by exact hS) ?_
    try simp only [Act.put, List.setIfInBounds_toArray, List.set_cons_zero, List.set_cons_succ]
    refine wpAnyH_ready (rs := [11]) (by kernel_rfl) (by simp) ?_
    refine (AllReadyH.cons (o := { dst := some 56, op := Op.call { callee := Callee.value (Operand.func 17), args := #[Operand.tmp 55], argTypes := #[27] }, type := 24, pos := "law.go:64", after := #[{ on := 10, ground := Ground.data }, { on := 9, ground := Ground.chain }, { on := 9, ground := Ground.guard }], guard := some (9, false) }) rfl (fun K hK => ?_) AllReadyH.nil)
    go_simp
    refine hK.out _ _ (by exact hS) (fun hHeld => ?_)
    clear hK K hHeld
    try simp only [Act.put, List.setIfInBounds_toArray, List.set_cons_zero, List.set_cons_succ]
    refine wpAnyH_ready (rs := [13]) (by kernel_rfl) (by simp) ?_
    refine (AllReadyH.cons (o := { dst := some 58, op := Op.call { callee := Callee.value (Operand.func 17), args := #[Operand.tmp 57], argTypes := #[27] }, type := 24, pos := "law.go:64", after := #[{ on := 12, ground := Ground.data }, { on := 11, ground := Ground.chain }, { on := 9, ground := Ground.guard }], guard := some (9, false) }) rfl (fun K hK => ?_) AllReadyH.nil)
    go_simp
    refine hK.out _ _ (by exact hS) (fun hHeld => ?_)
    clear hK K hHeld
    try simp only [Act.put, List.setIfInBounds_toArray, List.set_cons_zero, List.set_cons_succ]
    refine wpAnyH_ready (rs := [14]) (by kernel_rfl) (by simp) ?_
    refine (AllReadyH.cons (o := { dst := some 59, op := Op.call { callee := Callee.value (Operand.func 21), args := #[Operand.tmp 56, Operand.tmp 58], argTypes := #[24, 24] }, type := 3, pos := "law.go:64", after := #[{ on := 11, ground := Ground.data }, { on := 13, ground := Ground.data }, { on := 13, ground := Ground.chain }, { on := 9, ground := Ground.guard }], guard := some (9, false) }) rfl (fun K hK => ?_) AllReadyH.nil)
    go_simp
    refine hK.out _ _ (by exact hS) (fun hHeld => ?_)
    clear hK K hHeld
    try simp only [Act.put, List.setIfInBounds_toArray, List.set_cons_zero, List.set_cons_succ]
    refine wpAnyH_take (i := 15) (oi := { dst := some 60, op := Op.binOp BinOp.leq 3 (Operand.tmp 59) (Operand.const (Value.int IntKind.i64 0)) 3, type := 4, pos := "law.go:64", after := #[{ on := 14, ground := Ground.data }, { on := 9, ground := Ground.guard }], guard := some (9, false) }) (v := undef) rfl (by kernel_rfl) (by kernel_rfl) (by kernel_rfl) (fun _ _ _ h => h) (Or.inr ⟨by rfl, rfl⟩) (by exact hS) ?_
    try simp only [Act.put, List.setIfInBounds_toArray, List.set_cons_zero, List.set_cons_succ]
    refine wpAnyH_take (i := 16) (oi := { dst := some 61, op := Op.pick (Operand.tmp 54) (Operand.const (Value.bool true)) (Operand.tmp 60), type := 4, pos := "law.go:64", after := #[{ on := 9, ground := Ground.data }, { on := 15, ground := Ground.data }, { on := 6, ground := Ground.guard }], guard := some (6, true) }) (v := ?vT7x17) rfl (by kernel_rfl) (by kernel_rfl) (by kernel_rfl) (fun _ _ _ h => h) (Or.inl ⟨by rfl, ?hyT7x17⟩) (by exact hS) ?rsT7x17
    case hyT7x17 => (intro w hSw; (try dsimp only at hSw); unfold Ep.SB2 at hSw; go_simp; try with_reducible rfl)
    try simp only [Act.put, List.setIfInBounds_toArray, List.set_cons_zero, List.set_cons_succ]
    refine wpAnyH_take (i := 17) (oi := { dst := some 62, op := Op.pick (Operand.tmp 51) (Operand.tmp 61) (Operand.const (Value.bool false)), type := 4, pos := "law.go:64", after := #[{ on := 6, ground := Ground.data }, { on := 16, ground := Ground.data }], guard := none }) (v := ?vT7x18) rfl (by kernel_rfl) (by kernel_rfl) (by kernel_rfl) (fun _ _ _ h => h) (Or.inl ⟨by rfl, ?hyT7x18⟩) (by exact hS) ?rsT7x18
    case hyT7x18 => (intro w hSw; (try dsimp only at hSw); unfold Ep.SB2 at hSw; go_simp; try with_reducible rfl)
    try simp only [Act.put, List.setIfInBounds_toArray, List.set_cons_zero, List.set_cons_succ]
    refine wpAnyH_take (i := 18) (oi := { dst := some 63, op := Op.move (Operand.tmp 62), type := 4, pos := "law.go:64", after := #[{ on := 17, ground := Ground.data }, { on := 14, ground := Ground.chain }], guard := none }) (v := ?vT7x19) rfl (by kernel_rfl) (by kernel_rfl) (by kernel_rfl) (fun _ _ _ h => h) (Or.inl ⟨by rfl, ?hyT7x19⟩) (by exact hS) ?rsT7x19
    case hyT7x19 => (intro w hSw; (try dsimp only at hSw); unfold Ep.SB2 at hSw; go_simp; try with_reducible rfl)
    try simp only [Act.put, List.setIfInBounds_toArray, List.set_cons_zero, List.set_cons_succ]
    refine wpAnyH_take (i := 19) (oi := { dst := some 64, op := Op.move (Operand.tmp 17), type := 3, pos := "law.go:64", after := #[{ on := 18, ground := Ground.guard }], guard := some (18, true) }) (v := ?vT7x20) rfl (by kernel_rfl) (by kernel_rfl) (by kernel_rfl) (fun _ _ _ h => h) (Or.inl ⟨by rfl, ?hyT7x20⟩) (by exact hS) ?rsT7x20
    case hyT7x20 => (intro w hSw; (try dsimp only at hSw); unfold Ep.SB2 at hSw; go_simp; try with_reducible rfl)
    try simp only [Act.put, List.setIfInBounds_toArray, List.set_cons_zero, List.set_cons_succ]
    refine wpAnyH_take (i := 20) (oi := { dst := some 65, op := Op.binOp BinOp.lss 3 (Operand.tmp 64) (Operand.const (Value.int IntKind.i64 0)) 3, type := 4, pos := "law.go:64", after := #[{ on := 19, ground := Ground.data }, { on := 18, ground := Ground.guard }], guard := some (18, true) }) (v := ?vT7x21) rfl (by kernel_rfl) (by kernel_rfl) (by kernel_rfl) (fun _ _ _ h => h) (Or.inl ⟨by rfl, ?hyT7x21⟩) (by exact hS) ?rsT7x21
    case hyT7x21 => (intro w hSw; (try dsimp only at hSw); unfold Ep.SB2 at hSw; go_simp; try with_reducible rfl)
    try simp only [Act.put, List.setIfInBounds_toArray, List.set_cons_zero, List.set_cons_succ]
    refine wpAnyH_take (i := 21) (oi := { dst := some 66, op := Op.move (Operand.tmp 65), type := 4, pos := "law.go:64", after := #[{ on := 20, ground := Ground.data }, { on := 18, ground := Ground.chain }, { on := 18, ground := Ground.guard }], guard := some (18, true) }) (v := ?vT7x22) rfl (by kernel_rfl) (by kernel_rfl) (by kernel_rfl) (fun _ _ _ h => h) (Or.inl ⟨by rfl, ?hyT7x22⟩) (by exact hS) ?rsT7x22
    case hyT7x22 => (intro w hSw; (try dsimp only at hSw); unfold Ep.SB2 at hSw; go_simp; try with_reducible rfl)
    try simp only [Act.put, List.setIfInBounds_toArray, List.set_cons_zero, List.set_cons_succ]
    refine wpAnyH_take (i := 22) (oi := { dst := some 67, op := Op.load 27 (Operand.tmp 13), type := 27, pos := "law.go:64", after := #[{ on := 21, ground := Ground.guard }], guard := some (21, false) }) (v := ?vT7x23) rfl (by kernel_rfl) (by kernel_rfl) (by kernel_rfl) (fun _ _ _ h => h) (Or.inl ⟨by rfl, ?hyT7x23⟩) (by exact hS) ?rsT7x23
    case hyT7x23 => (intro w hSw; (try dsimp only at hSw); unfold Ep.SB2 at hSw; go_simp; try with_reducible rfl)
    try simp only [Act.put, List.setIfInBounds_toArray, List.set_cons_zero, List.set_cons_succ]
    refine wpAnyH_take (i := 24) (oi := { dst := some 69, op := Op.load 27 (Operand.tmp 15), type := 27, pos := "law.go:64", after := #[{ on := 21, ground := Ground.guard }], guard := some (21, false) }) (v := ?vT7x24) rfl (by kernel_rfl) (by kernel_rfl) (by kernel_rfl) (fun _ _ _ h => h) (Or.inl ⟨by rfl, ?hyT7x24⟩) (by exact hS) ?rsT7x24
    case hyT7x24 => (intro w hSw; (try dsimp only at hSw); unfold Ep.SB2 at hSw; go_simp; try with_reducible rfl)
    try simp only [Act.put, List.setIfInBounds_toArray, List.set_cons_zero, List.set_cons_succ]
    refine wpAnyH_ready (rs := [23]) (by kernel_rfl) (by simp) ?_
    refine (AllReadyH.cons (o := { dst := some 68, op := Op.call { callee := Callee.value (Operand.func 17), args := #[Operand.tmp 67], argTypes := #[27] }, type := 24, pos := "law.go:64", after := #[{ on := 22, ground := Ground.data }, { on := 21, ground := Ground.chain }, { on := 21, ground := Ground.guard }], guard := some (21, false) }) rfl (fun K hK => ?_) AllReadyH.nil)
    go_simp
    refine (Rl.as_sh _ _ _ _ _ _).mono ?_
    rintro e yT7x25 ⟨rfl, hq⟩
    try (go_wp2_with fail)
    have hS2 := SQ.out _ (Q.trans (Ep.SB2.here hS) hq)
    refine hK.out _ _ (by exact hS2) (fun hHeld => ?_)
    clear hK K hHeld hS hq
    have hS := hS2
    clear hS2
    try simp only [Act.put, List.setIfInBounds_toArray, List.set_cons_zero, List.set_cons_succ]
    refine wpAnyH_ready (rs := [25]) (by kernel_rfl) (by simp) ?_
    refine (AllReadyH.cons (o := { dst := some 70, op := Op.call { callee := Callee.value (Operand.func 17), args := #[Operand.tmp 69], argTypes := #[27] }, type := 24, pos := "law.go:64", after := #[{ on := 24, ground := Ground.data }, { on := 23, ground := Ground.chain }, { on := 21, ground := Ground.guard }], guard := some (21, false) }) rfl (fun K hK => ?_) AllReadyH.nil)
    go_simp
    refine (Rl.as_sh _ _ _ _ _ _).mono ?_
    rintro e yT7x26 ⟨rfl, hq⟩
    try (go_wp2_with fail)
    have hS2 := SQ.out _ (Q.trans (Ep.SB2.here hS) hq)
    refine hK.out _ _ (by exact hS2) (fun hHeld => ?_)
    clear hK K hHeld hS hq
    have hS := hS2
    clear hS2
    try simp only [Act.put, List.setIfInBounds_toArray, List.set_cons_zero, List.set_cons_succ]
    refine wpAnyH_ready (rs := [26]) (by kernel_rfl) (by simp) ?_
    refine (AllReadyH.cons (o := { dst := some 71, op := Op.call { callee := Callee.value (Operand.func 21), args := #[Operand.tmp 68, Operand.tmp 70], argTypes := #[24, 24] }, type := 3, pos := "law.go:64", after := #[{ on := 23, ground := Ground.data }, { on := 25, ground := Ground.data }, { on := 25, ground := Ground.chain }, { on := 21, ground := Ground.guard }], guard := some (21, false) }) rfl (fun K hK => ?_) AllReadyH.nil)
    go_simp
    refine (CP.out _ _ _ _ _ (L11_Z0.out.q (Ep.SB2.here hS)) (L11_Z1.out.q (Ep.SB2.here hS))).mono ?_
    rintro e yT7x27 ⟨rfl, hq⟩
    try (go_wp2_with fail)
    have hS2 := SQ.out _ (Q.trans (Ep.SB2.here hS) hq)
    refine hK.out _ _ (by exact hS2) (fun hHeld => ?_)
    clear hK K hHeld hS hq
    have hS := hS2
    clear hS2
    try simp only [Act.put, List.setIfInBounds_toArray, List.set_cons_zero, List.set_cons_succ]
    refine wpAnyH_take (i := 27) (oi := { dst := some 72, op := Op.binOp BinOp.geq 3 (Operand.tmp 71) (Operand.const (Value.int IntKind.i64 0)) 3, type := 4, pos := "law.go:64", after := #[{ on := 26, ground := Ground.data }, { on := 21, ground := Ground.guard }], guard := some (21, false) }) (v := ?vT7x28) rfl (by kernel_rfl) (by kernel_rfl) (by kernel_rfl) (fun _ _ _ h => h) (Or.inl ⟨by rfl, ?hyT7x28⟩) (by exact hS) ?rsT7x28
    case hyT7x28 => (intro w hSw; (try dsimp only at hSw); unfold Ep.SB2 at hSw; go_simp; try with_reducible rfl)
    try simp only [Act.put, List.setIfInBounds_toArray, List.set_cons_zero, List.set_cons_succ]
    refine wpAnyH_take (i := 28) (oi := { dst := some 73, op := Op.pick (Operand.tmp 66) (Operand.const (Value.bool true)) (Operand.tmp 72), type := 4, pos := "law.go:64", after := #[{ on := 21, ground := Ground.data }, { on := 27, ground := Ground.data }, { on := 18, ground := Ground.guard }], guard := some (18, true) }) (v := ?vT7x29) rfl (by kernel_rfl) (by kernel_rfl) (by kernel_rfl) (fun _ _ _ h => h) (Or.inl ⟨by rfl, ?hyT7x29⟩) (by exact hS) ?rsT7x29
    case hyT7x29 => (intro w hSw; (try dsimp only at hSw); unfold Ep.SB2 at hSw; go_simp; try with_reducible rfl)
    try simp only [Act.put, List.setIfInBounds_toArray, List.set_cons_zero, List.set_cons_succ]
    refine wpAnyH_take (i := 29) (oi := { dst := some 74, op := Op.pick (Operand.tmp 63) (Operand.tmp 73) (Operand.const (Value.bool false)), type := 4, pos := "law.go:64", after := #[{ on := 18, ground := Ground.data }, { on := 28, ground := Ground.data }], guard := none }) (v := ?vT7x30) rfl (by kernel_rfl) (by kernel_rfl) (by kernel_rfl) (fun _ _ _ h => h) (Or.inl ⟨by rfl, ?hyT7x30⟩) (by exact hS) ?rsT7x30
    case hyT7x30 => (intro w hSw; (try dsimp only at hSw); unfold Ep.SB2 at hSw; go_simp; try with_reducible rfl)
    try simp only [Act.put, List.setIfInBounds_toArray, List.set_cons_zero, List.set_cons_succ]
    refine wpAnyH_take (i := 30) (oi := { dst := some 75, op := Op.move (Operand.tmp 74), type := 4, pos := "law.go:64", after := #[{ on := 29, ground := Ground.data }, { on := 26, ground := Ground.chain }], guard := none }) (v := ?vT7x31) rfl (by kernel_rfl) (by kernel_rfl) (by kernel_rfl) (fun _ _ _ h => h) (Or.inl ⟨by rfl, ?hyT7x31⟩) (by exact hS) ?rsT7x31
    case hyT7x31 => (intro w hSw; (try dsimp only at hSw); unfold Ep.SB2 at hSw; go_simp; try with_reducible rfl)
    try simp only [Act.put, List.setIfInBounds_toArray, List.set_cons_zero, List.set_cons_succ]
    refine wpAnyH_ready (rs := [31]) (by kernel_rfl) (by simp) ?_
    refine (AllReadyH.cons (o := { dst := some 76, op := Op.call { callee := Callee.value (Operand.func 18), args := #[], argTypes := #[] }, type := 4, pos := "law.go:64", after := #[{ on := 30, ground := Ground.chain }, { on := 30, ground := Ground.guard }], guard := some (30, true) }) rfl (fun K hK => ?_) AllReadyH.nil)
    go_simp
    refine (LV.out _).mono ?_
    rintro e yT7x32 ⟨rfl, hq⟩
    try (go_wp2_with fail)
    have hS2 := SQ.out _ (Q.trans (Ep.SB2.here hS) hq)
    refine hK.out _ _ (by exact hS2) (fun hHeld => ?_)
    clear hK K hHeld hS hq
    have hS := hS2
    clear hS2
    try simp only [Act.put, List.setIfInBounds_toArray, List.set_cons_zero, List.set_cons_succ]
    refine wpAnyH_take (i := 32) (oi := { dst := some 77, op := Op.pick (Operand.tmp 75) (Operand.tmp 76) (Operand.const (Value.bool false)), type := 4, pos := "law.go:64", after := #[{ on := 30, ground := Ground.data }, { on := 31, ground := Ground.data }], guard := none }) (v := ?vT7x33) rfl (by kernel_rfl) (by kernel_rfl) (by kernel_rfl) (fun _ _ _ h => h) (Or.inl ⟨by rfl, ?hyT7x33⟩) (by exact hS) ?rsT7x33
    case hyT7x33 => (intro w hSw; (try dsimp only at hSw); unfold Ep.SB2 at hSw; go_simp; try with_reducible rfl)
    try simp only [Act.put, List.setIfInBounds_toArray, List.set_cons_zero, List.set_cons_succ]
    refine wpAnyH_take (i := 33) (oi := { dst := some 8, op := Op.assign (Operand.tmp 77), type := 4, pos := "law.go:64", after := #[{ on := 32, ground := Ground.data }, { on := 31, ground := Ground.chain }, { on := 0, ground := Ground.phase }, { on := 1, ground := Ground.phase }, { on := 2, ground := Ground.phase }, { on := 3, ground := Ground.phase }, { on := 4, ground := Ground.phase }, { on := 5, ground := Ground.phase }, { on := 6, ground := Ground.phase }, { on := 7, ground := Ground.phase }, { on := 8, ground := Ground.phase }, { on := 9, ground := Ground.phase }, { on := 10, ground := Ground.phase }, { on := 11, ground := Ground.phase }, { on := 12, ground := Ground.phase }, { on := 13, ground := Ground.phase }, { on := 14, ground := Ground.phase }, { on := 15, ground := Ground.phase }, { on := 16, ground := Ground.phase }, { on := 17, ground := Ground.phase }, { on := 18, ground := Ground.phase }, { on := 19, ground := Ground.phase }, { on := 20, ground := Ground.phase }, { on := 21, ground := Ground.phase }, { on := 22, ground := Ground.phase }, { on := 23, ground := Ground.phase }, { on := 24, ground := Ground.phase }, { on := 25, ground := Ground.phase }, { on := 26, ground := Ground.phase }, { on := 27, ground := Ground.phase }, { on := 28, ground := Ground.phase }, { on := 29, ground := Ground.phase }, { on := 30, ground := Ground.phase }, { on := 31, ground := Ground.phase }, { on := 32, ground := Ground.phase }], guard := none }) (v := ?vT7x34) rfl (by kernel_rfl) (by kernel_rfl) (by kernel_rfl) (fun _ _ _ h => h) (Or.inl ⟨by rfl, ?hyT7x34⟩) (by exact hS) ?rsT7x34
    case hyT7x34 => (intro w hSw; (try dsimp only at hSw); unfold Ep.SB2 at hSw; go_simp; try with_reducible rfl)
    try simp only [Act.put, List.setIfInBounds_toArray, List.set_cons_zero, List.set_cons_succ]
    refine wpAnyH_done (by kernel_rfl) ?_ _
    have HQE := Lib.hid (Q11.out.trans (Ep.SB2.here hS))
    clear hS SQ
    go_wp2_with fail
    go_ret
    exact ⟨rfl, HQE.out⟩
  · have SQ := Lib.hid (fun u (q : Q (z11) u) => (Ep.SB2.of B11_p.out B11_q.out q : Ep.SB2 (z11) (z6.heap.size) c0 (.slice a3 r0 c3x) (n) (z9.heap.size) c1 (.slice a4 r1 c4x) (n) u))
    obtain ⟨k_i00, k_i01, k_i02, _, _, _⟩ := Er.block_cells B11_i0.out
    obtain ⟨k_i10, k_i11, k_i12, _, _, _⟩ := Er.block_cells B11_i1.out
    obtain ⟨k_x0, k_x1, k_x2, _, _, _⟩ := Er.block_cells B11_x.out
    obtain ⟨k_y0, k_y1, k_y2, _, _, _⟩ := Er.block_cells B11_y.out
    obtain ⟨k_p0, k_p1, k_p2, _, _, _⟩ := Er.block_cells B11_p.out
    obtain ⟨k_q0, k_q1, k_q2, _, _, _⟩ := Er.block_cells B11_q.out
    go_wp2_with fail
    clear k_i00 k_i01 k_i02 k_i10 k_i11 k_i12 k_x0 k_x1 k_x2 k_y0 k_y1 k_y2 k_p0 k_p1 k_p2 k_q0 k_q1 k_q2
    refine wp_region_held_drew (S := fun u => Ep.SB2 (z11) (z6.heap.size) c0 (.slice a3 r0 c3x) (n) (z9.heap.size) c1 (.slice a4 r1 c4x) (n) u) (by kernel_rfl) (by exact SQ.out _ ((Q.refl z11).drew)) (fun hHeld => ?_)
    have hS : Ep.SB2 (z11) (z6.heap.size) c0 (.slice a3 r0 c3x) (n) (z9.heap.size) c1 (.slice a4 r1 c4x) (n) z11.drew := hHeld
    clear hHeld
    generalize z11.drew = yT8x0 at hS ⊢
    refine wpAnyH_take (i := 0) (oi := { dst := some 45, op := Op.move (Operand.tmp 14), type := 28, pos := "law.go:64", after := #[], guard := none }) (v := ?vT8x1) rfl (by kernel_rfl) (by kernel_rfl) (by kernel_rfl) (fun _ _ _ h => h) (Or.inl ⟨by rfl, ?hyT8x1⟩) (by exact hS) ?rsT8x1
    case hyT8x1 => (intro w hSw; (try dsimp only at hSw); unfold Ep.SB2 at hSw; go_simp; try with_reducible rfl)
    try simp only [Act.put, List.setIfInBounds_toArray, List.set_cons_zero, List.set_cons_succ]
    refine wpAnyH_take (i := 1) (oi := { dst := some 46, op := Op.binOp BinOp.eql 28 (Operand.tmp 45) (Operand.const (Value.int IntKind.i64 0)) 28, type := 4, pos := "law.go:64", after := #[{ on := 0, ground := Ground.data }], guard := none }) (v := ?vT8x2) rfl (by kernel_rfl) (by kernel_rfl) (by kernel_rfl) (fun _ _ _ h => h) (Or.inl ⟨by rfl, ?hyT8x2⟩) (by exact hS) ?rsT8x2
    case hyT8x2 => (intro w hSw; (try dsimp only at hSw); unfold Ep.SB2 at hSw; go_simp; try with_reducible rfl)
    try simp only [Act.put, List.setIfInBounds_toArray, List.set_cons_zero, List.set_cons_succ]
    refine wpAnyH_take (i := 2) (oi := { dst := some 47, op := Op.move (Operand.tmp 46), type := 4, pos := "law.go:64", after := #[{ on := 1, ground := Ground.data }], guard := none }) (v := ?vT8x3) rfl (by kernel_rfl) (by kernel_rfl) (by kernel_rfl) (fun _ _ _ h => h) (Or.inl ⟨by rfl, ?hyT8x3⟩) (by exact hS) ?rsT8x3
    case hyT8x3 => (intro w hSw; (try dsimp only at hSw); unfold Ep.SB2 at hSw; go_simp; try with_reducible rfl)
    try simp only [Act.put, List.setIfInBounds_toArray, List.set_cons_zero, List.set_cons_succ]
    refine wpAnyH_take (i := 3) (oi := { dst := some 48, op := Op.move (Operand.tmp 16), type := 28, pos := "law.go:64", after := #[{ on := 2, ground := Ground.guard }], guard := some (2, true) }) (v := ?vT8x4) rfl (by kernel_rfl) (by kernel_rfl) (by kernel_rfl) (fun _ _ _ h => h) (Or.inl ⟨by rfl, ?hyT8x4⟩) (by exact hS) ?rsT8x4
    case hyT8x4 => (intro w hSw; (try dsimp only at hSw); unfold Ep.SB2 at hSw; go_simp; try with_reducible rfl)
    try simp only [Act.put, List.setIfInBounds_toArray, List.set_cons_zero, List.set_cons_succ]
    refine wpAnyH_take (i := 4) (oi := { dst := some 49, op := Op.binOp BinOp.eql 28 (Operand.tmp 48) (Operand.const (Value.int IntKind.i64 0)) 28, type := 4, pos := "law.go:64", after := #[{ on := 3, ground := Ground.data }, { on := 2, ground := Ground.guard }], guard := some (2, true) }) (v := ?vT8x5) rfl (by kernel_rfl) (by kernel_rfl) (by kernel_rfl) (fun _ _ _ h => h) (Or.inl ⟨by rfl, ?hyT8x5⟩) (by exact hS) ?rsT8x5
    case hyT8x5 => (intro w hSw; (try dsimp only at hSw); unfold Ep.SB2 at hSw; go_simp; try with_reducible rfl)
    try simp only [Act.put, List.setIfInBounds_toArray, List.set_cons_zero, List.set_cons_succ]
    refine wpAnyH_take (i := 5) (oi := { dst := some 50, op := Op.pick (Operand.tmp 47) (Operand.tmp 49) (Operand.const (Value.bool false)), type := 4, pos := "law.go:64", after := #[{ on := 2, ground := Ground.data }, { on := 4, ground := Ground.data }], guard := none }) (v := ?vT8x6) rfl (by kernel_rfl) (by kernel_rfl) (by kernel_rfl) (fun _ _ _ h => h) (Or.inl ⟨by rfl, ?hyT8x6⟩) (by exact hS) ?rsT8x6
    case hyT8x6 => (intro w hSw; (try dsimp only at hSw); unfold Ep.SB2 at hSw; go_simp; try with_reducible rfl)
    try simp only [Act.put, List.setIfInBounds_toArray, List.set_cons_zero, List.set_cons_succ]
    refine wpAnyH_take (i := 6) (oi := { dst := some 51, op := Op.move (Operand.tmp 50), type := 4, pos := "law.go:64", after := #[{ on := 5, ground := Ground.data }, { on := 2, ground := Ground.chain }], guard := none }) (v := ?vT8x7) rfl (by kernel_rfl) (by kernel_rfl) (by kernel_rfl) (fun _ _ _ h => h) (Or.inl ⟨by rfl, ?hyT8x7⟩) (by exact hS) ?rsT8x7
    case hyT8x7 => (intro w hSw; (try dsimp only at hSw); unfold Ep.SB2 at hSw; go_simp; try with_reducible rfl)
    try simp only [Act.put, List.setIfInBounds_toArray, List.set_cons_zero, List.set_cons_succ]
    refine wpAnyH_take (i := 7) (oi := { dst := some 52, op := Op.move (Operand.tmp 17), type := 3, pos := "law.go:64", after := #[{ on := 6, ground := Ground.guard }], guard := some (6, true) }) (v := ?vT8x8) rfl (by kernel_rfl) (by kernel_rfl) (by kernel_rfl) (fun _ _ _ h => h) (Or.inl ⟨by rfl, ?hyT8x8⟩) (by exact hS) ?rsT8x8
    case hyT8x8 => (intro w hSw; (try dsimp only at hSw); unfold Ep.SB2 at hSw; go_simp; try with_reducible rfl)
    try simp only [Act.put, List.setIfInBounds_toArray, List.set_cons_zero, List.set_cons_succ]
    refine wpAnyH_take (i := 8) (oi := { dst := some 53, op := Op.binOp BinOp.gtr 3 (Operand.tmp 52) (Operand.const (Value.int IntKind.i64 0)) 3, type := 4, pos := "law.go:64", after := #[{ on := 7, ground := Ground.data }, { on := 6, ground := Ground.guard }], guard := some (6, true) }) (v := ?vT8x9) rfl (by kernel_rfl) (by kernel_rfl) (by kernel_rfl) (fun _ _ _ h => h) (Or.inl ⟨by rfl, ?hyT8x9⟩) (by exact hS) ?rsT8x9
    case hyT8x9 => (intro w hSw; (try dsimp only at hSw); unfold Ep.SB2 at hSw; go_simp; try with_reducible rfl)
    try simp only [Act.put, List.setIfInBounds_toArray, List.set_cons_zero, List.set_cons_succ]
    refine wpAnyH_take (i := 9) (oi := { dst := some 54, op := Op.move (Operand.tmp 53), type := 4, pos := "law.go:64", after := #[{ on := 8, ground := Ground.data }, { on := 6, ground := Ground.chain }, { on := 6, ground := Ground.guard }], guard := some (6, true) }) (v := ?vT8x10) rfl (by kernel_rfl) (by kernel_rfl) (by kernel_rfl) (fun _ _ _ h => h) (Or.inl ⟨by rfl, ?hyT8x10⟩) (by exact hS) ?rsT8x10
    case hyT8x10 => (intro w hSw; (try dsimp only at hSw); unfold Ep.SB2 at hSw; go_simp; try with_reducible rfl)
    try simp only [Act.put, List.setIfInBounds_toArray, List.set_cons_zero, List.set_cons_succ]
    refine wpAnyH_take (i := 10) (oi := { dst := some 55, op := Op.load 27 (Operand.tmp 13), type := 27, pos := "law.go:64", after := #[{ on := 9, ground := Ground.guard }], guard := some (9, false) }) (v := ?vT8x11) rfl (by kernel_rfl) (by kernel_rfl) (by kernel_rfl) (fun _ _ _ h => h) (Or.inl ⟨by rfl, ?hyT8x11⟩) (by exact hS) ?rsT8x11
    case hyT8x11 => (intro w hSw; (try dsimp only at hSw); unfold Ep.SB2 at hSw; go_simp; try with_reducible rfl)
    try simp only [Act.put, List.setIfInBounds_toArray, List.set_cons_zero, List.set_cons_succ]
    refine wpAnyH_take (i := 12) (oi := { dst := some 57, op := Op.load 27 (Operand.tmp 15), type := 27, pos := "law.go:64", after := #[{ on := 9, ground := Ground.guard }], guard := some (9, false) }) (v := ?vT8x12) rfl (by kernel_rfl) (by kernel_rfl) (by kernel_rfl) (fun _ _ _ h => h) (Or.inl ⟨by rfl, ?hyT8x12⟩) (by exact hS) ?rsT8x12
    case hyT8x12 => (intro w hSw; (try dsimp only at hSw); unfold Ep.SB2 at hSw; go_simp; try with_reducible rfl)
    try simp only [Act.put, List.setIfInBounds_toArray, List.set_cons_zero, List.set_cons_succ]
    refine wpAnyH_ready (rs := [11]) (by kernel_rfl) (by simp) ?_
    refine (AllReadyH.cons (o := { dst := some 56, op := Op.call { callee := Callee.value (Operand.func 17), args := #[Operand.tmp 55], argTypes := #[27] }, type := 24, pos := "law.go:64", after := #[{ on := 10, ground := Ground.data }, { on := 9, ground := Ground.chain }, { on := 9, ground := Ground.guard }], guard := some (9, false) }) rfl (fun K hK => ?_) AllReadyH.nil)
    go_simp
    refine (Rl.as_sh _ _ _ _ _ _).mono ?_
    rintro e yT8x13 ⟨rfl, hq⟩
    try (go_wp2_with fail)
    have hS2 := SQ.out _ (Q.trans (Ep.SB2.here hS) hq)
    refine hK.out _ _ (by exact hS2) (fun hHeld => ?_)
    clear hK K hHeld hS hq
    have hS := hS2
    clear hS2
    try simp only [Act.put, List.setIfInBounds_toArray, List.set_cons_zero, List.set_cons_succ]
    refine wpAnyH_ready (rs := [13]) (by kernel_rfl) (by simp) ?_
    refine (AllReadyH.cons (o := { dst := some 58, op := Op.call { callee := Callee.value (Operand.func 17), args := #[Operand.tmp 57], argTypes := #[27] }, type := 24, pos := "law.go:64", after := #[{ on := 12, ground := Ground.data }, { on := 11, ground := Ground.chain }, { on := 9, ground := Ground.guard }], guard := some (9, false) }) rfl (fun K hK => ?_) AllReadyH.nil)
    go_simp
    refine (Rl.as_sh _ _ _ _ _ _).mono ?_
    rintro e yT8x14 ⟨rfl, hq⟩
    try (go_wp2_with fail)
    have hS2 := SQ.out _ (Q.trans (Ep.SB2.here hS) hq)
    refine hK.out _ _ (by exact hS2) (fun hHeld => ?_)
    clear hK K hHeld hS hq
    have hS := hS2
    clear hS2
    try simp only [Act.put, List.setIfInBounds_toArray, List.set_cons_zero, List.set_cons_succ]
    refine wpAnyH_ready (rs := [14]) (by kernel_rfl) (by simp) ?_
    refine (AllReadyH.cons (o := { dst := some 59, op := Op.call { callee := Callee.value (Operand.func 21), args := #[Operand.tmp 56, Operand.tmp 58], argTypes := #[24, 24] }, type := 3, pos := "law.go:64", after := #[{ on := 11, ground := Ground.data }, { on := 13, ground := Ground.data }, { on := 13, ground := Ground.chain }, { on := 9, ground := Ground.guard }], guard := some (9, false) }) rfl (fun K hK => ?_) AllReadyH.nil)
    go_simp
    refine (CP.out _ _ _ _ _ (L11_Z0.out.q (Ep.SB2.here hS)) (L11_Z1.out.q (Ep.SB2.here hS))).mono ?_
    rintro e yT8x15 ⟨rfl, hq⟩
    try (go_wp2_with fail)
    have hS2 := SQ.out _ (Q.trans (Ep.SB2.here hS) hq)
    refine hK.out _ _ (by exact hS2) (fun hHeld => ?_)
    clear hK K hHeld hS hq
    have hS := hS2
    clear hS2
    try simp only [Act.put, List.setIfInBounds_toArray, List.set_cons_zero, List.set_cons_succ]
    refine wpAnyH_take (i := 15) (oi := { dst := some 60, op := Op.binOp BinOp.leq 3 (Operand.tmp 59) (Operand.const (Value.int IntKind.i64 0)) 3, type := 4, pos := "law.go:64", after := #[{ on := 14, ground := Ground.data }, { on := 9, ground := Ground.guard }], guard := some (9, false) }) (v := ?vT8x16) rfl (by kernel_rfl) (by kernel_rfl) (by kernel_rfl) (fun _ _ _ h => h) (Or.inl ⟨by rfl, ?hyT8x16⟩) (by exact hS) ?rsT8x16
    case hyT8x16 => (intro w hSw; (try dsimp only at hSw); unfold Ep.SB2 at hSw; go_simp; try with_reducible rfl)
    try simp only [Act.put, List.setIfInBounds_toArray, List.set_cons_zero, List.set_cons_succ]
    refine wpAnyH_take (i := 16) (oi := { dst := some 61, op := Op.pick (Operand.tmp 54) (Operand.const (Value.bool true)) (Operand.tmp 60), type := 4, pos := "law.go:64", after := #[{ on := 9, ground := Ground.data }, { on := 15, ground := Ground.data }, { on := 6, ground := Ground.guard }], guard := some (6, true) }) (v := ?vT8x17) rfl (by kernel_rfl) (by kernel_rfl) (by kernel_rfl) (fun _ _ _ h => h) (Or.inl ⟨by rfl, ?hyT8x17⟩) (by exact hS) ?rsT8x17
    case hyT8x17 => (intro w hSw; (try dsimp only at hSw); unfold Ep.SB2 at hSw; go_simp; try with_reducible rfl)
    try simp only [Act.put, List.setIfInBounds_toArray, List.set_cons_zero, List.set_cons_succ]
    refine wpAnyH_take (i := 17) (oi := { dst := some 62, op := Op.pick (Operand.tmp 51) (Operand.tmp 61) (Operand.const (Value.bool false)), type := 4, pos := "law.go:64", after := #[{ on := 6, ground := Ground.data }, { on := 16, ground := Ground.data }], guard := none }) (v := ?vT8x18) rfl (by kernel_rfl) (by kernel_rfl) (by kernel_rfl) (fun _ _ _ h => h) (Or.inl ⟨by rfl, ?hyT8x18⟩) (by exact hS) ?rsT8x18
    case hyT8x18 => (intro w hSw; (try dsimp only at hSw); unfold Ep.SB2 at hSw; go_simp; try with_reducible rfl)
    try simp only [Act.put, List.setIfInBounds_toArray, List.set_cons_zero, List.set_cons_succ]
    refine wpAnyH_take (i := 18) (oi := { dst := some 63, op := Op.move (Operand.tmp 62), type := 4, pos := "law.go:64", after := #[{ on := 17, ground := Ground.data }, { on := 14, ground := Ground.chain }], guard := none }) (v := ?vT8x19) rfl (by kernel_rfl) (by kernel_rfl) (by kernel_rfl) (fun _ _ _ h => h) (Or.inl ⟨by rfl, ?hyT8x19⟩) (by exact hS) ?rsT8x19
    case hyT8x19 => (intro w hSw; (try dsimp only at hSw); unfold Ep.SB2 at hSw; go_simp; try with_reducible rfl)
    try simp only [Act.put, List.setIfInBounds_toArray, List.set_cons_zero, List.set_cons_succ]
    refine wpAnyH_take (i := 19) (oi := { dst := some 64, op := Op.move (Operand.tmp 17), type := 3, pos := "law.go:64", after := #[{ on := 18, ground := Ground.guard }], guard := some (18, true) }) (v := ?vT8x20) rfl (by kernel_rfl) (by kernel_rfl) (by kernel_rfl) (fun _ _ _ h => h) (Or.inl ⟨by rfl, ?hyT8x20⟩) (by exact hS) ?rsT8x20
    case hyT8x20 => (intro w hSw; (try dsimp only at hSw); unfold Ep.SB2 at hSw; go_simp; try with_reducible rfl)
    try simp only [Act.put, List.setIfInBounds_toArray, List.set_cons_zero, List.set_cons_succ]
    refine wpAnyH_take (i := 20) (oi := { dst := some 65, op := Op.binOp BinOp.lss 3 (Operand.tmp 64) (Operand.const (Value.int IntKind.i64 0)) 3, type := 4, pos := "law.go:64", after := #[{ on := 19, ground := Ground.data }, { on := 18, ground := Ground.guard }], guard := some (18, true) }) (v := ?vT8x21) rfl (by kernel_rfl) (by kernel_rfl) (by kernel_rfl) (fun _ _ _ h => h) (Or.inl ⟨by rfl, ?hyT8x21⟩) (by exact hS) ?rsT8x21
    case hyT8x21 => (intro w hSw; (try dsimp only at hSw); unfold Ep.SB2 at hSw; go_simp; try with_reducible rfl)
    try simp only [Act.put, List.setIfInBounds_toArray, List.set_cons_zero, List.set_cons_succ]
    refine wpAnyH_take (i := 21) (oi := { dst := some 66, op := Op.move (Operand.tmp 65), type := 4, pos := "law.go:64", after := #[{ on := 20, ground := Ground.data }, { on := 18, ground := Ground.chain }, { on := 18, ground := Ground.guard }], guard := some (18, true) }) (v := ?vT8x22) rfl (by kernel_rfl) (by kernel_rfl) (by kernel_rfl) (fun _ _ _ h => h) (Or.inl ⟨by rfl, ?hyT8x22⟩) (by exact hS) ?rsT8x22
    case hyT8x22 => (intro w hSw; (try dsimp only at hSw); unfold Ep.SB2 at hSw; go_simp; try with_reducible rfl)
    try simp only [Act.put, List.setIfInBounds_toArray, List.set_cons_zero, List.set_cons_succ]
    refine wpAnyH_take (i := 22) (oi := { dst := some 67, op := Op.load 27 (Operand.tmp 13), type := 27, pos := "law.go:64", after := #[{ on := 21, ground := Ground.guard }], guard := some (21, false) }) (v := ?vT8x23) rfl (by kernel_rfl) (by kernel_rfl) (by kernel_rfl) (fun _ _ _ h => h) (Or.inl ⟨by rfl, ?hyT8x23⟩) (by exact hS) ?rsT8x23
    case hyT8x23 => (intro w hSw; (try dsimp only at hSw); unfold Ep.SB2 at hSw; go_simp; try with_reducible rfl)
    try simp only [Act.put, List.setIfInBounds_toArray, List.set_cons_zero, List.set_cons_succ]
    refine wpAnyH_take (i := 24) (oi := { dst := some 69, op := Op.load 27 (Operand.tmp 15), type := 27, pos := "law.go:64", after := #[{ on := 21, ground := Ground.guard }], guard := some (21, false) }) (v := ?vT8x24) rfl (by kernel_rfl) (by kernel_rfl) (by kernel_rfl) (fun _ _ _ h => h) (Or.inl ⟨by rfl, ?hyT8x24⟩) (by exact hS) ?rsT8x24
    case hyT8x24 => (intro w hSw; (try dsimp only at hSw); unfold Ep.SB2 at hSw; go_simp; try with_reducible rfl)
    try simp only [Act.put, List.setIfInBounds_toArray, List.set_cons_zero, List.set_cons_succ]
    refine wpAnyH_ready (rs := [23]) (by kernel_rfl) (by simp) ?_
    refine (AllReadyH.cons (o := { dst := some 68, op := Op.call { callee := Callee.value (Operand.func 17), args := #[Operand.tmp 67], argTypes := #[27] }, type := 24, pos := "law.go:64", after := #[{ on := 22, ground := Ground.data }, { on := 21, ground := Ground.chain }, { on := 21, ground := Ground.guard }], guard := some (21, false) }) rfl (fun K hK => ?_) AllReadyH.nil)
    go_simp
    refine (Rl.as_sh _ _ _ _ _ _).mono ?_
    rintro e yT8x25 ⟨rfl, hq⟩
    try (go_wp2_with fail)
    have hS2 := SQ.out _ (Q.trans (Ep.SB2.here hS) hq)
    refine hK.out _ _ (by exact hS2) (fun hHeld => ?_)
    clear hK K hHeld hS hq
    have hS := hS2
    clear hS2
    try simp only [Act.put, List.setIfInBounds_toArray, List.set_cons_zero, List.set_cons_succ]
    refine wpAnyH_ready (rs := [25]) (by kernel_rfl) (by simp) ?_
    refine (AllReadyH.cons (o := { dst := some 70, op := Op.call { callee := Callee.value (Operand.func 17), args := #[Operand.tmp 69], argTypes := #[27] }, type := 24, pos := "law.go:64", after := #[{ on := 24, ground := Ground.data }, { on := 23, ground := Ground.chain }, { on := 21, ground := Ground.guard }], guard := some (21, false) }) rfl (fun K hK => ?_) AllReadyH.nil)
    go_simp
    refine (Rl.as_sh _ _ _ _ _ _).mono ?_
    rintro e yT8x26 ⟨rfl, hq⟩
    try (go_wp2_with fail)
    have hS2 := SQ.out _ (Q.trans (Ep.SB2.here hS) hq)
    refine hK.out _ _ (by exact hS2) (fun hHeld => ?_)
    clear hK K hHeld hS hq
    have hS := hS2
    clear hS2
    try simp only [Act.put, List.setIfInBounds_toArray, List.set_cons_zero, List.set_cons_succ]
    refine wpAnyH_ready (rs := [26]) (by kernel_rfl) (by simp) ?_
    refine (AllReadyH.cons (o := { dst := some 71, op := Op.call { callee := Callee.value (Operand.func 21), args := #[Operand.tmp 68, Operand.tmp 70], argTypes := #[24, 24] }, type := 3, pos := "law.go:64", after := #[{ on := 23, ground := Ground.data }, { on := 25, ground := Ground.data }, { on := 25, ground := Ground.chain }, { on := 21, ground := Ground.guard }], guard := some (21, false) }) rfl (fun K hK => ?_) AllReadyH.nil)
    go_simp
    refine (CP.out _ _ _ _ _ (L11_Z0.out.q (Ep.SB2.here hS)) (L11_Z1.out.q (Ep.SB2.here hS))).mono ?_
    rintro e yT8x27 ⟨rfl, hq⟩
    try (go_wp2_with fail)
    have hS2 := SQ.out _ (Q.trans (Ep.SB2.here hS) hq)
    refine hK.out _ _ (by exact hS2) (fun hHeld => ?_)
    clear hK K hHeld hS hq
    have hS := hS2
    clear hS2
    try simp only [Act.put, List.setIfInBounds_toArray, List.set_cons_zero, List.set_cons_succ]
    refine wpAnyH_take (i := 27) (oi := { dst := some 72, op := Op.binOp BinOp.geq 3 (Operand.tmp 71) (Operand.const (Value.int IntKind.i64 0)) 3, type := 4, pos := "law.go:64", after := #[{ on := 26, ground := Ground.data }, { on := 21, ground := Ground.guard }], guard := some (21, false) }) (v := ?vT8x28) rfl (by kernel_rfl) (by kernel_rfl) (by kernel_rfl) (fun _ _ _ h => h) (Or.inl ⟨by rfl, ?hyT8x28⟩) (by exact hS) ?rsT8x28
    case hyT8x28 => (intro w hSw; (try dsimp only at hSw); unfold Ep.SB2 at hSw; go_simp; try with_reducible rfl)
    try simp only [Act.put, List.setIfInBounds_toArray, List.set_cons_zero, List.set_cons_succ]
    refine wpAnyH_take (i := 28) (oi := { dst := some 73, op := Op.pick (Operand.tmp 66) (Operand.const (Value.bool true)) (Operand.tmp 72), type := 4, pos := "law.go:64", after := #[{ on := 21, ground := Ground.data }, { on := 27, ground := Ground.data }, { on := 18, ground := Ground.guard }], guard := some (18, true) }) (v := ?vT8x29) rfl (by kernel_rfl) (by kernel_rfl) (by kernel_rfl) (fun _ _ _ h => h) (Or.inl ⟨by rfl, ?hyT8x29⟩) (by exact hS) ?rsT8x29
    case hyT8x29 => (intro w hSw; (try dsimp only at hSw); unfold Ep.SB2 at hSw; go_simp; try with_reducible rfl)
    try simp only [Act.put, List.setIfInBounds_toArray, List.set_cons_zero, List.set_cons_succ]
    refine wpAnyH_take (i := 29) (oi := { dst := some 74, op := Op.pick (Operand.tmp 63) (Operand.tmp 73) (Operand.const (Value.bool false)), type := 4, pos := "law.go:64", after := #[{ on := 18, ground := Ground.data }, { on := 28, ground := Ground.data }], guard := none }) (v := ?vT8x30) rfl (by kernel_rfl) (by kernel_rfl) (by kernel_rfl) (fun _ _ _ h => h) (Or.inl ⟨by rfl, ?hyT8x30⟩) (by exact hS) ?rsT8x30
    case hyT8x30 => (intro w hSw; (try dsimp only at hSw); unfold Ep.SB2 at hSw; go_simp; try with_reducible rfl)
    try simp only [Act.put, List.setIfInBounds_toArray, List.set_cons_zero, List.set_cons_succ]
    refine wpAnyH_take (i := 30) (oi := { dst := some 75, op := Op.move (Operand.tmp 74), type := 4, pos := "law.go:64", after := #[{ on := 29, ground := Ground.data }, { on := 26, ground := Ground.chain }], guard := none }) (v := ?vT8x31) rfl (by kernel_rfl) (by kernel_rfl) (by kernel_rfl) (fun _ _ _ h => h) (Or.inl ⟨by rfl, ?hyT8x31⟩) (by exact hS) ?rsT8x31
    case hyT8x31 => (intro w hSw; (try dsimp only at hSw); unfold Ep.SB2 at hSw; go_simp; try with_reducible rfl)
    try simp only [Act.put, List.setIfInBounds_toArray, List.set_cons_zero, List.set_cons_succ]
    refine wpAnyH_ready (rs := [31]) (by kernel_rfl) (by simp) ?_
    refine (AllReadyH.cons (o := { dst := some 76, op := Op.call { callee := Callee.value (Operand.func 18), args := #[], argTypes := #[] }, type := 4, pos := "law.go:64", after := #[{ on := 30, ground := Ground.chain }, { on := 30, ground := Ground.guard }], guard := some (30, true) }) rfl (fun K hK => ?_) AllReadyH.nil)
    go_simp
    refine (LV.out _).mono ?_
    rintro e yT8x32 ⟨rfl, hq⟩
    try (go_wp2_with fail)
    have hS2 := SQ.out _ (Q.trans (Ep.SB2.here hS) hq)
    refine hK.out _ _ (by exact hS2) (fun hHeld => ?_)
    clear hK K hHeld hS hq
    have hS := hS2
    clear hS2
    try simp only [Act.put, List.setIfInBounds_toArray, List.set_cons_zero, List.set_cons_succ]
    refine wpAnyH_take (i := 32) (oi := { dst := some 77, op := Op.pick (Operand.tmp 75) (Operand.tmp 76) (Operand.const (Value.bool false)), type := 4, pos := "law.go:64", after := #[{ on := 30, ground := Ground.data }, { on := 31, ground := Ground.data }], guard := none }) (v := ?vT8x33) rfl (by kernel_rfl) (by kernel_rfl) (by kernel_rfl) (fun _ _ _ h => h) (Or.inl ⟨by rfl, ?hyT8x33⟩) (by exact hS) ?rsT8x33
    case hyT8x33 => (intro w hSw; (try dsimp only at hSw); unfold Ep.SB2 at hSw; go_simp; try with_reducible rfl)
    try simp only [Act.put, List.setIfInBounds_toArray, List.set_cons_zero, List.set_cons_succ]
    refine wpAnyH_take (i := 33) (oi := { dst := some 8, op := Op.assign (Operand.tmp 77), type := 4, pos := "law.go:64", after := #[{ on := 32, ground := Ground.data }, { on := 31, ground := Ground.chain }, { on := 0, ground := Ground.phase }, { on := 1, ground := Ground.phase }, { on := 2, ground := Ground.phase }, { on := 3, ground := Ground.phase }, { on := 4, ground := Ground.phase }, { on := 5, ground := Ground.phase }, { on := 6, ground := Ground.phase }, { on := 7, ground := Ground.phase }, { on := 8, ground := Ground.phase }, { on := 9, ground := Ground.phase }, { on := 10, ground := Ground.phase }, { on := 11, ground := Ground.phase }, { on := 12, ground := Ground.phase }, { on := 13, ground := Ground.phase }, { on := 14, ground := Ground.phase }, { on := 15, ground := Ground.phase }, { on := 16, ground := Ground.phase }, { on := 17, ground := Ground.phase }, { on := 18, ground := Ground.phase }, { on := 19, ground := Ground.phase }, { on := 20, ground := Ground.phase }, { on := 21, ground := Ground.phase }, { on := 22, ground := Ground.phase }, { on := 23, ground := Ground.phase }, { on := 24, ground := Ground.phase }, { on := 25, ground := Ground.phase }, { on := 26, ground := Ground.phase }, { on := 27, ground := Ground.phase }, { on := 28, ground := Ground.phase }, { on := 29, ground := Ground.phase }, { on := 30, ground := Ground.phase }, { on := 31, ground := Ground.phase }, { on := 32, ground := Ground.phase }], guard := none }) (v := ?vT8x34) rfl (by kernel_rfl) (by kernel_rfl) (by kernel_rfl) (fun _ _ _ h => h) (Or.inl ⟨by rfl, ?hyT8x34⟩) (by exact hS) ?rsT8x34
    case hyT8x34 => (intro w hSw; (try dsimp only at hSw); unfold Ep.SB2 at hSw; go_simp; try with_reducible rfl)
    try simp only [Act.put, List.setIfInBounds_toArray, List.set_cons_zero, List.set_cons_succ]
    refine wpAnyH_done (by kernel_rfl) ?_ _
    have HQE := Lib.hid (Q11.out.trans (Ep.SB2.here hS))
    clear hS SQ
    go_wp2_with fail
    go_ret
    exact ⟨rfl, HQE.out⟩
  · have hk1 : decide (k < (0 : Int)) = true := by simp; omega
    have hk2 : ¬ 0 < k := by omega
    have hk3 : decide ((0 : Int) < k) = false := by simp; omega
    have hk4 : decide (kk ≤ (0 : Int)) = true := by simp; omega
    have SQ := Lib.hid (fun u (q : Q (z11) u) => (Ep.SB2.of B11_p.out B11_q.out q : Ep.SB2 (z11) (z6.heap.size) c0 (.slice a3 r0 c3x) (n) (z9.heap.size) c1 (.slice a4 r1 c4x) (n) u))
    obtain ⟨k_i00, k_i01, k_i02, _, _, _⟩ := Er.block_cells B11_i0.out
    obtain ⟨k_i10, k_i11, k_i12, _, _, _⟩ := Er.block_cells B11_i1.out
    obtain ⟨k_x0, k_x1, k_x2, _, _, _⟩ := Er.block_cells B11_x.out
    obtain ⟨k_y0, k_y1, k_y2, _, _, _⟩ := Er.block_cells B11_y.out
    obtain ⟨k_p0, k_p1, k_p2, _, _, _⟩ := Er.block_cells B11_p.out
    obtain ⟨k_q0, k_q1, k_q2, _, _, _⟩ := Er.block_cells B11_q.out
    go_wp2_with fail
    clear k_i00 k_i01 k_i02 k_i10 k_i11 k_i12 k_x0 k_x1 k_x2 k_y0 k_y1 k_y2 k_p0 k_p1 k_p2 k_q0 k_q1 k_q2
    refine wp_region_held_drew (S := fun u => Ep.SB2 (z11) (z6.heap.size) c0 (.slice a3 r0 c3x) (n) (z9.heap.size) c1 (.slice a4 r1 c4x) (n) u) (by kernel_rfl) (by exact SQ.out _ ((Q.refl z11).drew)) (fun hHeld => ?_)
    have hS : Ep.SB2 (z11) (z6.heap.size) c0 (.slice a3 r0 c3x) (n) (z9.heap.size) c1 (.slice a4 r1 c4x) (n) z11.drew := hHeld
    clear hHeld
    generalize z11.drew = yT9x0 at hS ⊢
    refine wpAnyH_take (i := 0) (oi := { dst := some 45, op := Op.move (Operand.tmp 14), type := 28, pos := "law.go:64", after := #[], guard := none }) (v := ?vT9x1) rfl (by kernel_rfl) (by kernel_rfl) (by kernel_rfl) (fun _ _ _ h => h) (Or.inl ⟨by rfl, ?hyT9x1⟩) (by exact hS) ?rsT9x1
    case hyT9x1 => (intro w hSw; (try dsimp only at hSw); unfold Ep.SB2 at hSw; go_simp; try with_reducible rfl)
    try simp only [Act.put, List.setIfInBounds_toArray, List.set_cons_zero, List.set_cons_succ]
    refine wpAnyH_take (i := 1) (oi := { dst := some 46, op := Op.binOp BinOp.eql 28 (Operand.tmp 45) (Operand.const (Value.int IntKind.i64 0)) 28, type := 4, pos := "law.go:64", after := #[{ on := 0, ground := Ground.data }], guard := none }) (v := ?vT9x2) rfl (by kernel_rfl) (by kernel_rfl) (by kernel_rfl) (fun _ _ _ h => h) (Or.inl ⟨by rfl, ?hyT9x2⟩) (by exact hS) ?rsT9x2
    case hyT9x2 => (intro w hSw; (try dsimp only at hSw); unfold Ep.SB2 at hSw; go_simp; try with_reducible rfl)
    try simp only [Act.put, List.setIfInBounds_toArray, List.set_cons_zero, List.set_cons_succ]
    refine wpAnyH_take (i := 2) (oi := { dst := some 47, op := Op.move (Operand.tmp 46), type := 4, pos := "law.go:64", after := #[{ on := 1, ground := Ground.data }], guard := none }) (v := ?vT9x3) rfl (by kernel_rfl) (by kernel_rfl) (by kernel_rfl) (fun _ _ _ h => h) (Or.inl ⟨by rfl, ?hyT9x3⟩) (by exact hS) ?rsT9x3
    case hyT9x3 => (intro w hSw; (try dsimp only at hSw); unfold Ep.SB2 at hSw; go_simp; try with_reducible rfl)
    try simp only [Act.put, List.setIfInBounds_toArray, List.set_cons_zero, List.set_cons_succ]
    refine wpAnyH_take (i := 3) (oi := { dst := some 48, op := Op.move (Operand.tmp 16), type := 28, pos := "law.go:64", after := #[{ on := 2, ground := Ground.guard }], guard := some (2, true) }) (v := ?vT9x4) rfl (by kernel_rfl) (by kernel_rfl) (by kernel_rfl) (fun _ _ _ h => h) (Or.inl ⟨by rfl, ?hyT9x4⟩) (by exact hS) ?rsT9x4
    case hyT9x4 => (intro w hSw; (try dsimp only at hSw); unfold Ep.SB2 at hSw; go_simp; try with_reducible rfl)
    try simp only [Act.put, List.setIfInBounds_toArray, List.set_cons_zero, List.set_cons_succ]
    refine wpAnyH_take (i := 4) (oi := { dst := some 49, op := Op.binOp BinOp.eql 28 (Operand.tmp 48) (Operand.const (Value.int IntKind.i64 0)) 28, type := 4, pos := "law.go:64", after := #[{ on := 3, ground := Ground.data }, { on := 2, ground := Ground.guard }], guard := some (2, true) }) (v := ?vT9x5) rfl (by kernel_rfl) (by kernel_rfl) (by kernel_rfl) (fun _ _ _ h => h) (Or.inl ⟨by rfl, ?hyT9x5⟩) (by exact hS) ?rsT9x5
    case hyT9x5 => (intro w hSw; (try dsimp only at hSw); unfold Ep.SB2 at hSw; go_simp; try with_reducible rfl)
    try simp only [Act.put, List.setIfInBounds_toArray, List.set_cons_zero, List.set_cons_succ]
    refine wpAnyH_take (i := 5) (oi := { dst := some 50, op := Op.pick (Operand.tmp 47) (Operand.tmp 49) (Operand.const (Value.bool false)), type := 4, pos := "law.go:64", after := #[{ on := 2, ground := Ground.data }, { on := 4, ground := Ground.data }], guard := none }) (v := ?vT9x6) rfl (by kernel_rfl) (by kernel_rfl) (by kernel_rfl) (fun _ _ _ h => h) (Or.inl ⟨by rfl, ?hyT9x6⟩) (by exact hS) ?rsT9x6
    case hyT9x6 => (intro w hSw; (try dsimp only at hSw); unfold Ep.SB2 at hSw; go_simp; try with_reducible rfl)
    try simp only [Act.put, List.setIfInBounds_toArray, List.set_cons_zero, List.set_cons_succ]
    refine wpAnyH_take (i := 6) (oi := { dst := some 51, op := Op.move (Operand.tmp 50), type := 4, pos := "law.go:64", after := #[{ on := 5, ground := Ground.data }, { on := 2, ground := Ground.chain }], guard := none }) (v := ?vT9x7) rfl (by kernel_rfl) (by kernel_rfl) (by kernel_rfl) (fun _ _ _ h => h) (Or.inl ⟨by rfl, ?hyT9x7⟩) (by exact hS) ?rsT9x7
    case hyT9x7 => (intro w hSw; (try dsimp only at hSw); unfold Ep.SB2 at hSw; go_simp; try with_reducible rfl)
    try simp only [Act.put, List.setIfInBounds_toArray, List.set_cons_zero, List.set_cons_succ]
    refine wpAnyH_take (i := 7) (oi := { dst := some 52, op := Op.move (Operand.tmp 17), type := 3, pos := "law.go:64", after := #[{ on := 6, ground := Ground.guard }], guard := some (6, true) }) (v := ?vT9x8) rfl (by kernel_rfl) (by kernel_rfl) (by kernel_rfl) (fun _ _ _ h => h) (Or.inl ⟨by rfl, ?hyT9x8⟩) (by exact hS) ?rsT9x8
    case hyT9x8 => (intro w hSw; (try dsimp only at hSw); unfold Ep.SB2 at hSw; go_simp; try with_reducible rfl)
    try simp only [Act.put, List.setIfInBounds_toArray, List.set_cons_zero, List.set_cons_succ]
    refine wpAnyH_take (i := 8) (oi := { dst := some 53, op := Op.binOp BinOp.gtr 3 (Operand.tmp 52) (Operand.const (Value.int IntKind.i64 0)) 3, type := 4, pos := "law.go:64", after := #[{ on := 7, ground := Ground.data }, { on := 6, ground := Ground.guard }], guard := some (6, true) }) (v := ?vT9x9) rfl (by kernel_rfl) (by kernel_rfl) (by kernel_rfl) (fun _ _ _ h => h) (Or.inl ⟨by rfl, ?hyT9x9⟩) (by exact hS) ?rsT9x9
    case hyT9x9 => (intro w hSw; (try dsimp only at hSw); unfold Ep.SB2 at hSw; go_simp; try with_reducible rfl)
    try simp only [Act.put, List.setIfInBounds_toArray, List.set_cons_zero, List.set_cons_succ]
    refine wpAnyH_take (i := 9) (oi := { dst := some 54, op := Op.move (Operand.tmp 53), type := 4, pos := "law.go:64", after := #[{ on := 8, ground := Ground.data }, { on := 6, ground := Ground.chain }, { on := 6, ground := Ground.guard }], guard := some (6, true) }) (v := ?vT9x10) rfl (by kernel_rfl) (by kernel_rfl) (by kernel_rfl) (fun _ _ _ h => h) (Or.inl ⟨by rfl, ?hyT9x10⟩) (by exact hS) ?rsT9x10
    case hyT9x10 => (intro w hSw; (try dsimp only at hSw); unfold Ep.SB2 at hSw; go_simp; try with_reducible rfl)
    try simp only [Act.put, List.setIfInBounds_toArray, List.set_cons_zero, List.set_cons_succ]
    refine wpAnyH_take (i := 10) (oi := { dst := some 55, op := Op.load 27 (Operand.tmp 13), type := 27, pos := "law.go:64", after := #[{ on := 9, ground := Ground.guard }], guard := some (9, false) }) (v := ?vT9x11) rfl (by kernel_rfl) (by kernel_rfl) (by kernel_rfl) (fun _ _ _ h => h) (Or.inl ⟨by rfl, ?hyT9x11⟩) (by exact hS) ?rsT9x11
    case hyT9x11 => (intro w hSw; (try dsimp only at hSw); unfold Ep.SB2 at hSw; go_simp; try with_reducible rfl)
    try simp only [Act.put, List.setIfInBounds_toArray, List.set_cons_zero, List.set_cons_succ]
    refine wpAnyH_take (i := 12) (oi := { dst := some 57, op := Op.load 27 (Operand.tmp 15), type := 27, pos := "law.go:64", after := #[{ on := 9, ground := Ground.guard }], guard := some (9, false) }) (v := ?vT9x12) rfl (by kernel_rfl) (by kernel_rfl) (by kernel_rfl) (fun _ _ _ h => h) (Or.inl ⟨by rfl, ?hyT9x12⟩) (by exact hS) ?rsT9x12
    case hyT9x12 => (intro w hSw; (try dsimp only at hSw); unfold Ep.SB2 at hSw; go_simp; try with_reducible rfl)
    try simp only [Act.put, List.setIfInBounds_toArray, List.set_cons_zero, List.set_cons_succ]
    refine wpAnyH_ready (rs := [11]) (by kernel_rfl) (by simp) ?_
    refine (AllReadyH.cons (o := { dst := some 56, op := Op.call { callee := Callee.value (Operand.func 17), args := #[Operand.tmp 55], argTypes := #[27] }, type := 24, pos := "law.go:64", after := #[{ on := 10, ground := Ground.data }, { on := 9, ground := Ground.chain }, { on := 9, ground := Ground.guard }], guard := some (9, false) }) rfl (fun K hK => ?_) AllReadyH.nil)
    go_simp
    refine (Rl.as_sh _ _ _ _ _ _).mono ?_
    rintro e yT9x13 ⟨rfl, hq⟩
    try (go_wp2_with fail)
    have hS2 := SQ.out _ (Q.trans (Ep.SB2.here hS) hq)
    refine hK.out _ _ (by exact hS2) (fun hHeld => ?_)
    clear hK K hHeld hS hq
    have hS := hS2
    clear hS2
    try simp only [Act.put, List.setIfInBounds_toArray, List.set_cons_zero, List.set_cons_succ]
    refine wpAnyH_ready (rs := [13]) (by kernel_rfl) (by simp) ?_
    refine (AllReadyH.cons (o := { dst := some 58, op := Op.call { callee := Callee.value (Operand.func 17), args := #[Operand.tmp 57], argTypes := #[27] }, type := 24, pos := "law.go:64", after := #[{ on := 12, ground := Ground.data }, { on := 11, ground := Ground.chain }, { on := 9, ground := Ground.guard }], guard := some (9, false) }) rfl (fun K hK => ?_) AllReadyH.nil)
    go_simp
    refine (Rl.as_sh _ _ _ _ _ _).mono ?_
    rintro e yT9x14 ⟨rfl, hq⟩
    try (go_wp2_with fail)
    have hS2 := SQ.out _ (Q.trans (Ep.SB2.here hS) hq)
    refine hK.out _ _ (by exact hS2) (fun hHeld => ?_)
    clear hK K hHeld hS hq
    have hS := hS2
    clear hS2
    try simp only [Act.put, List.setIfInBounds_toArray, List.set_cons_zero, List.set_cons_succ]
    refine wpAnyH_ready (rs := [14]) (by kernel_rfl) (by simp) ?_
    refine (AllReadyH.cons (o := { dst := some 59, op := Op.call { callee := Callee.value (Operand.func 21), args := #[Operand.tmp 56, Operand.tmp 58], argTypes := #[24, 24] }, type := 3, pos := "law.go:64", after := #[{ on := 11, ground := Ground.data }, { on := 13, ground := Ground.data }, { on := 13, ground := Ground.chain }, { on := 9, ground := Ground.guard }], guard := some (9, false) }) rfl (fun K hK => ?_) AllReadyH.nil)
    go_simp
    refine (CP.out _ _ _ _ _ (L11_Z0.out.q (Ep.SB2.here hS)) (L11_Z1.out.q (Ep.SB2.here hS))).mono ?_
    rintro e yT9x15 ⟨rfl, hq⟩
    try (go_wp2_with fail)
    have hS2 := SQ.out _ (Q.trans (Ep.SB2.here hS) hq)
    refine hK.out _ _ (by exact hS2) (fun hHeld => ?_)
    clear hK K hHeld hS hq
    have hS := hS2
    clear hS2
    try simp only [Act.put, List.setIfInBounds_toArray, List.set_cons_zero, List.set_cons_succ]
    refine wpAnyH_take (i := 15) (oi := { dst := some 60, op := Op.binOp BinOp.leq 3 (Operand.tmp 59) (Operand.const (Value.int IntKind.i64 0)) 3, type := 4, pos := "law.go:64", after := #[{ on := 14, ground := Ground.data }, { on := 9, ground := Ground.guard }], guard := some (9, false) }) (v := ?vT9x16) rfl (by kernel_rfl) (by kernel_rfl) (by kernel_rfl) (fun _ _ _ h => h) (Or.inl ⟨by rfl, ?hyT9x16⟩) (by exact hS) ?rsT9x16
    case hyT9x16 => (intro w hSw; (try dsimp only at hSw); unfold Ep.SB2 at hSw; go_simp; try with_reducible rfl)
    try simp only [Act.put, List.setIfInBounds_toArray, List.set_cons_zero, List.set_cons_succ]
    refine wpAnyH_take (i := 16) (oi := { dst := some 61, op := Op.pick (Operand.tmp 54) (Operand.const (Value.bool true)) (Operand.tmp 60), type := 4, pos := "law.go:64", after := #[{ on := 9, ground := Ground.data }, { on := 15, ground := Ground.data }, { on := 6, ground := Ground.guard }], guard := some (6, true) }) (v := ?vT9x17) rfl (by kernel_rfl) (by kernel_rfl) (by kernel_rfl) (fun _ _ _ h => h) (Or.inl ⟨by rfl, ?hyT9x17⟩) (by exact hS) ?rsT9x17
    case hyT9x17 => (intro w hSw; (try dsimp only at hSw); unfold Ep.SB2 at hSw; go_simp; try with_reducible rfl)
    try simp only [Act.put, List.setIfInBounds_toArray, List.set_cons_zero, List.set_cons_succ]
    refine wpAnyH_take (i := 17) (oi := { dst := some 62, op := Op.pick (Operand.tmp 51) (Operand.tmp 61) (Operand.const (Value.bool false)), type := 4, pos := "law.go:64", after := #[{ on := 6, ground := Ground.data }, { on := 16, ground := Ground.data }], guard := none }) (v := ?vT9x18) rfl (by kernel_rfl) (by kernel_rfl) (by kernel_rfl) (fun _ _ _ h => h) (Or.inl ⟨by rfl, ?hyT9x18⟩) (by exact hS) ?rsT9x18
    case hyT9x18 => (intro w hSw; (try dsimp only at hSw); unfold Ep.SB2 at hSw; go_simp; try with_reducible rfl)
    try simp only [Act.put, List.setIfInBounds_toArray, List.set_cons_zero, List.set_cons_succ]
    refine wpAnyH_take (i := 18) (oi := { dst := some 63, op := Op.move (Operand.tmp 62), type := 4, pos := "law.go:64", after := #[{ on := 17, ground := Ground.data }, { on := 14, ground := Ground.chain }], guard := none }) (v := ?vT9x19) rfl (by kernel_rfl) (by kernel_rfl) (by kernel_rfl) (fun _ _ _ h => h) (Or.inl ⟨by rfl, ?hyT9x19⟩) (by exact hS) ?rsT9x19
    case hyT9x19 => (intro w hSw; (try dsimp only at hSw); unfold Ep.SB2 at hSw; go_simp; try with_reducible rfl)
    try simp only [Act.put, List.setIfInBounds_toArray, List.set_cons_zero, List.set_cons_succ]
    refine wpAnyH_take (i := 19) (oi := { dst := some 64, op := Op.move (Operand.tmp 17), type := 3, pos := "law.go:64", after := #[{ on := 18, ground := Ground.guard }], guard := some (18, true) }) (v := ?vT9x20) rfl (by kernel_rfl) (by kernel_rfl) (by kernel_rfl) (fun _ _ _ h => h) (Or.inl ⟨by rfl, ?hyT9x20⟩) (by exact hS) ?rsT9x20
    case hyT9x20 => (intro w hSw; (try dsimp only at hSw); unfold Ep.SB2 at hSw; go_simp; try with_reducible rfl)
    try simp only [Act.put, List.setIfInBounds_toArray, List.set_cons_zero, List.set_cons_succ]
    refine wpAnyH_take (i := 20) (oi := { dst := some 65, op := Op.binOp BinOp.lss 3 (Operand.tmp 64) (Operand.const (Value.int IntKind.i64 0)) 3, type := 4, pos := "law.go:64", after := #[{ on := 19, ground := Ground.data }, { on := 18, ground := Ground.guard }], guard := some (18, true) }) (v := ?vT9x21) rfl (by kernel_rfl) (by kernel_rfl) (by kernel_rfl) (fun _ _ _ h => h) (Or.inl ⟨by rfl, ?hyT9x21⟩) (by exact hS) ?rsT9x21
    case hyT9x21 => (intro w hSw; (try dsimp only at hSw); unfold Ep.SB2 at hSw; go_simp; try with_reducible rfl)
    try simp only [Act.put, List.setIfInBounds_toArray, List.set_cons_zero, List.set_cons_succ]
    refine wpAnyH_take (i := 21) (oi := { dst := some 66, op := Op.move (Operand.tmp 65), type := 4, pos := "law.go:64", after := #[{ on := 20, ground := Ground.data }, { on := 18, ground := Ground.chain }, { on := 18, ground := Ground.guard }], guard := some (18, true) }) (v := ?vT9x22) rfl (by kernel_rfl) (by kernel_rfl) (by kernel_rfl) (fun _ _ _ h => h) (Or.inl ⟨by rfl, ?hyT9x22⟩) (by exact hS) ?rsT9x22
    case hyT9x22 => (intro w hSw; (try dsimp only at hSw); unfold Ep.SB2 at hSw; go_simp; try with_reducible rfl)
    try simp only [Act.put, List.setIfInBounds_toArray, List.set_cons_zero, List.set_cons_succ]
    refine wpAnyH_take (i := 22) (oi := { dst := some 67, op := Op.load 27 (Operand.tmp 13), type := 27, pos := "law.go:64", after := #[{ on := 21, ground := Ground.guard }], guard := some (21, false) }) (v := undef) rfl (by kernel_rfl) (by kernel_rfl) (by kernel_rfl) (fun _ _ _ h => h) (Or.inr ⟨by rfl, rfl⟩) (by exact hS) ?_
    try simp only [Act.put, List.setIfInBounds_toArray, List.set_cons_zero, List.set_cons_succ]
    refine wpAnyH_take (i := 24) (oi := { dst := some 69, op := Op.load 27 (Operand.tmp 15), type := 27, pos := "law.go:64", after := #[{ on := 21, ground := Ground.guard }], guard := some (21, false) }) (v := undef) rfl (by kernel_rfl) (by kernel_rfl) (by kernel_rfl) (fun _ _ _ h => h) (Or.inr ⟨by rfl, rfl⟩) (by exact hS) ?_
    try simp only [Act.put, List.setIfInBounds_toArray, List.set_cons_zero, List.set_cons_succ]
    refine wpAnyH_ready (rs := [23]) (by kernel_rfl) (by simp) ?_
    refine (AllReadyH.cons (o := { dst := some 68, op := Op.call { callee := Callee.value (Operand.func 17), args := #[Operand.tmp 67], argTypes := #[27] }, type := 24, pos := "law.go:64", after := #[{ on := 22, ground := Ground.data }, { on := 21, ground := Ground.chain }, { on := 21, ground := Ground.guard }], guard := some (21, false) }) rfl (fun K hK => ?_) AllReadyH.nil)
    go_simp
    refine hK.out _ _ (by exact hS) (fun hHeld => ?_)
    clear hK K hHeld
    try simp only [Act.put, List.setIfInBounds_toArray, List.set_cons_zero, List.set_cons_succ]
    refine wpAnyH_ready (rs := [25]) (by kernel_rfl) (by simp) ?_
    refine (AllReadyH.cons (o := { dst := some 70, op := Op.call { callee := Callee.value (Operand.func 17), args := #[Operand.tmp 69], argTypes := #[27] }, type := 24, pos := "law.go:64", after := #[{ on := 24, ground := Ground.data }, { on := 23, ground := Ground.chain }, { on := 21, ground := Ground.guard }], guard := some (21, false) }) rfl (fun K hK => ?_) AllReadyH.nil)
    go_simp
    refine hK.out _ _ (by exact hS) (fun hHeld => ?_)
    clear hK K hHeld
    try simp only [Act.put, List.setIfInBounds_toArray, List.set_cons_zero, List.set_cons_succ]
    refine wpAnyH_ready (rs := [26]) (by kernel_rfl) (by simp) ?_
    refine (AllReadyH.cons (o := { dst := some 71, op := Op.call { callee := Callee.value (Operand.func 21), args := #[Operand.tmp 68, Operand.tmp 70], argTypes := #[24, 24] }, type := 3, pos := "law.go:64", after := #[{ on := 23, ground := Ground.data }, { on := 25, ground := Ground.data }, { on := 25, ground := Ground.chain }, { on := 21, ground := Ground.guard }], guard := some (21, false) }) rfl (fun K hK => ?_) AllReadyH.nil)
    go_simp
    refine hK.out _ _ (by exact hS) (fun hHeld => ?_)
    clear hK K hHeld
    try simp only [Act.put, List.setIfInBounds_toArray, List.set_cons_zero, List.set_cons_succ]
    refine wpAnyH_take (i := 27) (oi := { dst := some 72, op := Op.binOp BinOp.geq 3 (Operand.tmp 71) (Operand.const (Value.int IntKind.i64 0)) 3, type := 4, pos := "law.go:64", after := #[{ on := 26, ground := Ground.data }, { on := 21, ground := Ground.guard }], guard := some (21, false) }) (v := undef) rfl (by kernel_rfl) (by kernel_rfl) (by kernel_rfl) (fun _ _ _ h => h) (Or.inr ⟨by rfl, rfl⟩) (by exact hS) ?_
    try simp only [Act.put, List.setIfInBounds_toArray, List.set_cons_zero, List.set_cons_succ]
    refine wpAnyH_take (i := 28) (oi := { dst := some 73, op := Op.pick (Operand.tmp 66) (Operand.const (Value.bool true)) (Operand.tmp 72), type := 4, pos := "law.go:64", after := #[{ on := 21, ground := Ground.data }, { on := 27, ground := Ground.data }, { on := 18, ground := Ground.guard }], guard := some (18, true) }) (v := ?vT9x29) rfl (by kernel_rfl) (by kernel_rfl) (by kernel_rfl) (fun _ _ _ h => h) (Or.inl ⟨by rfl, ?hyT9x29⟩) (by exact hS) ?rsT9x29
    case hyT9x29 => (intro w hSw; (try dsimp only at hSw); unfold Ep.SB2 at hSw; go_simp; try with_reducible rfl)
    try simp only [Act.put, List.setIfInBounds_toArray, List.set_cons_zero, List.set_cons_succ]
    refine wpAnyH_take (i := 29) (oi := { dst := some 74, op := Op.pick (Operand.tmp 63) (Operand.tmp 73) (Operand.const (Value.bool false)), type := 4, pos := "law.go:64", after := #[{ on := 18, ground := Ground.data }, { on := 28, ground := Ground.data }], guard := none }) (v := ?vT9x30) rfl (by kernel_rfl) (by kernel_rfl) (by kernel_rfl) (fun _ _ _ h => h) (Or.inl ⟨by rfl, ?hyT9x30⟩) (by exact hS) ?rsT9x30
    case hyT9x30 => (intro w hSw; (try dsimp only at hSw); unfold Ep.SB2 at hSw; go_simp; try with_reducible rfl)
    try simp only [Act.put, List.setIfInBounds_toArray, List.set_cons_zero, List.set_cons_succ]
    refine wpAnyH_take (i := 30) (oi := { dst := some 75, op := Op.move (Operand.tmp 74), type := 4, pos := "law.go:64", after := #[{ on := 29, ground := Ground.data }, { on := 26, ground := Ground.chain }], guard := none }) (v := ?vT9x31) rfl (by kernel_rfl) (by kernel_rfl) (by kernel_rfl) (fun _ _ _ h => h) (Or.inl ⟨by rfl, ?hyT9x31⟩) (by exact hS) ?rsT9x31
    case hyT9x31 => (intro w hSw; (try dsimp only at hSw); unfold Ep.SB2 at hSw; go_simp; try with_reducible rfl)
    try simp only [Act.put, List.setIfInBounds_toArray, List.set_cons_zero, List.set_cons_succ]
    refine wpAnyH_ready (rs := [31]) (by kernel_rfl) (by simp) ?_
    refine (AllReadyH.cons (o := { dst := some 76, op := Op.call { callee := Callee.value (Operand.func 18), args := #[], argTypes := #[] }, type := 4, pos := "law.go:64", after := #[{ on := 30, ground := Ground.chain }, { on := 30, ground := Ground.guard }], guard := some (30, true) }) rfl (fun K hK => ?_) AllReadyH.nil)
    go_simp
    refine (LV.out _).mono ?_
    rintro e yT9x32 ⟨rfl, hq⟩
    try (go_wp2_with fail)
    have hS2 := SQ.out _ (Q.trans (Ep.SB2.here hS) hq)
    refine hK.out _ _ (by exact hS2) (fun hHeld => ?_)
    clear hK K hHeld hS hq
    have hS := hS2
    clear hS2
    try simp only [Act.put, List.setIfInBounds_toArray, List.set_cons_zero, List.set_cons_succ]
    refine wpAnyH_take (i := 32) (oi := { dst := some 77, op := Op.pick (Operand.tmp 75) (Operand.tmp 76) (Operand.const (Value.bool false)), type := 4, pos := "law.go:64", after := #[{ on := 30, ground := Ground.data }, { on := 31, ground := Ground.data }], guard := none }) (v := ?vT9x33) rfl (by kernel_rfl) (by kernel_rfl) (by kernel_rfl) (fun _ _ _ h => h) (Or.inl ⟨by rfl, ?hyT9x33⟩) (by exact hS) ?rsT9x33
    case hyT9x33 => (intro w hSw; (try dsimp only at hSw); unfold Ep.SB2 at hSw; go_simp; try with_reducible rfl)
    try simp only [Act.put, List.setIfInBounds_toArray, List.set_cons_zero, List.set_cons_succ]
    refine wpAnyH_take (i := 33) (oi := { dst := some 8, op := Op.assign (Operand.tmp 77), type := 4, pos := "law.go:64", after := #[{ on := 32, ground := Ground.data }, { on := 31, ground := Ground.chain }, { on := 0, ground := Ground.phase }, { on := 1, ground := Ground.phase }, { on := 2, ground := Ground.phase }, { on := 3, ground := Ground.phase }, { on := 4, ground := Ground.phase }, { on := 5, ground := Ground.phase }, { on := 6, ground := Ground.phase }, { on := 7, ground := Ground.phase }, { on := 8, ground := Ground.phase }, { on := 9, ground := Ground.phase }, { on := 10, ground := Ground.phase }, { on := 11, ground := Ground.phase }, { on := 12, ground := Ground.phase }, { on := 13, ground := Ground.phase }, { on := 14, ground := Ground.phase }, { on := 15, ground := Ground.phase }, { on := 16, ground := Ground.phase }, { on := 17, ground := Ground.phase }, { on := 18, ground := Ground.phase }, { on := 19, ground := Ground.phase }, { on := 20, ground := Ground.phase }, { on := 21, ground := Ground.phase }, { on := 22, ground := Ground.phase }, { on := 23, ground := Ground.phase }, { on := 24, ground := Ground.phase }, { on := 25, ground := Ground.phase }, { on := 26, ground := Ground.phase }, { on := 27, ground := Ground.phase }, { on := 28, ground := Ground.phase }, { on := 29, ground := Ground.phase }, { on := 30, ground := Ground.phase }, { on := 31, ground := Ground.phase }, { on := 32, ground := Ground.phase }], guard := none }) (v := ?vT9x34) rfl (by kernel_rfl) (by kernel_rfl) (by kernel_rfl) (fun _ _ _ h => h) (Or.inl ⟨by rfl, ?hyT9x34⟩) (by exact hS) ?rsT9x34
    case hyT9x34 => (intro w hSw; (try dsimp only at hSw); unfold Ep.SB2 at hSw; go_simp; try with_reducible rfl)
    try simp only [Act.put, List.setIfInBounds_toArray, List.set_cons_zero, List.set_cons_succ]
    refine wpAnyH_done (by kernel_rfl) ?_ _
    have HQE := Lib.hid (Q11.out.trans (Ep.SB2.here hS))
    clear hS SQ
    go_wp2_with fail
    go_ret
    exact ⟨rfl, HQE.out⟩

set_option maxRecDepth 100000 in
theorem lifted (os : Os) (started : os.Started) (H : Type) (enc : TypeId × Value → H) :
    ReturnsInHanded {} Try.checked os 5 .any (Rows.roundRowSpec.pre6 enc Try.prog Try.f5 Rows.roundRowRow.domain false) (Rows.roundRowSpec.post enc Try.prog Try.f5 false true false false) := by
  refine returnsInHanded_of_change (C := Try.checked) own started (by kernel_rfl) Try.func5
    (ChangeSpec.witness6 (enc := enc) (C := Try.checked) false ⟨#[], #[.agg #[.bool false, .slice none 0 0, .int .i64 0], .agg #[.bool false, .slice none 0 0, .int .i64 0], .int .i64 0, .int .i64 0], []⟩ 8 (by kernel_rfl) (by kernel_rfl) (by kernel_rfl) (by kernel_rfl)) ?_
  intro W base args ds gs before hval0 hW hcnd _
  have hval : ∀ (j : Nat) t v, Try.f5.params[j]? = some t → args[j]? = some v → Value.okWide Try.prog W .any base t v := hval0
  have hW' := hW
  obtain ⟨p, q, hA0, hV, rfl, hfz, hnd⟩ := hW
  have hA : DataW.TrodAll enc Try.prog W 0 (fun _ => true) true Try.f5.params.toList args.toList ds p := hA0
  rw [Try.params5] at hA hval
  obtain ⟨v0, vs0, d0, ds0, p0, q0, hargs, rfl, rfl, h0, r0⟩ := trodAll_cons hA
  obtain ⟨v1, vs1, d1, ds1, p1, q1, rfl, rfl, rfl, h1, r1⟩ := trodAll_cons r0
  obtain ⟨v2, vs2, d2, ds2, p2, q2, rfl, rfl, rfl, h2, r2⟩ := trodAll_cons r1
  obtain ⟨v3, vs3, d3, ds3, p3, q3, rfl, rfl, rfl, h3, r3⟩ := trodAll_cons r2
  obtain ⟨rfl, rfl, rfl⟩ := trodAll_nil r3
  obtain rfl : args = #[v0, v1, v2, v3] := by cases args; simp_all
  obtain ⟨rfl, rfl⟩ := trodVars_none hV
  have k0 := h0
  have lt0 : ∀ x ∈ p0, x.block < W.heap.size := by obtain ⟨m, hm⟩ := k0; exact DataW.trod_lt m _ _ _ hm
  obtain ⟨c00, c01, c02, y00, y01, y02, m0, rfl, _, _, hy00, hy01, hy02⟩ := Joins.open_agg3 Try.underlying24 (by kernel_rfl) (by kernel_rfl) (hval 0 24 v0 rfl rfl) h0
  obtain ⟨g0, rfl⟩ : ∃ b, c00 = .bool b := by
    obtain ⟨b, h, _⟩ := DataW.trod_bool Try.underlying4 hy00
    exact ⟨b, by simpa using h⟩
  obtain ⟨s0, rfl, ws0⟩ : ∃ n, c02 = .int .i64 n ∧ (Lit.int .i64 n).wf = true := by
    obtain ⟨n, h, _, hw⟩ := DataW.trod_int Try.underlying3 hy02
    exact ⟨n, by simpa using h, hw⟩
  obtain ⟨a0, len0, cap0, z0, rfl, w0⟩ : ∃ a len cap zs, c01 = .slice a len cap ∧ IsRow .i64 W a len cap zs := by
    rcases open_ints Try.underlying22 Try.underlying3 (by kernel_rfl) hy01 with ⟨hcs, _⟩ | ⟨x, l, c, zs, hcs, _, hl, hm, hz, _, hcell, hwz⟩
    · exact ⟨none, 0, 0, [], by simpa using hcs, .inl ⟨rfl, rfl, rfl, rfl⟩⟩
    · exact ⟨some x, l, c, zs, by simpa using hcs, .inr ⟨_, rfl, hl, hm, by simpa using hz, hcell, hwz⟩⟩
  obtain ⟨xs0, l0, _, b0⟩ := w0.lst
  have k1 := h1
  have lt1 : ∀ x ∈ p1, x.block < W.heap.size := by obtain ⟨m, hm⟩ := k1; exact DataW.trod_lt m _ _ _ hm
  obtain ⟨c10, c11, c12, y10, y11, y12, m1, rfl, _, _, hy10, hy11, hy12⟩ := Joins.open_agg3 Try.underlying24 (by kernel_rfl) (by kernel_rfl) (hval 1 24 v1 rfl rfl) h1
  obtain ⟨g1, rfl⟩ : ∃ b, c10 = .bool b := by
    obtain ⟨b, h, _⟩ := DataW.trod_bool Try.underlying4 hy10
    exact ⟨b, by simpa using h⟩
  obtain ⟨s1, rfl, ws1⟩ : ∃ n, c12 = .int .i64 n ∧ (Lit.int .i64 n).wf = true := by
    obtain ⟨n, h, _, hw⟩ := DataW.trod_int Try.underlying3 hy12
    exact ⟨n, by simpa using h, hw⟩
  obtain ⟨a1, len1, cap1, z1, rfl, w1⟩ : ∃ a len cap zs, c11 = .slice a len cap ∧ IsRow .i64 W a len cap zs := by
    rcases open_ints Try.underlying22 Try.underlying3 (by kernel_rfl) hy11 with ⟨hcs, _⟩ | ⟨x, l, c, zs, hcs, _, hl, hm, hz, _, hcell, hwz⟩
    · exact ⟨none, 0, 0, [], by simpa using hcs, .inl ⟨rfl, rfl, rfl, rfl⟩⟩
    · exact ⟨some x, l, c, zs, by simpa using hcs, .inr ⟨_, rfl, hl, hm, by simpa using hz, hcell, hwz⟩⟩
  obtain ⟨xs1, l1, _, b1⟩ := w1.lst
  obtain ⟨a2, rfl, rfl, rfl, w2⟩ := open_int Try.underlying3 (hval 2 3 v2 rfl rfl) h2
  obtain ⟨a3, rfl, rfl, rfl, w3⟩ := open_int Try.underlying3 (hval 3 3 v3 rfl rfl) h3
  clear hA0 hval0
  refine (walk W g0 (.slice a0 len0 cap0) xs0 l0 b0 s0 (bounds_i64 ws0) g1 (.slice a1 len1 cap1) xs1 l1 b1 s1 (bounds_i64 ws1) a2 (bounds_i64 w2) a3 (bounds_i64 w3)).mono fun e W' ⟨he, bel⟩ => ?_
  subst he
  exact ⟨_, rfl, _, _, _, [], _, [], hW', trodAll_mk1 (shut_bool Try.underlying4 _), (trodAll_cons_mk (Below.trod laidOut (by kernel_rfl) (of_decide_eq_true (by kernel_rfl)) k0 bel lt0) (trodAll_cons_mk (Below.trod laidOut (by kernel_rfl) (of_decide_eq_true (by kernel_rfl)) k1 bel lt1) (trodAll_cons_mk (shut_int Try.underlying3 w2) (trodAll_cons_mk (shut_int Try.underlying3 w3) trodAll_mk0)))), rfl, bel.below.frame _, fun h => by cases h⟩

/-- The statement. -/
theorem proved : Rows.RoundRowSaid :=
  OpenClaim.holds_of_wide 5 Try.f5 rfl rfl rfl rfl rfl rfl rfl ⟨rfl, rfl, rfl, rfl, rfl⟩ rfl rfl rfl rfl rfl (by kernel_rfl) Try.func5 (by kernel_rfl)
    (of_decide_eq_true (by kernel_rfl)) (by unfold Func.isWrapper; first | (rw [if_pos (by decide +kernel)]; kernel_rfl) | (rw [if_neg (by decide +kernel)]; exact ⟨rfl, rfl⟩))
    (fun os started H enc _ => lifted os started H enc)
#print axioms proved
end Go.Proofs.Ytebcgpoemppljaa.roundRow
