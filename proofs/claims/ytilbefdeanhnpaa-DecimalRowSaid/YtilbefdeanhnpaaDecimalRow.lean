/- DecimalRow: of whatever three decimals (their first 12 numbers made digits, their scales made 0 to 9) which is greater is the document's, and an order; no conditions. -/
import Derived.Test.YtilbefdeanhnpaaRows
import Derived.WalkKit
import Derived.ProofKit
import Derived.OpenShut
import Derived.ShutString
import Derived.ChangeOld
import Derived.Below
import Derived.Lib.SmallJoins
import Derived.Test.YtilbefdeanhnpaaInts
import Derived.Test.YtilbefdeanhnpaaUtfM
import Derived.Test.YtilbefdeanhnpaaUtfG
import Derived.Test.YtilbefdeanhnpaaUtfR
import Derived.Test.YtilbefdeanhnpaaDigM
import Derived.Test.YtilbefdeanhnpaaDigL
import Derived.Test.YtilbefdeanhnpaaDigR
import Derived.Test.YtilbefdeanhnpaaDecM
import Derived.Test.YtilbefdeanhnpaaDecR
import Derived.Test.YtilbefdeanhnpaaDecS
import Derived.Test.YtilbefdeanhnpaaDecC
import Derived.Test.YtilbefdeanhnpaaDecF
import Derived.Test.YtilbefdeanhnpaaDecG
import Derived.Test.YtilbefdeanhnpaaDecQ
import Derived.Test.YtilbefdeanhnpaaDecH
import Derived.Test.YtilbefdeanhnpaaDecI
import Derived.Test.YtilbefdeanhnpaaDecJ
import Derived.Test.YtilbefdeanhnpaaDecK
import Derived.Test.YtilbefdeanhnpaaDecO
import Derived.Test.YtilbefdeanhnpaaDecZ
import Derived.Test.YtilbefdeanhnpaaDecY
set_option linter.unusedVariables false
set_option linter.unusedSimpArgs false
namespace Go.Proofs.Ytilbefdeanhnpaa.decimalRow
open Go.ChangeShapes Go.WideShapes Go.ChangeAt Go.RowKit
open Go.ChangeMaps (open_string shut_string)

theorem own : ownKnob Try.prog.godebug = none := by kernel_rfl
theorem laidOut : laidOutB Try.prog = true := by kernel_rfl


set_option maxHeartbeats 8000000 in
set_option maxRecDepth 100000 in
theorem walk (w : World) (g0 : Bool) (v0 : Value) (xs0 : List Int) (w0 : Lst w v0 xs0) (b0 : ∀ n ∈ xs0, -9223372036854775808 ≤ n ∧ n ≤ 9223372036854775807) (s0 : Int) (ws0 : -9223372036854775808 ≤ s0 ∧ s0 ≤ 9223372036854775807) (g1 : Bool) (v1 : Value) (xs1 : List Int) (w1 : Lst w v1 xs1) (b1 : ∀ n ∈ xs1, -9223372036854775808 ≤ n ∧ n ≤ 9223372036854775807) (s1 : Int) (ws1 : -9223372036854775808 ≤ s1 ∧ s1 ≤ 9223372036854775807) (g2 : Bool) (v2 : Value) (xs2 : List Int) (w2 : Lst w v2 xs2) (b2 : ∀ n ∈ xs2, -9223372036854775808 ≤ n ∧ n ≤ 9223372036854775807) (s2 : Int) (ws2 : -9223372036854775808 ≤ s2 ∧ s2 ≤ 9223372036854775807) :
    Calls Try.prog 6 #[.agg #[.bool g0, v0, .int .i64 s0], .agg #[.bool g1, v1, .int .i64 s1], .agg #[.bool g2, v2, .int .i64 s2]] w fun e w' => e = .returned (.bool true) ∧ Q w w' := by
  obtain ⟨A0, C0, rfl, _, _⟩ := w0.shape2
  have hgl0 := Dm.gdL_len xs0 12
  have kX0 := Dm.gdL_ok xs0 12
  have hab0 := Um.around_bd s0 10 (by omega)
  obtain ⟨t0, ht0⟩ : ∃ t : Nat, Um.around s0 10 = (t : Int) := ⟨(Um.around s0 10).toNat, by omega⟩
  rw [ht0] at hab0
  have hs0 : t0 ≤ 9 := by omega
  obtain ⟨p0, hp0⟩ : ∃ p, (Dm.gdL xs0 12).length = p := ⟨_, rfl⟩
  have hpm0 : p0 ≤ 12 := by omega
  have G0 := Lib.hid (fun u (q : Q w u) => Ep.good_sh u g0 A0 xs0.length C0 s0 xs0 12 (w0.q q) rfl ws0 (by omega) b0 t0 p0 ht0 hp0)
  generalize Dm.gdL xs0 12 = X0 at *
  generalize hn0 : xs0.length = n0 at *
  have HP0 := Lib.hid hp0
  clear hgl0 hab0 ht0 hp0
  obtain ⟨A1, C1, rfl, _, _⟩ := w1.shape2
  have hgl1 := Dm.gdL_len xs1 12
  have kX1 := Dm.gdL_ok xs1 12
  have hab1 := Um.around_bd s1 10 (by omega)
  obtain ⟨t1, ht1⟩ : ∃ t : Nat, Um.around s1 10 = (t : Int) := ⟨(Um.around s1 10).toNat, by omega⟩
  rw [ht1] at hab1
  have hs1 : t1 ≤ 9 := by omega
  obtain ⟨p1, hp1⟩ : ∃ p, (Dm.gdL xs1 12).length = p := ⟨_, rfl⟩
  have hpm1 : p1 ≤ 12 := by omega
  have G1 := Lib.hid (fun u (q : Q w u) => Ep.good_sh u g1 A1 xs1.length C1 s1 xs1 12 (w1.q q) rfl ws1 (by omega) b1 t1 p1 ht1 hp1)
  generalize Dm.gdL xs1 12 = X1 at *
  generalize hn1 : xs1.length = n1 at *
  have HP1 := Lib.hid hp1
  clear hgl1 hab1 ht1 hp1
  obtain ⟨A2, C2, rfl, _, _⟩ := w2.shape2
  have hgl2 := Dm.gdL_len xs2 12
  have kX2 := Dm.gdL_ok xs2 12
  have hab2 := Um.around_bd s2 10 (by omega)
  obtain ⟨t2, ht2⟩ : ∃ t : Nat, Um.around s2 10 = (t : Int) := ⟨(Um.around s2 10).toNat, by omega⟩
  rw [ht2] at hab2
  have hs2 : t2 ≤ 9 := by omega
  obtain ⟨p2, hp2⟩ : ∃ p, (Dm.gdL xs2 12).length = p := ⟨_, rfl⟩
  have hpm2 : p2 ≤ 12 := by omega
  have G2 := Lib.hid (fun u (q : Q w u) => Ep.good_sh u g2 A2 xs2.length C2 s2 xs2 12 (w2.q q) rfl ws2 (by omega) b2 t2 p2 ht2 hp2)
  generalize Dm.gdL xs2 12 = X2 at *
  generalize hn2 : xs2.length = n2 at *
  have HP2 := Lib.hid hp2
  clear hgl2 hab2 ht2 hp2
  have hp0 := HP0.out
  have hp1 := HP1.out
  have hp2 := HP2.out
  have CXY := Lib.hid (fun u a c b d (h1 : Lst u (.slice a p0 c) X0) (h2 : Lst u (.slice b p1 d) X1) => (Ep.compare_any g0 g1 _ _ t0 t1 X0 X1 u h1 h2 (by omega) (by omega) kX0 kX1 (by omega) (by omega) : Calls Try.prog 30 #[.agg #[.bool g0, .slice a p0 c, .int .i64 t0], .agg #[.bool g1, .slice b p1 d, .int .i64 t1]] u fun e w' => e = .returned (.int .i64 (Dm.cmpD g0 (Dm.num X0) t0 g1 (Dm.num X1) t1)) ∧ Q u w'))
  have CYZ := Lib.hid (fun u a c b d (h1 : Lst u (.slice a p1 c) X1) (h2 : Lst u (.slice b p2 d) X2) => (Ep.compare_any g1 g2 _ _ t1 t2 X1 X2 u h1 h2 (by omega) (by omega) kX1 kX2 (by omega) (by omega) : Calls Try.prog 30 #[.agg #[.bool g1, .slice a p1 c, .int .i64 t1], .agg #[.bool g2, .slice b p2 d, .int .i64 t2]] u fun e w' => e = .returned (.int .i64 (Dm.cmpD g1 (Dm.num X1) t1 g2 (Dm.num X2) t2)) ∧ Q u w'))
  have CYX := Lib.hid (fun u a c b d (h1 : Lst u (.slice a p1 c) X1) (h2 : Lst u (.slice b p0 d) X0) => (Ep.compare_any g1 g0 _ _ t1 t0 X1 X0 u h1 h2 (by omega) (by omega) kX1 kX0 (by omega) (by omega) : Calls Try.prog 30 #[.agg #[.bool g1, .slice a p1 c, .int .i64 t1], .agg #[.bool g0, .slice b p0 d, .int .i64 t0]] u fun e w' => e = .returned (.int .i64 (Dm.cmpD g1 (Dm.num X1) t1 g0 (Dm.num X0) t0)) ∧ Q u w'))
  have CXZ := Lib.hid (fun u a c b d (h1 : Lst u (.slice a p0 c) X0) (h2 : Lst u (.slice b p2 d) X2) => (Ep.compare_any g0 g2 _ _ t0 t2 X0 X2 u h1 h2 (by omega) (by omega) kX0 kX2 (by omega) (by omega) : Calls Try.prog 30 #[.agg #[.bool g0, .slice a p0 c, .int .i64 t0], .agg #[.bool g2, .slice b p2 d, .int .i64 t2]] u fun e w' => e = .returned (.int .i64 (Dm.cmpD g0 (Dm.num X0) t0 g2 (Dm.num X2) t2)) ∧ Q u w'))
  have RXY := Lib.hid (fun u a c b d (h1 : Lst u (.slice a p0 c) X0) (h2 : Lst u (.slice b p1 d) X1) => (Er.compare_any g0 g1 _ _ t0 t1 X0 X1 u h1 h2 (by omega) (by omega) kX0 kX1 (by omega) (by omega) : Calls Try.prog 25 #[.agg #[.bool g0, .slice a p0 c, .int .i64 t0], .agg #[.bool g1, .slice b p1 d, .int .i64 t1]] u fun e w' => e = .returned (.int .i64 (Dm.cmpD g0 (Dm.num X0) t0 g1 (Dm.num X1) t1)) ∧ Q u w'))
  have h3n := Ep.cmpD_three g0 (Dm.num X0) t0 g1 (Dm.num X1) t1
  have h3m := Ep.cmpD_three g1 (Dm.num X1) t1 g2 (Dm.num X2) t2
  have htr := Ep.cmpD_trans g0 (Dm.num X0) t0 g1 (Dm.num X1) t1 g2 (Dm.num X2) t2
  have han := Ep.cmpD_anti g0 (Dm.num X0) t0 g1 (Dm.num X1) t1
  rw [han] at CYX
  have hk3 := Ep.cmpD_three g0 (Dm.num X0) t0 g2 (Dm.num X2) t2
  generalize Dm.cmpD g0 (Dm.num X0) t0 g1 (Dm.num X1) t1 = n at *
  generalize Dm.cmpD g1 (Dm.num X1) t1 g2 (Dm.num X2) t2 = m at *
  generalize Dm.cmpD g0 (Dm.num X0) t0 g2 (Dm.num X2) t2 = kk at *
  obtain ⟨nn, hnn⟩ : ∃ nn, nn = -n := ⟨_, rfl⟩
  rw [← hnn] at CYX
  have hw1 : IntKind.i64.wrap nn = nn := Er.wrapI (by omega) (by omega)
  have hw2 : -n = nn := hnn.symm
  have LV := Lib.hid Ep.lives_any
  clear han hnn hp0 hp1 hp2 hn0 hn1 hn2 kX0 kX1 kX2 w0 w1 w2 b0 b1 b2
  have hcase : 0 < n ∨ (n ≤ 0 ∧ 0 < m) ∨ (n ≤ 0 ∧ m ≤ 0 ∧ kk ≤ 0) := by omega
  have HB := Lib.hid (show (-1 ≤ n ∧ n ≤ 1) ∧ (-1 ≤ m ∧ m ≤ 1) ∧ (-1 ≤ kk ∧ kk ≤ 1) from by omega)
  clear h3n h3m htr hk3
  go_enter Try.func6, Try.ntmps6
  have Q0 := Lib.hid (show Q w (((w.alloc (.cells #[.bool g0, .slice A0 n0 C0, .int .i64 s0] 24)).alloc (.cells #[.bool g1, .slice A1 n1 C1, .int .i64 s1] 24)).alloc (.cells #[.bool g2, .slice A2 n2 C2, .int .i64 s2] 24)) from ((((Q.refl w).alloc (.cells #[.bool g0, .slice A0 n0 C0, .int .i64 s0] 24)).alloc (.cells #[.bool g1, .slice A1 n1 C1, .int .i64 s1] 24)).alloc (.cells #[.bool g2, .slice A2 n2 C2, .int .i64 s2] 24)))
  have B0_i0 := Lib.hid (show (((w.alloc (.cells #[.bool g0, .slice A0 n0 C0, .int .i64 s0] 24)).alloc (.cells #[.bool g1, .slice A1 n1 C1, .int .i64 s1] 24)).alloc (.cells #[.bool g2, .slice A2 n2 C2, .int .i64 s2] 24)).heap[w.heap.size]? = some (.cells #[.bool g0, .slice A0 n0 C0, .int .i64 s0] 24) from by exact (Ep.heap_three _ _ _ _).1)
  have B0_i1 := Lib.hid (show (((w.alloc (.cells #[.bool g0, .slice A0 n0 C0, .int .i64 s0] 24)).alloc (.cells #[.bool g1, .slice A1 n1 C1, .int .i64 s1] 24)).alloc (.cells #[.bool g2, .slice A2 n2 C2, .int .i64 s2] 24)).heap[w.heap.size + 1]? = some (.cells #[.bool g1, .slice A1 n1 C1, .int .i64 s1] 24) from by exact (Ep.heap_three _ _ _ _).2.1)
  have B0_i2 := Lib.hid (show (((w.alloc (.cells #[.bool g0, .slice A0 n0 C0, .int .i64 s0] 24)).alloc (.cells #[.bool g1, .slice A1 n1 C1, .int .i64 s1] 24)).alloc (.cells #[.bool g2, .slice A2 n2 C2, .int .i64 s2] 24)).heap[w.heap.size + 1 + 1]? = some (.cells #[.bool g2, .slice A2 n2 C2, .int .i64 s2] 24) from by exact (Ep.heap_three _ _ _ _).2.2)
  obtain ⟨k_i00, k_i01, k_i02, _, _, _⟩ := Er.block_cells B0_i0.out
  obtain ⟨k_i10, k_i11, k_i12, _, _, _⟩ := Er.block_cells B0_i1.out
  obtain ⟨k_i20, k_i21, k_i22, _, _, _⟩ := Er.block_cells B0_i2.out
  go_wp2_with fail
  refine (G0.out _ Q0.out).mono ?_
  rintro e z1 ⟨a1, c1, rfl, hx, hq⟩
  clear k_i00 k_i01 k_i02 k_i10 k_i11 k_i12 k_i20 k_i21 k_i22
  have B1_i0 := Lib.hid ((Q.block hq (lt_of_block B0_i0.out)).trans B0_i0.out)
  clear B0_i0
  have B1_i1 := Lib.hid ((Q.block hq (lt_of_block B0_i1.out)).trans B0_i1.out)
  clear B0_i1
  have B1_i2 := Lib.hid ((Q.block hq (lt_of_block B0_i2.out)).trans B0_i2.out)
  clear B0_i2
  have Q1 := Lib.hid (Q.trans Q0.out hq)
  clear Q0
  have L1_X0 := Lib.hid hx
  clear hx
  clear hq
  have hq := (Q.refl z1).alloc (.cells #[.bool g0, .slice a1 p0 c1, .int .i64 t0] 24)
  have hb := heap_alloc_new z1 (.cells #[.bool g0, .slice a1 p0 c1, .int .i64 t0] 24)
  have L2_X0 := Lib.hid (Lst.q L1_X0.out hq)
  clear L1_X0
  have B2_i0 := Lib.hid ((Q.block hq (lt_of_block B1_i0.out)).trans B1_i0.out)
  clear B1_i0
  have B2_i1 := Lib.hid ((Q.block hq (lt_of_block B1_i1.out)).trans B1_i1.out)
  clear B1_i1
  have B2_i2 := Lib.hid ((Q.block hq (lt_of_block B1_i2.out)).trans B1_i2.out)
  clear B1_i2
  have Q2 := Lib.hid (Q.trans Q1.out hq)
  clear Q1
  have B2_x := Lib.hid hb
  clear hb hq
  obtain ⟨k_i00, k_i01, k_i02, _, _, _⟩ := Er.block_cells B2_i0.out
  obtain ⟨k_i10, k_i11, k_i12, _, _, _⟩ := Er.block_cells B2_i1.out
  obtain ⟨k_i20, k_i21, k_i22, _, _, _⟩ := Er.block_cells B2_i2.out
  obtain ⟨k_x0, k_x1, k_x2, _, _, _⟩ := Er.block_cells B2_x.out
  go_wp2_with fail
  refine (G1.out _ Q2.out).mono ?_
  rintro e z3 ⟨a2, c2, rfl, hx, hq⟩
  clear k_i00 k_i01 k_i02 k_i10 k_i11 k_i12 k_i20 k_i21 k_i22 k_x0 k_x1 k_x2
  have L3_X0 := Lib.hid (Lst.q L2_X0.out hq)
  clear L2_X0
  have B3_i0 := Lib.hid ((Q.block hq (lt_of_block B2_i0.out)).trans B2_i0.out)
  clear B2_i0
  have B3_i1 := Lib.hid ((Q.block hq (lt_of_block B2_i1.out)).trans B2_i1.out)
  clear B2_i1
  have B3_i2 := Lib.hid ((Q.block hq (lt_of_block B2_i2.out)).trans B2_i2.out)
  clear B2_i2
  have B3_x := Lib.hid ((Q.block hq (lt_of_block B2_x.out)).trans B2_x.out)
  clear B2_x
  have Q3 := Lib.hid (Q.trans Q2.out hq)
  clear Q2
  have L3_X1 := Lib.hid hx
  clear hx
  clear hq
  have hq := (Q.refl z3).alloc (.cells #[.bool g1, .slice a2 p1 c2, .int .i64 t1] 24)
  have hb := heap_alloc_new z3 (.cells #[.bool g1, .slice a2 p1 c2, .int .i64 t1] 24)
  have L4_X0 := Lib.hid (Lst.q L3_X0.out hq)
  clear L3_X0
  have L4_X1 := Lib.hid (Lst.q L3_X1.out hq)
  clear L3_X1
  have B4_i0 := Lib.hid ((Q.block hq (lt_of_block B3_i0.out)).trans B3_i0.out)
  clear B3_i0
  have B4_i1 := Lib.hid ((Q.block hq (lt_of_block B3_i1.out)).trans B3_i1.out)
  clear B3_i1
  have B4_i2 := Lib.hid ((Q.block hq (lt_of_block B3_i2.out)).trans B3_i2.out)
  clear B3_i2
  have B4_x := Lib.hid ((Q.block hq (lt_of_block B3_x.out)).trans B3_x.out)
  clear B3_x
  have Q4 := Lib.hid (Q.trans Q3.out hq)
  clear Q3
  have B4_y := Lib.hid hb
  clear hb hq
  obtain ⟨k_i00, k_i01, k_i02, _, _, _⟩ := Er.block_cells B4_i0.out
  obtain ⟨k_i10, k_i11, k_i12, _, _, _⟩ := Er.block_cells B4_i1.out
  obtain ⟨k_i20, k_i21, k_i22, _, _, _⟩ := Er.block_cells B4_i2.out
  obtain ⟨k_x0, k_x1, k_x2, _, _, _⟩ := Er.block_cells B4_x.out
  obtain ⟨k_y0, k_y1, k_y2, _, _, _⟩ := Er.block_cells B4_y.out
  go_wp2_with fail
  refine (G2.out _ Q4.out).mono ?_
  rintro e z5 ⟨a3, c3, rfl, hx, hq⟩
  clear k_i00 k_i01 k_i02 k_i10 k_i11 k_i12 k_i20 k_i21 k_i22 k_x0 k_x1 k_x2 k_y0 k_y1 k_y2
  have L5_X0 := Lib.hid (Lst.q L4_X0.out hq)
  clear L4_X0
  have L5_X1 := Lib.hid (Lst.q L4_X1.out hq)
  clear L4_X1
  have B5_i0 := Lib.hid ((Q.block hq (lt_of_block B4_i0.out)).trans B4_i0.out)
  clear B4_i0
  have B5_i1 := Lib.hid ((Q.block hq (lt_of_block B4_i1.out)).trans B4_i1.out)
  clear B4_i1
  have B5_i2 := Lib.hid ((Q.block hq (lt_of_block B4_i2.out)).trans B4_i2.out)
  clear B4_i2
  have B5_x := Lib.hid ((Q.block hq (lt_of_block B4_x.out)).trans B4_x.out)
  clear B4_x
  have B5_y := Lib.hid ((Q.block hq (lt_of_block B4_y.out)).trans B4_y.out)
  clear B4_y
  have Q5 := Lib.hid (Q.trans Q4.out hq)
  clear Q4
  have L5_X2 := Lib.hid hx
  clear hx
  clear hq
  have hq := (Q.refl z5).alloc (.cells #[.bool g2, .slice a3 p2 c3, .int .i64 t2] 24)
  have hb := heap_alloc_new z5 (.cells #[.bool g2, .slice a3 p2 c3, .int .i64 t2] 24)
  have L6_X0 := Lib.hid (Lst.q L5_X0.out hq)
  clear L5_X0
  have L6_X1 := Lib.hid (Lst.q L5_X1.out hq)
  clear L5_X1
  have L6_X2 := Lib.hid (Lst.q L5_X2.out hq)
  clear L5_X2
  have B6_i0 := Lib.hid ((Q.block hq (lt_of_block B5_i0.out)).trans B5_i0.out)
  clear B5_i0
  have B6_i1 := Lib.hid ((Q.block hq (lt_of_block B5_i1.out)).trans B5_i1.out)
  clear B5_i1
  have B6_i2 := Lib.hid ((Q.block hq (lt_of_block B5_i2.out)).trans B5_i2.out)
  clear B5_i2
  have B6_x := Lib.hid ((Q.block hq (lt_of_block B5_x.out)).trans B5_x.out)
  clear B5_x
  have B6_y := Lib.hid ((Q.block hq (lt_of_block B5_y.out)).trans B5_y.out)
  clear B5_y
  have Q6 := Lib.hid (Q.trans Q5.out hq)
  clear Q5
  have B6_z := Lib.hid hb
  clear hb hq
  obtain ⟨k_i00, k_i01, k_i02, _, _, _⟩ := Er.block_cells B6_i0.out
  obtain ⟨k_i10, k_i11, k_i12, _, _, _⟩ := Er.block_cells B6_i1.out
  obtain ⟨k_i20, k_i21, k_i22, _, _, _⟩ := Er.block_cells B6_i2.out
  obtain ⟨k_x0, k_x1, k_x2, _, _, _⟩ := Er.block_cells B6_x.out
  obtain ⟨k_y0, k_y1, k_y2, _, _, _⟩ := Er.block_cells B6_y.out
  obtain ⟨k_z0, k_z1, k_z2, _, _, _⟩ := Er.block_cells B6_z.out
  go_wp2_with fail
  have SQ0 := Lib.hid (fun u u' (k : Ep.SB2 ((z5.alloc (.cells #[.bool g2, .slice a3 p2 c3, .int .i64 t2] 24))) (z1.heap.size) g0 (.slice a1 p0 c1) (t0) (z3.heap.size) g1 (.slice a2 p1 c2) (t1) u) (q : Q u u') => (Ep.SB2.of B6_x.out B6_y.out (k.here.trans q) : Ep.SB2 ((z5.alloc (.cells #[.bool g2, .slice a3 p2 c3, .int .i64 t2] 24))) (z1.heap.size) g0 (.slice a1 p0 c1) (t0) (z3.heap.size) g1 (.slice a2 p1 c2) (t1) u'))
  have Kof0 := Lib.hid (fun u g a n c s (k : Ep.SB2 ((z5.alloc (.cells #[.bool g2, .slice a3 p2 c3, .int .i64 t2] 24))) (z1.heap.size) g0 (.slice a1 p0 c1) (t0) (z3.heap.size) g1 (.slice a2 p1 c2) (t1) u) => (by
    refine (Ep.of_sh u g a n c s).mono ?_
    rintro e w' ⟨rfl, hq⟩
    exact ⟨rfl, SQ0.out _ _ k hq, fun v zs hl => hl.q hq⟩ : Calls Try.prog 22 #[.agg #[.bool g, .slice a n c, .int .i64 s]] u fun e w' => e = .returned (.agg #[.bool g, .slice a n c, .int .i64 s]) ∧ Ep.SB2 ((z5.alloc (.cells #[.bool g2, .slice a3 p2 c3, .int .i64 t2] 24))) (z1.heap.size) g0 (.slice a1 p0 c1) (t0) (z3.heap.size) g1 (.slice a2 p1 c2) (t1) w' ∧ ∀ v zs, Lst u v zs → Lst w' v zs))
  have KC0 := Lib.hid (fun u  (k : Ep.SB2 ((z5.alloc (.cells #[.bool g2, .slice a3 p2 c3, .int .i64 t2] 24))) (z1.heap.size) g0 (.slice a1 p0 c1) (t0) (z3.heap.size) g1 (.slice a2 p1 c2) (t1) u) => (by
    refine (CXY.out u a1 c1 a2 c2 (L6_X0.out.q k.here) (L6_X1.out.q k.here)).mono ?_
    rintro e w' ⟨rfl, hq⟩
    exact ⟨rfl, SQ0.out _ _ k hq, fun v zs hl => hl.q hq⟩ : Calls Try.prog 30 #[.agg #[.bool g0, .slice a1 p0 c1, .int .i64 t0], .agg #[.bool g1, .slice a2 p1 c2, .int .i64 t1]] u fun e w' => e = .returned (.int .i64 n) ∧ Ep.SB2 ((z5.alloc (.cells #[.bool g2, .slice a3 p2 c3, .int .i64 t2] 24))) (z1.heap.size) g0 (.slice a1 p0 c1) (t0) (z3.heap.size) g1 (.slice a2 p1 c2) (t1) w' ∧ ∀ v zs, Lst u v zs → Lst w' v zs))
  have hst0 := Ep.SB2.of B6_x.out B6_y.out (Q.refl _)
  have hst := Ep.SB2.of B6_x.out B6_y.out ((Q.refl (z5.alloc (.cells #[.bool g2, .slice a3 p2 c3, .int .i64 t2] 24))).drew)
  unfold Ep.SB2 at hst hst0
  go_region_held3 (fun u => u.cell? ⟨z1.heap.size, 0, none⟩ = some (.bool g0) ∧ (u.cell? ⟨z1.heap.size, 1, none⟩ = some (.slice a1 p0 c1) ∧ (u.cell? ⟨z1.heap.size, 2, none⟩ = some (.int .i64 t0) ∧ (u.cell? ⟨z3.heap.size, 0, none⟩ = some (.bool g1) ∧ (u.cell? ⟨z3.heap.size, 1, none⟩ = some (.slice a2 p1 c2) ∧ (u.cell? ⟨z3.heap.size, 2, none⟩ = some (.int .i64 t1) ∧ (Q (z5.alloc (.cells #[.bool g2, .slice a3 p2 c3, .int .i64 t2] 24)) u))))))) (first | exact hst | exact hst0 | assumption) (first | ((go_at_call 22); refine (Kof0.out _ _ _ _ _ _ ?_).mono ?_; assumption; rintro e y0 ⟨rfl, hS, hcar⟩; unfold Ep.SB2 at hS; skip) | ((go_at_call 30); refine (KC0.out _  ?_).mono ?_; assumption; rintro e y0 ⟨rfl, hS, hcar⟩; unfold Ep.SB2 at hS; skip))
  clear k_i00 k_i01 k_i02 k_i10 k_i11 k_i12 k_i20 k_i21 k_i22 k_x0 k_x1 k_x2 k_y0 k_y1 k_y2 k_z0 k_z1 k_z2
  have hqr : Q (z5.alloc (.cells #[.bool g2, .slice a3 p2 c3, .int .i64 t2] 24)) _ := (show Ep.SB2 ((z5.alloc (.cells #[.bool g2, .slice a3 p2 c3, .int .i64 t2] 24))) (z1.heap.size) g0 (.slice a1 p0 c1) (t0) (z3.heap.size) g1 (.slice a2 p1 c2) (t1) _ from hS).here
  clear hst hst0 hS hcar
  have L7_X0 := Lib.hid (Lst.q L6_X0.out hqr)
  clear L6_X0
  have L7_X1 := Lib.hid (Lst.q L6_X1.out hqr)
  clear L6_X1
  have L7_X2 := Lib.hid (Lst.q L6_X2.out hqr)
  clear L6_X2
  have B7_i0 := Lib.hid ((Q.block hqr (lt_of_block B6_i0.out)).trans B6_i0.out)
  clear B6_i0
  have B7_i1 := Lib.hid ((Q.block hqr (lt_of_block B6_i1.out)).trans B6_i1.out)
  clear B6_i1
  have B7_i2 := Lib.hid ((Q.block hqr (lt_of_block B6_i2.out)).trans B6_i2.out)
  clear B6_i2
  have B7_x := Lib.hid ((Q.block hqr (lt_of_block B6_x.out)).trans B6_x.out)
  clear B6_x
  have B7_y := Lib.hid ((Q.block hqr (lt_of_block B6_y.out)).trans B6_y.out)
  clear B6_y
  have B7_z := Lib.hid ((Q.block hqr (lt_of_block B6_z.out)).trans B6_z.out)
  clear B6_z
  have Q7 := Lib.hid (Q.trans Q6.out hqr)
  clear Q6
  clear hqr
  obtain ⟨k_i00, k_i01, k_i02, _, _, _⟩ := Er.block_cells B7_i0.out
  obtain ⟨k_i10, k_i11, k_i12, _, _, _⟩ := Er.block_cells B7_i1.out
  obtain ⟨k_i20, k_i21, k_i22, _, _, _⟩ := Er.block_cells B7_i2.out
  obtain ⟨k_x0, k_x1, k_x2, _, _, _⟩ := Er.block_cells B7_x.out
  obtain ⟨k_y0, k_y1, k_y2, _, _, _⟩ := Er.block_cells B7_y.out
  obtain ⟨k_z0, k_z1, k_z2, _, _, _⟩ := Er.block_cells B7_z.out
  go_wp2_with fail
  have SQ1 := Lib.hid (fun u u' (k : Ep.SB2 (y0) (z3.heap.size) g1 (.slice a2 p1 c2) (t1) (z5.heap.size) g2 (.slice a3 p2 c3) (t2) u) (q : Q u u') => (Ep.SB2.of B7_y.out B7_z.out (k.here.trans q) : Ep.SB2 (y0) (z3.heap.size) g1 (.slice a2 p1 c2) (t1) (z5.heap.size) g2 (.slice a3 p2 c3) (t2) u'))
  have Kof1 := Lib.hid (fun u g a n c s (k : Ep.SB2 (y0) (z3.heap.size) g1 (.slice a2 p1 c2) (t1) (z5.heap.size) g2 (.slice a3 p2 c3) (t2) u) => (by
    refine (Ep.of_sh u g a n c s).mono ?_
    rintro e w' ⟨rfl, hq⟩
    exact ⟨rfl, SQ1.out _ _ k hq, fun v zs hl => hl.q hq⟩ : Calls Try.prog 22 #[.agg #[.bool g, .slice a n c, .int .i64 s]] u fun e w' => e = .returned (.agg #[.bool g, .slice a n c, .int .i64 s]) ∧ Ep.SB2 (y0) (z3.heap.size) g1 (.slice a2 p1 c2) (t1) (z5.heap.size) g2 (.slice a3 p2 c3) (t2) w' ∧ ∀ v zs, Lst u v zs → Lst w' v zs))
  have KC1 := Lib.hid (fun u  (k : Ep.SB2 (y0) (z3.heap.size) g1 (.slice a2 p1 c2) (t1) (z5.heap.size) g2 (.slice a3 p2 c3) (t2) u) => (by
    refine (CYZ.out u a2 c2 a3 c3 (L7_X1.out.q k.here) (L7_X2.out.q k.here)).mono ?_
    rintro e w' ⟨rfl, hq⟩
    exact ⟨rfl, SQ1.out _ _ k hq, fun v zs hl => hl.q hq⟩ : Calls Try.prog 30 #[.agg #[.bool g1, .slice a2 p1 c2, .int .i64 t1], .agg #[.bool g2, .slice a3 p2 c3, .int .i64 t2]] u fun e w' => e = .returned (.int .i64 m) ∧ Ep.SB2 (y0) (z3.heap.size) g1 (.slice a2 p1 c2) (t1) (z5.heap.size) g2 (.slice a3 p2 c3) (t2) w' ∧ ∀ v zs, Lst u v zs → Lst w' v zs))
  have hst0 := Ep.SB2.of B7_y.out B7_z.out (Q.refl _)
  have hst := Ep.SB2.of B7_y.out B7_z.out ((Q.refl y0).drew)
  unfold Ep.SB2 at hst hst0
  go_region_held3 (fun u => u.cell? ⟨z3.heap.size, 0, none⟩ = some (.bool g1) ∧ (u.cell? ⟨z3.heap.size, 1, none⟩ = some (.slice a2 p1 c2) ∧ (u.cell? ⟨z3.heap.size, 2, none⟩ = some (.int .i64 t1) ∧ (u.cell? ⟨z5.heap.size, 0, none⟩ = some (.bool g2) ∧ (u.cell? ⟨z5.heap.size, 1, none⟩ = some (.slice a3 p2 c3) ∧ (u.cell? ⟨z5.heap.size, 2, none⟩ = some (.int .i64 t2) ∧ (Q y0 u))))))) (first | exact hst | exact hst0 | assumption) (first | ((go_at_call 22); refine (Kof1.out _ _ _ _ _ _ ?_).mono ?_; assumption; rintro e y1 ⟨rfl, hS, hcar⟩; unfold Ep.SB2 at hS; skip) | ((go_at_call 30); refine (KC1.out _  ?_).mono ?_; assumption; rintro e y1 ⟨rfl, hS, hcar⟩; unfold Ep.SB2 at hS; skip))
  clear k_i00 k_i01 k_i02 k_i10 k_i11 k_i12 k_i20 k_i21 k_i22 k_x0 k_x1 k_x2 k_y0 k_y1 k_y2 k_z0 k_z1 k_z2
  have hqr : Q y0 _ := (show Ep.SB2 (y0) (z3.heap.size) g1 (.slice a2 p1 c2) (t1) (z5.heap.size) g2 (.slice a3 p2 c3) (t2) _ from hS).here
  clear hst hst0 hS hcar
  have L8_X0 := Lib.hid (Lst.q L7_X0.out hqr)
  clear L7_X0
  have L8_X1 := Lib.hid (Lst.q L7_X1.out hqr)
  clear L7_X1
  have L8_X2 := Lib.hid (Lst.q L7_X2.out hqr)
  clear L7_X2
  have B8_i0 := Lib.hid ((Q.block hqr (lt_of_block B7_i0.out)).trans B7_i0.out)
  clear B7_i0
  have B8_i1 := Lib.hid ((Q.block hqr (lt_of_block B7_i1.out)).trans B7_i1.out)
  clear B7_i1
  have B8_i2 := Lib.hid ((Q.block hqr (lt_of_block B7_i2.out)).trans B7_i2.out)
  clear B7_i2
  have B8_x := Lib.hid ((Q.block hqr (lt_of_block B7_x.out)).trans B7_x.out)
  clear B7_x
  have B8_y := Lib.hid ((Q.block hqr (lt_of_block B7_y.out)).trans B7_y.out)
  clear B7_y
  have B8_z := Lib.hid ((Q.block hqr (lt_of_block B7_z.out)).trans B7_z.out)
  clear B7_z
  have Q8 := Lib.hid (Q.trans Q7.out hqr)
  clear Q7
  clear hqr
  obtain ⟨⟨hnb, hnb2⟩, ⟨hmb, hmb2⟩, _⟩ := HB.out
  rcases hcase with hc | ⟨hc, hc2⟩ | ⟨hc, hc2, hc3⟩
  · have hd1 : decide ((0 : Int) < n) = true := by simp; omega
    obtain ⟨k_i00, k_i01, k_i02, _, _, _⟩ := Er.block_cells B8_i0.out
    obtain ⟨k_i10, k_i11, k_i12, _, _, _⟩ := Er.block_cells B8_i1.out
    obtain ⟨k_i20, k_i21, k_i22, _, _, _⟩ := Er.block_cells B8_i2.out
    obtain ⟨k_x0, k_x1, k_x2, _, _, _⟩ := Er.block_cells B8_x.out
    obtain ⟨k_y0, k_y1, k_y2, _, _, _⟩ := Er.block_cells B8_y.out
    obtain ⟨k_z0, k_z1, k_z2, _, _, _⟩ := Er.block_cells B8_z.out
    go_wp2_with fail
    have SQr := Lib.hid (fun u u' (k : Ep.SB3 (y1) (z1.heap.size) g0 (.slice a1 p0 c1) (t0) (z3.heap.size) g1 (.slice a2 p1 c2) (t1) (z5.heap.size) g2 (.slice a3 p2 c3) (t2) u) (q : Q u u') => (Ep.SB3.of B8_x.out B8_y.out B8_z.out (k.here.trans q) : Ep.SB3 (y1) (z1.heap.size) g0 (.slice a1 p0 c1) (t0) (z3.heap.size) g1 (.slice a2 p1 c2) (t1) (z5.heap.size) g2 (.slice a3 p2 c3) (t2) u'))
    have Kofr := Lib.hid (fun u g a n c s (k : Ep.SB3 (y1) (z1.heap.size) g0 (.slice a1 p0 c1) (t0) (z3.heap.size) g1 (.slice a2 p1 c2) (t1) (z5.heap.size) g2 (.slice a3 p2 c3) (t2) u) => (by
      refine (Ep.of_sh u g a n c s).mono ?_
      rintro e w' ⟨rfl, hq⟩
      exact ⟨rfl, SQr.out _ _ k hq, fun v zs hl => hl.q hq⟩ : Calls Try.prog 22 #[.agg #[.bool g, .slice a n c, .int .i64 s]] u fun e w' => e = .returned (.agg #[.bool g, .slice a n c, .int .i64 s]) ∧ Ep.SB3 (y1) (z1.heap.size) g0 (.slice a1 p0 c1) (t0) (z3.heap.size) g1 (.slice a2 p1 c2) (t1) (z5.heap.size) g2 (.slice a3 p2 c3) (t2) w' ∧ ∀ v zs, Lst u v zs → Lst w' v zs))
    have KRr := Lib.hid (fun u  (k : Ep.SB3 (y1) (z1.heap.size) g0 (.slice a1 p0 c1) (t0) (z3.heap.size) g1 (.slice a2 p1 c2) (t1) (z5.heap.size) g2 (.slice a3 p2 c3) (t2) u) => (by
      refine (RXY.out u a1 c1 a2 c2 (L8_X0.out.q k.here) (L8_X1.out.q k.here)).mono ?_
      rintro e w' ⟨rfl, hq⟩
      exact ⟨rfl, SQr.out _ _ k hq, fun v zs hl => hl.q hq⟩ : Calls Try.prog 25 #[.agg #[.bool g0, .slice a1 p0 c1, .int .i64 t0], .agg #[.bool g1, .slice a2 p1 c2, .int .i64 t1]] u fun e w' => e = .returned (.int .i64 n) ∧ Ep.SB3 (y1) (z1.heap.size) g0 (.slice a1 p0 c1) (t0) (z3.heap.size) g1 (.slice a2 p1 c2) (t1) (z5.heap.size) g2 (.slice a3 p2 c3) (t2) w' ∧ ∀ v zs, Lst u v zs → Lst w' v zs))
    have KYr := Lib.hid (fun u  (k : Ep.SB3 (y1) (z1.heap.size) g0 (.slice a1 p0 c1) (t0) (z3.heap.size) g1 (.slice a2 p1 c2) (t1) (z5.heap.size) g2 (.slice a3 p2 c3) (t2) u) => (by
      refine (CYX.out u a2 c2 a1 c1 (L8_X1.out.q k.here) (L8_X0.out.q k.here)).mono ?_
      rintro e w' ⟨rfl, hq⟩
      exact ⟨rfl, SQr.out _ _ k hq, fun v zs hl => hl.q hq⟩ : Calls Try.prog 30 #[.agg #[.bool g1, .slice a2 p1 c2, .int .i64 t1], .agg #[.bool g0, .slice a1 p0 c1, .int .i64 t0]] u fun e w' => e = .returned (.int .i64 nn) ∧ Ep.SB3 (y1) (z1.heap.size) g0 (.slice a1 p0 c1) (t0) (z3.heap.size) g1 (.slice a2 p1 c2) (t1) (z5.heap.size) g2 (.slice a3 p2 c3) (t2) w' ∧ ∀ v zs, Lst u v zs → Lst w' v zs))
    have KXr := Lib.hid (fun u  (k : Ep.SB3 (y1) (z1.heap.size) g0 (.slice a1 p0 c1) (t0) (z3.heap.size) g1 (.slice a2 p1 c2) (t1) (z5.heap.size) g2 (.slice a3 p2 c3) (t2) u) => (by
      refine (CXZ.out u a1 c1 a3 c3 (L8_X0.out.q k.here) (L8_X2.out.q k.here)).mono ?_
      rintro e w' ⟨rfl, hq⟩
      exact ⟨rfl, SQr.out _ _ k hq, fun v zs hl => hl.q hq⟩ : Calls Try.prog 30 #[.agg #[.bool g0, .slice a1 p0 c1, .int .i64 t0], .agg #[.bool g2, .slice a3 p2 c3, .int .i64 t2]] u fun e w' => e = .returned (.int .i64 kk) ∧ Ep.SB3 (y1) (z1.heap.size) g0 (.slice a1 p0 c1) (t0) (z3.heap.size) g1 (.slice a2 p1 c2) (t1) (z5.heap.size) g2 (.slice a3 p2 c3) (t2) w' ∧ ∀ v zs, Lst u v zs → Lst w' v zs))
    have KLr := Lib.hid (fun u  (k : Ep.SB3 (y1) (z1.heap.size) g0 (.slice a1 p0 c1) (t0) (z3.heap.size) g1 (.slice a2 p1 c2) (t1) (z5.heap.size) g2 (.slice a3 p2 c3) (t2) u) => (by
      refine (LV.out u).mono ?_
      rintro e w' ⟨rfl, hq⟩
      exact ⟨rfl, SQr.out _ _ k hq, fun v zs hl => hl.q hq⟩ : Calls Try.prog 13 #[] u fun e w' => e = .returned (.bool true) ∧ Ep.SB3 (y1) (z1.heap.size) g0 (.slice a1 p0 c1) (t0) (z3.heap.size) g1 (.slice a2 p1 c2) (t1) (z5.heap.size) g2 (.slice a3 p2 c3) (t2) w' ∧ ∀ v zs, Lst u v zs → Lst w' v zs))
    have hst := Ep.SB3.of B8_x.out B8_y.out B8_z.out ((Q.refl y1).drew)
    unfold Ep.SB3 at hst
    refine wp_region_held_drew (S := fun u => u.cell? ⟨z1.heap.size, 0, none⟩ = some (.bool g0) ∧ (u.cell? ⟨z1.heap.size, 1, none⟩ = some (.slice a1 p0 c1) ∧ (u.cell? ⟨z1.heap.size, 2, none⟩ = some (.int .i64 t0) ∧ (u.cell? ⟨z3.heap.size, 0, none⟩ = some (.bool g1) ∧ (u.cell? ⟨z3.heap.size, 1, none⟩ = some (.slice a2 p1 c2) ∧ (u.cell? ⟨z3.heap.size, 2, none⟩ = some (.int .i64 t1) ∧ (u.cell? ⟨z5.heap.size, 0, none⟩ = some (.bool g2) ∧ (u.cell? ⟨z5.heap.size, 1, none⟩ = some (.slice a3 p2 c3) ∧ (u.cell? ⟨z5.heap.size, 2, none⟩ = some (.int .i64 t2) ∧ (Q y1 u)))))))))) (by kernel_rfl) (by first | exact hst | (dsimp only; exact hst)) (fun hHeld => ?_)
    try dsimp only at hHeld
    refine wpAnyH_take (i := 0) (oi := { dst := some 28, op := Op.move (Operand.tmp 10), type := 3, pos := "law.go:66", after := #[], guard := none }) (v := ?vm00) rfl (by kernel_rfl) (by kernel_rfl) (by kernel_rfl) (fun _ _ _ h => h) (Or.inl ⟨by rfl, ?hym00⟩) (by assumption) ?rsm00
    case hym00 => (intro w hSw; (try dsimp only at hSw); go_simp; try with_reducible rfl)
    try simp only [Act.put, List.setIfInBounds_toArray, List.set_cons_zero, List.set_cons_succ]
    refine wpAnyH_take (i := 1) (oi := { dst := some 29, op := Op.load 24 (Operand.tmp 7), type := 24, pos := "law.go:66", after := #[], guard := none }) (v := ?vm01) rfl (by kernel_rfl) (by kernel_rfl) (by kernel_rfl) (fun _ _ _ h => h) (Or.inl ⟨by rfl, ?hym01⟩) (by assumption) ?rsm01
    case hym01 => (intro w hSw; (try dsimp only at hSw); go_simp; try with_reducible rfl)
    try simp only [Act.put, List.setIfInBounds_toArray, List.set_cons_zero, List.set_cons_succ]
    refine wpAnyH_take (i := 2) (oi := { dst := some 30, op := Op.load 24 (Operand.tmp 8), type := 24, pos := "law.go:66", after := #[], guard := none }) (v := ?vm02) rfl (by kernel_rfl) (by kernel_rfl) (by kernel_rfl) (fun _ _ _ h => h) (Or.inl ⟨by rfl, ?hym02⟩) (by assumption) ?rsm02
    case hym02 => (intro w hSw; (try dsimp only at hSw); go_simp; try with_reducible rfl)
    try simp only [Act.put, List.setIfInBounds_toArray, List.set_cons_zero, List.set_cons_succ]
    refine wpAnyH_ready (rs := [3]) (by kernel_rfl) (by simp) ?_
    refine AllReadyH.cons (o := { dst := some 31, op := Op.call { callee := Callee.value (Operand.func 25), args := #[Operand.tmp 29, Operand.tmp 30], argTypes := #[24, 24] }, type := 3, pos := "law.go:66", after := #[{ on := 1, ground := Ground.data }, { on := 2, ground := Ground.data }], guard := none }) rfl (fun K hK => ?_) AllReadyH.nil
    go_simp
    ((go_at_call 25); refine (KRr.out _  ?_).mono ?_; assumption; rintro e yr ⟨rfl, hS, hcar⟩; unfold Ep.SB3 at hS; skip)
    try (go_wp2_with fail)
    refine hK.out _ _ ?_ (fun hHeld2 => ?_)
    · (try dsimp only); first | exact hst | assumption
    clear hK K hHeld
    have hHeld := hHeld2
    clear hHeld2
    try dsimp only at hHeld
    try simp only [Act.put, List.setIfInBounds_toArray, List.set_cons_zero, List.set_cons_succ]
    refine wpAnyH_take (i := 4) (oi := { dst := some 32, op := Op.binOp BinOp.eql 3 (Operand.tmp 28) (Operand.tmp 31) 3, type := 4, pos := "law.go:66", after := #[{ on := 0, ground := Ground.data }, { on := 3, ground := Ground.data }], guard := none }) (v := ?vm04) rfl (by kernel_rfl) (by kernel_rfl) (by kernel_rfl) (fun _ _ _ h => h) (Or.inl ⟨by rfl, ?hym04⟩) (by assumption) ?rsm04
    case hym04 => (intro w hSw; (try dsimp only at hSw); go_simp; try with_reducible rfl)
    try simp only [Act.put, List.setIfInBounds_toArray, List.set_cons_zero, List.set_cons_succ]
    refine wpAnyH_take (i := 5) (oi := { dst := some 33, op := Op.move (Operand.tmp 32), type := 4, pos := "law.go:66", after := #[{ on := 4, ground := Ground.data }, { on := 3, ground := Ground.chain }], guard := none }) (v := ?vm05) rfl (by kernel_rfl) (by kernel_rfl) (by kernel_rfl) (fun _ _ _ h => h) (Or.inl ⟨by rfl, ?hym05⟩) (by assumption) ?rsm05
    case hym05 => (intro w hSw; (try dsimp only at hSw); go_simp; try with_reducible rfl)
    try simp only [Act.put, List.setIfInBounds_toArray, List.set_cons_zero, List.set_cons_succ]
    refine wpAnyH_take (i := 6) (oi := { dst := some 34, op := Op.load 24 (Operand.tmp 8), type := 24, pos := "law.go:66", after := #[{ on := 5, ground := Ground.guard }], guard := some (5, true) }) (v := ?vm06) rfl (by kernel_rfl) (by kernel_rfl) (by kernel_rfl) (fun _ _ _ h => h) (Or.inl ⟨by rfl, ?hym06⟩) (by assumption) ?rsm06
    case hym06 => (intro w hSw; (try dsimp only at hSw); go_simp; try with_reducible rfl)
    try simp only [Act.put, List.setIfInBounds_toArray, List.set_cons_zero, List.set_cons_succ]
    refine wpAnyH_take (i := 8) (oi := { dst := some 36, op := Op.load 24 (Operand.tmp 7), type := 24, pos := "law.go:66", after := #[{ on := 5, ground := Ground.guard }], guard := some (5, true) }) (v := ?vm08) rfl (by kernel_rfl) (by kernel_rfl) (by kernel_rfl) (fun _ _ _ h => h) (Or.inl ⟨by rfl, ?hym08⟩) (by assumption) ?rsm08
    case hym08 => (intro w hSw; (try dsimp only at hSw); go_simp; try with_reducible rfl)
    try simp only [Act.put, List.setIfInBounds_toArray, List.set_cons_zero, List.set_cons_succ]
    refine wpAnyH_take (i := 11) (oi := { dst := some 39, op := Op.move (Operand.tmp 10), type := 3, pos := "law.go:66", after := #[{ on := 5, ground := Ground.guard }], guard := some (5, true) }) (v := ?vm011) rfl (by kernel_rfl) (by kernel_rfl) (by kernel_rfl) (fun _ _ _ h => h) (Or.inl ⟨by rfl, ?hym011⟩) (by assumption) ?rsm011
    case hym011 => (intro w hSw; (try dsimp only at hSw); go_simp; try with_reducible rfl)
    try simp only [Act.put, List.setIfInBounds_toArray, List.set_cons_zero, List.set_cons_succ]
    refine wpAnyH_take (i := 12) (oi := { dst := some 40, op := Op.unOp UnOp.neg 3 (Operand.tmp 39), type := 3, pos := "law.go:66", after := #[{ on := 11, ground := Ground.data }, { on := 5, ground := Ground.guard }], guard := some (5, true) }) (v := ?vm012) rfl (by kernel_rfl) (by kernel_rfl) (by kernel_rfl) (fun _ _ _ h => h) (Or.inl ⟨by rfl, ?hym012⟩) (by assumption) ?rsm012
    case hym012 => (intro w hSw; (try dsimp only at hSw); go_simp; try with_reducible rfl)
    try simp only [Act.put, List.setIfInBounds_toArray, List.set_cons_zero, List.set_cons_succ]
    refine wpAnyH_ready (rs := [7]) (by kernel_rfl) (by simp) ?_
    refine AllReadyH.cons (o := { dst := some 35, op := Op.call { callee := Callee.value (Operand.func 22), args := #[Operand.tmp 34], argTypes := #[24] }, type := 32, pos := "law.go:66", after := #[{ on := 6, ground := Ground.data }, { on := 5, ground := Ground.chain }, { on := 5, ground := Ground.guard }], guard := some (5, true) }) rfl (fun K hK => ?_) AllReadyH.nil
    go_simp
    ((go_at_call 22); refine (Kofr.out _ _ _ _ _ _ ?_).mono ?_; assumption; rintro e yr ⟨rfl, hS, hcar⟩; unfold Ep.SB3 at hS; skip)
    try (go_wp2_with fail)
    refine hK.out _ _ ?_ (fun hHeld2 => ?_)
    · (try dsimp only); first | exact hst | assumption
    clear hK K hHeld
    have hHeld := hHeld2
    clear hHeld2
    try dsimp only at hHeld
    try simp only [Act.put, List.setIfInBounds_toArray, List.set_cons_zero, List.set_cons_succ]
    refine wpAnyH_ready (rs := [9]) (by kernel_rfl) (by simp) ?_
    refine AllReadyH.cons (o := { dst := some 37, op := Op.call { callee := Callee.value (Operand.func 22), args := #[Operand.tmp 36], argTypes := #[24] }, type := 32, pos := "law.go:66", after := #[{ on := 8, ground := Ground.data }, { on := 7, ground := Ground.chain }, { on := 5, ground := Ground.guard }], guard := some (5, true) }) rfl (fun K hK => ?_) AllReadyH.nil
    go_simp
    ((go_at_call 22); refine (Kofr.out _ _ _ _ _ _ ?_).mono ?_; assumption; rintro e yr ⟨rfl, hS, hcar⟩; unfold Ep.SB3 at hS; skip)
    try (go_wp2_with fail)
    refine hK.out _ _ ?_ (fun hHeld2 => ?_)
    · (try dsimp only); first | exact hst | assumption
    clear hK K hHeld
    have hHeld := hHeld2
    clear hHeld2
    try dsimp only at hHeld
    try simp only [Act.put, List.setIfInBounds_toArray, List.set_cons_zero, List.set_cons_succ]
    refine wpAnyH_ready (rs := [10]) (by kernel_rfl) (by simp) ?_
    refine AllReadyH.cons (o := { dst := some 38, op := Op.call { callee := Callee.value (Operand.func 30), args := #[Operand.tmp 35, Operand.tmp 37], argTypes := #[32, 32] }, type := 3, pos := "law.go:66", after := #[{ on := 7, ground := Ground.data }, { on := 9, ground := Ground.data }, { on := 9, ground := Ground.chain }, { on := 5, ground := Ground.guard }], guard := some (5, true) }) rfl (fun K hK => ?_) AllReadyH.nil
    go_simp
    ((go_at_call_of 30 (Value.slice a2 p1 c2)); refine (KYr.out _  ?_).mono ?_; assumption; rintro e yr ⟨rfl, hS, hcar⟩; unfold Ep.SB3 at hS; skip)
    try (go_wp2_with fail)
    refine hK.out _ _ ?_ (fun hHeld2 => ?_)
    · (try dsimp only); first | exact hst | assumption
    clear hK K hHeld
    have hHeld := hHeld2
    clear hHeld2
    try dsimp only at hHeld
    try simp only [Act.put, List.setIfInBounds_toArray, List.set_cons_zero, List.set_cons_succ]
    refine wpAnyH_take (i := 13) (oi := { dst := some 41, op := Op.binOp BinOp.eql 3 (Operand.tmp 38) (Operand.tmp 40) 3, type := 4, pos := "law.go:66", after := #[{ on := 10, ground := Ground.data }, { on := 12, ground := Ground.data }, { on := 5, ground := Ground.guard }], guard := some (5, true) }) (v := ?vm013) rfl (by kernel_rfl) (by kernel_rfl) (by kernel_rfl) (fun _ _ _ h => h) (Or.inl ⟨by rfl, ?hym013⟩) (by assumption) ?rsm013
    case hym013 => (intro w hSw; (try dsimp only at hSw); go_simp; try with_reducible rfl)
    try simp only [Act.put, List.setIfInBounds_toArray, List.set_cons_zero, List.set_cons_succ]
    refine wpAnyH_take (i := 14) (oi := { dst := some 42, op := Op.pick (Operand.tmp 33) (Operand.tmp 41) (Operand.const (Value.bool false)), type := 4, pos := "law.go:66", after := #[{ on := 5, ground := Ground.data }, { on := 13, ground := Ground.data }], guard := none }) (v := ?vm014) rfl (by kernel_rfl) (by kernel_rfl) (by kernel_rfl) (fun _ _ _ h => h) (Or.inl ⟨by rfl, ?hym014⟩) (by assumption) ?rsm014
    case hym014 => (intro w hSw; (try dsimp only at hSw); go_simp; try with_reducible rfl)
    try simp only [Act.put, List.setIfInBounds_toArray, List.set_cons_zero, List.set_cons_succ]
    refine wpAnyH_take (i := 15) (oi := { dst := some 43, op := Op.move (Operand.tmp 42), type := 4, pos := "law.go:66", after := #[{ on := 14, ground := Ground.data }, { on := 10, ground := Ground.chain }], guard := none }) (v := ?vm015) rfl (by kernel_rfl) (by kernel_rfl) (by kernel_rfl) (fun _ _ _ h => h) (Or.inl ⟨by rfl, ?hym015⟩) (by assumption) ?rsm015
    case hym015 => (intro w hSw; (try dsimp only at hSw); go_simp; try with_reducible rfl)
    try simp only [Act.put, List.setIfInBounds_toArray, List.set_cons_zero, List.set_cons_succ]
    refine wpAnyH_take (i := 16) (oi := { dst := some 44, op := Op.move (Operand.tmp 10), type := 3, pos := "law.go:66", after := #[{ on := 15, ground := Ground.guard }], guard := some (15, true) }) (v := ?vm016) rfl (by kernel_rfl) (by kernel_rfl) (by kernel_rfl) (fun _ _ _ h => h) (Or.inl ⟨by rfl, ?hym016⟩) (by assumption) ?rsm016
    case hym016 => (intro w hSw; (try dsimp only at hSw); go_simp; try with_reducible rfl)
    try simp only [Act.put, List.setIfInBounds_toArray, List.set_cons_zero, List.set_cons_succ]
    refine wpAnyH_take (i := 17) (oi := { dst := some 45, op := Op.binOp BinOp.gtr 3 (Operand.tmp 44) (Operand.const (Value.int IntKind.i64 0)) 3, type := 4, pos := "law.go:66", after := #[{ on := 16, ground := Ground.data }, { on := 15, ground := Ground.guard }], guard := some (15, true) }) (v := ?vm017) rfl (by kernel_rfl) (by kernel_rfl) (by kernel_rfl) (fun _ _ _ h => h) (Or.inl ⟨by rfl, ?hym017⟩) (by assumption) ?rsm017
    case hym017 => (intro w hSw; (try dsimp only at hSw); go_simp; try with_reducible rfl)
    try simp only [Act.put, List.setIfInBounds_toArray, List.set_cons_zero, List.set_cons_succ]
    refine wpAnyH_take (i := 18) (oi := { dst := some 46, op := Op.move (Operand.tmp 45), type := 4, pos := "law.go:66", after := #[{ on := 17, ground := Ground.data }, { on := 15, ground := Ground.chain }, { on := 15, ground := Ground.guard }], guard := some (15, true) }) (v := ?vm018) rfl (by kernel_rfl) (by kernel_rfl) (by kernel_rfl) (fun _ _ _ h => h) (Or.inl ⟨by rfl, ?hym018⟩) (by assumption) ?rsm018
    case hym018 => (intro w hSw; (try dsimp only at hSw); go_simp; try with_reducible rfl)
    try simp only [Act.put, List.setIfInBounds_toArray, List.set_cons_zero, List.set_cons_succ]
    refine wpAnyH_take (i := 19) (oi := { dst := some 47, op := Op.move (Operand.tmp 11), type := 3, pos := "law.go:66", after := #[{ on := 18, ground := Ground.guard }], guard := some (18, false) }) (v := undef) rfl (by kernel_rfl) (by kernel_rfl) (by kernel_rfl) (fun _ _ _ h => h) (Or.inr ⟨by rfl, rfl⟩) (by assumption) ?_
    try simp only [Act.put, List.setIfInBounds_toArray, List.set_cons_zero, List.set_cons_succ]
    refine wpAnyH_take (i := 20) (oi := { dst := some 48, op := Op.binOp BinOp.gtr 3 (Operand.tmp 47) (Operand.const (Value.int IntKind.i64 0)) 3, type := 4, pos := "law.go:66", after := #[{ on := 19, ground := Ground.data }, { on := 18, ground := Ground.guard }], guard := some (18, false) }) (v := undef) rfl (by kernel_rfl) (by kernel_rfl) (by kernel_rfl) (fun _ _ _ h => h) (Or.inr ⟨by rfl, rfl⟩) (by assumption) ?_
    try simp only [Act.put, List.setIfInBounds_toArray, List.set_cons_zero, List.set_cons_succ]
    refine wpAnyH_take (i := 21) (oi := { dst := some 49, op := Op.pick (Operand.tmp 46) (Operand.const (Value.bool true)) (Operand.tmp 48), type := 4, pos := "law.go:66", after := #[{ on := 18, ground := Ground.data }, { on := 20, ground := Ground.data }, { on := 15, ground := Ground.guard }], guard := some (15, true) }) (v := ?vm021) rfl (by kernel_rfl) (by kernel_rfl) (by kernel_rfl) (fun _ _ _ h => h) (Or.inl ⟨by rfl, ?hym021⟩) (by assumption) ?rsm021
    case hym021 => (intro w hSw; (try dsimp only at hSw); go_simp; try with_reducible rfl)
    try simp only [Act.put, List.setIfInBounds_toArray, List.set_cons_zero, List.set_cons_succ]
    refine wpAnyH_take (i := 22) (oi := { dst := some 50, op := Op.move (Operand.tmp 49), type := 4, pos := "law.go:66", after := #[{ on := 21, ground := Ground.data }, { on := 18, ground := Ground.chain }, { on := 15, ground := Ground.guard }], guard := some (15, true) }) (v := ?vm022) rfl (by kernel_rfl) (by kernel_rfl) (by kernel_rfl) (fun _ _ _ h => h) (Or.inl ⟨by rfl, ?hym022⟩) (by assumption) ?rsm022
    case hym022 => (intro w hSw; (try dsimp only at hSw); go_simp; try with_reducible rfl)
    try simp only [Act.put, List.setIfInBounds_toArray, List.set_cons_zero, List.set_cons_succ]
    refine wpAnyH_take (i := 23) (oi := { dst := some 51, op := Op.load 24 (Operand.tmp 7), type := 24, pos := "law.go:66", after := #[{ on := 22, ground := Ground.guard }], guard := some (22, false) }) (v := undef) rfl (by kernel_rfl) (by kernel_rfl) (by kernel_rfl) (fun _ _ _ h => h) (Or.inr ⟨by rfl, rfl⟩) (by assumption) ?_
    try simp only [Act.put, List.setIfInBounds_toArray, List.set_cons_zero, List.set_cons_succ]
    refine wpAnyH_take (i := 25) (oi := { dst := some 53, op := Op.load 24 (Operand.tmp 9), type := 24, pos := "law.go:66", after := #[{ on := 22, ground := Ground.guard }], guard := some (22, false) }) (v := undef) rfl (by kernel_rfl) (by kernel_rfl) (by kernel_rfl) (fun _ _ _ h => h) (Or.inr ⟨by rfl, rfl⟩) (by assumption) ?_
    try simp only [Act.put, List.setIfInBounds_toArray, List.set_cons_zero, List.set_cons_succ]
    refine wpAnyH_ready (rs := [24]) (by kernel_rfl) (by simp) ?_
    refine AllReadyH.cons (o := { dst := some 52, op := Op.call { callee := Callee.value (Operand.func 22), args := #[Operand.tmp 51], argTypes := #[24] }, type := 32, pos := "law.go:66", after := #[{ on := 23, ground := Ground.data }, { on := 22, ground := Ground.chain }, { on := 22, ground := Ground.guard }], guard := some (22, false) }) rfl (fun K hK => ?_) AllReadyH.nil
    go_simp
    refine hK.out _ _ ?_ (fun hHeld2 => ?_)
    · (try dsimp only); first | exact hst | assumption
    clear hK K hHeld
    have hHeld := hHeld2
    clear hHeld2
    try dsimp only at hHeld
    try simp only [Act.put, List.setIfInBounds_toArray, List.set_cons_zero, List.set_cons_succ]
    refine wpAnyH_ready (rs := [26]) (by kernel_rfl) (by simp) ?_
    refine AllReadyH.cons (o := { dst := some 54, op := Op.call { callee := Callee.value (Operand.func 22), args := #[Operand.tmp 53], argTypes := #[24] }, type := 32, pos := "law.go:66", after := #[{ on := 25, ground := Ground.data }, { on := 24, ground := Ground.chain }, { on := 22, ground := Ground.guard }], guard := some (22, false) }) rfl (fun K hK => ?_) AllReadyH.nil
    go_simp
    refine hK.out _ _ ?_ (fun hHeld2 => ?_)
    · (try dsimp only); first | exact hst | assumption
    clear hK K hHeld
    have hHeld := hHeld2
    clear hHeld2
    try dsimp only at hHeld
    try simp only [Act.put, List.setIfInBounds_toArray, List.set_cons_zero, List.set_cons_succ]
    refine wpAnyH_ready (rs := [27]) (by kernel_rfl) (by simp) ?_
    refine AllReadyH.cons (o := { dst := some 55, op := Op.call { callee := Callee.value (Operand.func 30), args := #[Operand.tmp 52, Operand.tmp 54], argTypes := #[32, 32] }, type := 3, pos := "law.go:66", after := #[{ on := 24, ground := Ground.data }, { on := 26, ground := Ground.data }, { on := 26, ground := Ground.chain }, { on := 22, ground := Ground.guard }], guard := some (22, false) }) rfl (fun K hK => ?_) AllReadyH.nil
    go_simp
    refine hK.out _ _ ?_ (fun hHeld2 => ?_)
    · (try dsimp only); first | exact hst | assumption
    clear hK K hHeld
    have hHeld := hHeld2
    clear hHeld2
    try dsimp only at hHeld
    try simp only [Act.put, List.setIfInBounds_toArray, List.set_cons_zero, List.set_cons_succ]
    refine wpAnyH_take (i := 28) (oi := { dst := some 56, op := Op.binOp BinOp.leq 3 (Operand.tmp 55) (Operand.const (Value.int IntKind.i64 0)) 3, type := 4, pos := "law.go:66", after := #[{ on := 27, ground := Ground.data }, { on := 22, ground := Ground.guard }], guard := some (22, false) }) (v := undef) rfl (by kernel_rfl) (by kernel_rfl) (by kernel_rfl) (fun _ _ _ h => h) (Or.inr ⟨by rfl, rfl⟩) (by assumption) ?_
    try simp only [Act.put, List.setIfInBounds_toArray, List.set_cons_zero, List.set_cons_succ]
    refine wpAnyH_take (i := 29) (oi := { dst := some 57, op := Op.pick (Operand.tmp 50) (Operand.const (Value.bool true)) (Operand.tmp 56), type := 4, pos := "law.go:66", after := #[{ on := 22, ground := Ground.data }, { on := 28, ground := Ground.data }, { on := 15, ground := Ground.guard }], guard := some (15, true) }) (v := ?vm029) rfl (by kernel_rfl) (by kernel_rfl) (by kernel_rfl) (fun _ _ _ h => h) (Or.inl ⟨by rfl, ?hym029⟩) (by assumption) ?rsm029
    case hym029 => (intro w hSw; (try dsimp only at hSw); go_simp; try with_reducible rfl)
    try simp only [Act.put, List.setIfInBounds_toArray, List.set_cons_zero, List.set_cons_succ]
    refine wpAnyH_take (i := 30) (oi := { dst := some 58, op := Op.pick (Operand.tmp 43) (Operand.tmp 57) (Operand.const (Value.bool false)), type := 4, pos := "law.go:66", after := #[{ on := 15, ground := Ground.data }, { on := 29, ground := Ground.data }], guard := none }) (v := ?vm030) rfl (by kernel_rfl) (by kernel_rfl) (by kernel_rfl) (fun _ _ _ h => h) (Or.inl ⟨by rfl, ?hym030⟩) (by assumption) ?rsm030
    case hym030 => (intro w hSw; (try dsimp only at hSw); go_simp; try with_reducible rfl)
    try simp only [Act.put, List.setIfInBounds_toArray, List.set_cons_zero, List.set_cons_succ]
    refine wpAnyH_take (i := 31) (oi := { dst := some 59, op := Op.move (Operand.tmp 58), type := 4, pos := "law.go:66", after := #[{ on := 30, ground := Ground.data }, { on := 27, ground := Ground.chain }], guard := none }) (v := ?vm031) rfl (by kernel_rfl) (by kernel_rfl) (by kernel_rfl) (fun _ _ _ h => h) (Or.inl ⟨by rfl, ?hym031⟩) (by assumption) ?rsm031
    case hym031 => (intro w hSw; (try dsimp only at hSw); go_simp; try with_reducible rfl)
    try simp only [Act.put, List.setIfInBounds_toArray, List.set_cons_zero, List.set_cons_succ]
    refine wpAnyH_ready (rs := [32]) (by kernel_rfl) (by simp) ?_
    refine AllReadyH.cons (o := { dst := some 60, op := Op.call { callee := Callee.value (Operand.func 13), args := #[], argTypes := #[] }, type := 4, pos := "law.go:66", after := #[{ on := 31, ground := Ground.chain }, { on := 31, ground := Ground.guard }], guard := some (31, true) }) rfl (fun K hK => ?_) AllReadyH.nil
    go_simp
    ((go_at_call 13); refine (KLr.out _  ?_).mono ?_; assumption; rintro e yr ⟨rfl, hS, hcar⟩; unfold Ep.SB3 at hS; skip)
    try (go_wp2_with fail)
    refine hK.out _ _ ?_ (fun hHeld2 => ?_)
    · (try dsimp only); first | exact hst | assumption
    clear hK K hHeld
    have hHeld := hHeld2
    clear hHeld2
    try dsimp only at hHeld
    try simp only [Act.put, List.setIfInBounds_toArray, List.set_cons_zero, List.set_cons_succ]
    refine wpAnyH_take (i := 33) (oi := { dst := some 61, op := Op.pick (Operand.tmp 59) (Operand.tmp 60) (Operand.const (Value.bool false)), type := 4, pos := "law.go:66", after := #[{ on := 31, ground := Ground.data }, { on := 32, ground := Ground.data }], guard := none }) (v := ?vm033) rfl (by kernel_rfl) (by kernel_rfl) (by kernel_rfl) (fun _ _ _ h => h) (Or.inl ⟨by rfl, ?hym033⟩) (by assumption) ?rsm033
    case hym033 => (intro w hSw; (try dsimp only at hSw); go_simp; try with_reducible rfl)
    try simp only [Act.put, List.setIfInBounds_toArray, List.set_cons_zero, List.set_cons_succ]
    refine wpAnyH_take (i := 34) (oi := { dst := some 6, op := Op.assign (Operand.tmp 61), type := 4, pos := "law.go:66", after := #[{ on := 33, ground := Ground.data }, { on := 32, ground := Ground.chain }, { on := 0, ground := Ground.phase }, { on := 1, ground := Ground.phase }, { on := 2, ground := Ground.phase }, { on := 3, ground := Ground.phase }, { on := 4, ground := Ground.phase }, { on := 5, ground := Ground.phase }, { on := 6, ground := Ground.phase }, { on := 7, ground := Ground.phase }, { on := 8, ground := Ground.phase }, { on := 9, ground := Ground.phase }, { on := 10, ground := Ground.phase }, { on := 11, ground := Ground.phase }, { on := 12, ground := Ground.phase }, { on := 13, ground := Ground.phase }, { on := 14, ground := Ground.phase }, { on := 15, ground := Ground.phase }, { on := 16, ground := Ground.phase }, { on := 17, ground := Ground.phase }, { on := 18, ground := Ground.phase }, { on := 19, ground := Ground.phase }, { on := 20, ground := Ground.phase }, { on := 21, ground := Ground.phase }, { on := 22, ground := Ground.phase }, { on := 23, ground := Ground.phase }, { on := 24, ground := Ground.phase }, { on := 25, ground := Ground.phase }, { on := 26, ground := Ground.phase }, { on := 27, ground := Ground.phase }, { on := 28, ground := Ground.phase }, { on := 29, ground := Ground.phase }, { on := 30, ground := Ground.phase }, { on := 31, ground := Ground.phase }, { on := 32, ground := Ground.phase }, { on := 33, ground := Ground.phase }], guard := none }) (v := ?vm034) rfl (by kernel_rfl) (by kernel_rfl) (by kernel_rfl) (fun _ _ _ h => h) (Or.inl ⟨by rfl, ?hym034⟩) (by assumption) ?rsm034
    case hym034 => (intro w hSw; (try dsimp only at hSw); go_simp; try with_reducible rfl)
    try simp only [Act.put, List.setIfInBounds_toArray, List.set_cons_zero, List.set_cons_succ]
    refine wpAnyH_done (by kernel_rfl) ?_ _
    have hqr : Q y1 _ := (show Ep.SB3 (y1) (z1.heap.size) g0 (.slice a1 p0 c1) (t0) (z3.heap.size) g1 (.slice a2 p1 c2) (t1) (z5.heap.size) g2 (.slice a3 p2 c3) (t2) _ from hHeld).here
    clear k_i00 k_i01 k_i02 k_i10 k_i11 k_i12 k_i20 k_i21 k_i22 k_x0 k_x1 k_x2 k_y0 k_y1 k_y2 k_z0 k_z1 k_z2
    clear hHeld hS hcar hst
    have HQE := Lib.hid (Q8.out.trans hqr)
    clear hqr
    go_wp2_with fail
    go_ret
    exact ⟨rfl, HQE.out⟩
  · have hd1 : decide ((0 : Int) < n) = false := by simp; omega
    have hd2 : decide ((0 : Int) < m) = true := by simp; omega
    obtain ⟨k_i00, k_i01, k_i02, _, _, _⟩ := Er.block_cells B8_i0.out
    obtain ⟨k_i10, k_i11, k_i12, _, _, _⟩ := Er.block_cells B8_i1.out
    obtain ⟨k_i20, k_i21, k_i22, _, _, _⟩ := Er.block_cells B8_i2.out
    obtain ⟨k_x0, k_x1, k_x2, _, _, _⟩ := Er.block_cells B8_x.out
    obtain ⟨k_y0, k_y1, k_y2, _, _, _⟩ := Er.block_cells B8_y.out
    obtain ⟨k_z0, k_z1, k_z2, _, _, _⟩ := Er.block_cells B8_z.out
    go_wp2_with fail
    have SQr := Lib.hid (fun u u' (k : Ep.SB3 (y1) (z1.heap.size) g0 (.slice a1 p0 c1) (t0) (z3.heap.size) g1 (.slice a2 p1 c2) (t1) (z5.heap.size) g2 (.slice a3 p2 c3) (t2) u) (q : Q u u') => (Ep.SB3.of B8_x.out B8_y.out B8_z.out (k.here.trans q) : Ep.SB3 (y1) (z1.heap.size) g0 (.slice a1 p0 c1) (t0) (z3.heap.size) g1 (.slice a2 p1 c2) (t1) (z5.heap.size) g2 (.slice a3 p2 c3) (t2) u'))
    have Kofr := Lib.hid (fun u g a n c s (k : Ep.SB3 (y1) (z1.heap.size) g0 (.slice a1 p0 c1) (t0) (z3.heap.size) g1 (.slice a2 p1 c2) (t1) (z5.heap.size) g2 (.slice a3 p2 c3) (t2) u) => (by
      refine (Ep.of_sh u g a n c s).mono ?_
      rintro e w' ⟨rfl, hq⟩
      exact ⟨rfl, SQr.out _ _ k hq, fun v zs hl => hl.q hq⟩ : Calls Try.prog 22 #[.agg #[.bool g, .slice a n c, .int .i64 s]] u fun e w' => e = .returned (.agg #[.bool g, .slice a n c, .int .i64 s]) ∧ Ep.SB3 (y1) (z1.heap.size) g0 (.slice a1 p0 c1) (t0) (z3.heap.size) g1 (.slice a2 p1 c2) (t1) (z5.heap.size) g2 (.slice a3 p2 c3) (t2) w' ∧ ∀ v zs, Lst u v zs → Lst w' v zs))
    have KRr := Lib.hid (fun u  (k : Ep.SB3 (y1) (z1.heap.size) g0 (.slice a1 p0 c1) (t0) (z3.heap.size) g1 (.slice a2 p1 c2) (t1) (z5.heap.size) g2 (.slice a3 p2 c3) (t2) u) => (by
      refine (RXY.out u a1 c1 a2 c2 (L8_X0.out.q k.here) (L8_X1.out.q k.here)).mono ?_
      rintro e w' ⟨rfl, hq⟩
      exact ⟨rfl, SQr.out _ _ k hq, fun v zs hl => hl.q hq⟩ : Calls Try.prog 25 #[.agg #[.bool g0, .slice a1 p0 c1, .int .i64 t0], .agg #[.bool g1, .slice a2 p1 c2, .int .i64 t1]] u fun e w' => e = .returned (.int .i64 n) ∧ Ep.SB3 (y1) (z1.heap.size) g0 (.slice a1 p0 c1) (t0) (z3.heap.size) g1 (.slice a2 p1 c2) (t1) (z5.heap.size) g2 (.slice a3 p2 c3) (t2) w' ∧ ∀ v zs, Lst u v zs → Lst w' v zs))
    have KYr := Lib.hid (fun u  (k : Ep.SB3 (y1) (z1.heap.size) g0 (.slice a1 p0 c1) (t0) (z3.heap.size) g1 (.slice a2 p1 c2) (t1) (z5.heap.size) g2 (.slice a3 p2 c3) (t2) u) => (by
      refine (CYX.out u a2 c2 a1 c1 (L8_X1.out.q k.here) (L8_X0.out.q k.here)).mono ?_
      rintro e w' ⟨rfl, hq⟩
      exact ⟨rfl, SQr.out _ _ k hq, fun v zs hl => hl.q hq⟩ : Calls Try.prog 30 #[.agg #[.bool g1, .slice a2 p1 c2, .int .i64 t1], .agg #[.bool g0, .slice a1 p0 c1, .int .i64 t0]] u fun e w' => e = .returned (.int .i64 nn) ∧ Ep.SB3 (y1) (z1.heap.size) g0 (.slice a1 p0 c1) (t0) (z3.heap.size) g1 (.slice a2 p1 c2) (t1) (z5.heap.size) g2 (.slice a3 p2 c3) (t2) w' ∧ ∀ v zs, Lst u v zs → Lst w' v zs))
    have KXr := Lib.hid (fun u  (k : Ep.SB3 (y1) (z1.heap.size) g0 (.slice a1 p0 c1) (t0) (z3.heap.size) g1 (.slice a2 p1 c2) (t1) (z5.heap.size) g2 (.slice a3 p2 c3) (t2) u) => (by
      refine (CXZ.out u a1 c1 a3 c3 (L8_X0.out.q k.here) (L8_X2.out.q k.here)).mono ?_
      rintro e w' ⟨rfl, hq⟩
      exact ⟨rfl, SQr.out _ _ k hq, fun v zs hl => hl.q hq⟩ : Calls Try.prog 30 #[.agg #[.bool g0, .slice a1 p0 c1, .int .i64 t0], .agg #[.bool g2, .slice a3 p2 c3, .int .i64 t2]] u fun e w' => e = .returned (.int .i64 kk) ∧ Ep.SB3 (y1) (z1.heap.size) g0 (.slice a1 p0 c1) (t0) (z3.heap.size) g1 (.slice a2 p1 c2) (t1) (z5.heap.size) g2 (.slice a3 p2 c3) (t2) w' ∧ ∀ v zs, Lst u v zs → Lst w' v zs))
    have KLr := Lib.hid (fun u  (k : Ep.SB3 (y1) (z1.heap.size) g0 (.slice a1 p0 c1) (t0) (z3.heap.size) g1 (.slice a2 p1 c2) (t1) (z5.heap.size) g2 (.slice a3 p2 c3) (t2) u) => (by
      refine (LV.out u).mono ?_
      rintro e w' ⟨rfl, hq⟩
      exact ⟨rfl, SQr.out _ _ k hq, fun v zs hl => hl.q hq⟩ : Calls Try.prog 13 #[] u fun e w' => e = .returned (.bool true) ∧ Ep.SB3 (y1) (z1.heap.size) g0 (.slice a1 p0 c1) (t0) (z3.heap.size) g1 (.slice a2 p1 c2) (t1) (z5.heap.size) g2 (.slice a3 p2 c3) (t2) w' ∧ ∀ v zs, Lst u v zs → Lst w' v zs))
    have hst := Ep.SB3.of B8_x.out B8_y.out B8_z.out ((Q.refl y1).drew)
    unfold Ep.SB3 at hst
    refine wp_region_held_drew (S := fun u => u.cell? ⟨z1.heap.size, 0, none⟩ = some (.bool g0) ∧ (u.cell? ⟨z1.heap.size, 1, none⟩ = some (.slice a1 p0 c1) ∧ (u.cell? ⟨z1.heap.size, 2, none⟩ = some (.int .i64 t0) ∧ (u.cell? ⟨z3.heap.size, 0, none⟩ = some (.bool g1) ∧ (u.cell? ⟨z3.heap.size, 1, none⟩ = some (.slice a2 p1 c2) ∧ (u.cell? ⟨z3.heap.size, 2, none⟩ = some (.int .i64 t1) ∧ (u.cell? ⟨z5.heap.size, 0, none⟩ = some (.bool g2) ∧ (u.cell? ⟨z5.heap.size, 1, none⟩ = some (.slice a3 p2 c3) ∧ (u.cell? ⟨z5.heap.size, 2, none⟩ = some (.int .i64 t2) ∧ (Q y1 u)))))))))) (by kernel_rfl) (by first | exact hst | (dsimp only; exact hst)) (fun hHeld => ?_)
    try dsimp only at hHeld
    refine wpAnyH_take (i := 0) (oi := { dst := some 28, op := Op.move (Operand.tmp 10), type := 3, pos := "law.go:66", after := #[], guard := none }) (v := ?vm10) rfl (by kernel_rfl) (by kernel_rfl) (by kernel_rfl) (fun _ _ _ h => h) (Or.inl ⟨by rfl, ?hym10⟩) (by assumption) ?rsm10
    case hym10 => (intro w hSw; (try dsimp only at hSw); go_simp; try with_reducible rfl)
    try simp only [Act.put, List.setIfInBounds_toArray, List.set_cons_zero, List.set_cons_succ]
    refine wpAnyH_take (i := 1) (oi := { dst := some 29, op := Op.load 24 (Operand.tmp 7), type := 24, pos := "law.go:66", after := #[], guard := none }) (v := ?vm11) rfl (by kernel_rfl) (by kernel_rfl) (by kernel_rfl) (fun _ _ _ h => h) (Or.inl ⟨by rfl, ?hym11⟩) (by assumption) ?rsm11
    case hym11 => (intro w hSw; (try dsimp only at hSw); go_simp; try with_reducible rfl)
    try simp only [Act.put, List.setIfInBounds_toArray, List.set_cons_zero, List.set_cons_succ]
    refine wpAnyH_take (i := 2) (oi := { dst := some 30, op := Op.load 24 (Operand.tmp 8), type := 24, pos := "law.go:66", after := #[], guard := none }) (v := ?vm12) rfl (by kernel_rfl) (by kernel_rfl) (by kernel_rfl) (fun _ _ _ h => h) (Or.inl ⟨by rfl, ?hym12⟩) (by assumption) ?rsm12
    case hym12 => (intro w hSw; (try dsimp only at hSw); go_simp; try with_reducible rfl)
    try simp only [Act.put, List.setIfInBounds_toArray, List.set_cons_zero, List.set_cons_succ]
    refine wpAnyH_ready (rs := [3]) (by kernel_rfl) (by simp) ?_
    refine AllReadyH.cons (o := { dst := some 31, op := Op.call { callee := Callee.value (Operand.func 25), args := #[Operand.tmp 29, Operand.tmp 30], argTypes := #[24, 24] }, type := 3, pos := "law.go:66", after := #[{ on := 1, ground := Ground.data }, { on := 2, ground := Ground.data }], guard := none }) rfl (fun K hK => ?_) AllReadyH.nil
    go_simp
    ((go_at_call 25); refine (KRr.out _  ?_).mono ?_; assumption; rintro e yr ⟨rfl, hS, hcar⟩; unfold Ep.SB3 at hS; skip)
    try (go_wp2_with fail)
    refine hK.out _ _ ?_ (fun hHeld2 => ?_)
    · (try dsimp only); first | exact hst | assumption
    clear hK K hHeld
    have hHeld := hHeld2
    clear hHeld2
    try dsimp only at hHeld
    try simp only [Act.put, List.setIfInBounds_toArray, List.set_cons_zero, List.set_cons_succ]
    refine wpAnyH_take (i := 4) (oi := { dst := some 32, op := Op.binOp BinOp.eql 3 (Operand.tmp 28) (Operand.tmp 31) 3, type := 4, pos := "law.go:66", after := #[{ on := 0, ground := Ground.data }, { on := 3, ground := Ground.data }], guard := none }) (v := ?vm14) rfl (by kernel_rfl) (by kernel_rfl) (by kernel_rfl) (fun _ _ _ h => h) (Or.inl ⟨by rfl, ?hym14⟩) (by assumption) ?rsm14
    case hym14 => (intro w hSw; (try dsimp only at hSw); go_simp; try with_reducible rfl)
    try simp only [Act.put, List.setIfInBounds_toArray, List.set_cons_zero, List.set_cons_succ]
    refine wpAnyH_take (i := 5) (oi := { dst := some 33, op := Op.move (Operand.tmp 32), type := 4, pos := "law.go:66", after := #[{ on := 4, ground := Ground.data }, { on := 3, ground := Ground.chain }], guard := none }) (v := ?vm15) rfl (by kernel_rfl) (by kernel_rfl) (by kernel_rfl) (fun _ _ _ h => h) (Or.inl ⟨by rfl, ?hym15⟩) (by assumption) ?rsm15
    case hym15 => (intro w hSw; (try dsimp only at hSw); go_simp; try with_reducible rfl)
    try simp only [Act.put, List.setIfInBounds_toArray, List.set_cons_zero, List.set_cons_succ]
    refine wpAnyH_take (i := 6) (oi := { dst := some 34, op := Op.load 24 (Operand.tmp 8), type := 24, pos := "law.go:66", after := #[{ on := 5, ground := Ground.guard }], guard := some (5, true) }) (v := ?vm16) rfl (by kernel_rfl) (by kernel_rfl) (by kernel_rfl) (fun _ _ _ h => h) (Or.inl ⟨by rfl, ?hym16⟩) (by assumption) ?rsm16
    case hym16 => (intro w hSw; (try dsimp only at hSw); go_simp; try with_reducible rfl)
    try simp only [Act.put, List.setIfInBounds_toArray, List.set_cons_zero, List.set_cons_succ]
    refine wpAnyH_take (i := 8) (oi := { dst := some 36, op := Op.load 24 (Operand.tmp 7), type := 24, pos := "law.go:66", after := #[{ on := 5, ground := Ground.guard }], guard := some (5, true) }) (v := ?vm18) rfl (by kernel_rfl) (by kernel_rfl) (by kernel_rfl) (fun _ _ _ h => h) (Or.inl ⟨by rfl, ?hym18⟩) (by assumption) ?rsm18
    case hym18 => (intro w hSw; (try dsimp only at hSw); go_simp; try with_reducible rfl)
    try simp only [Act.put, List.setIfInBounds_toArray, List.set_cons_zero, List.set_cons_succ]
    refine wpAnyH_take (i := 11) (oi := { dst := some 39, op := Op.move (Operand.tmp 10), type := 3, pos := "law.go:66", after := #[{ on := 5, ground := Ground.guard }], guard := some (5, true) }) (v := ?vm111) rfl (by kernel_rfl) (by kernel_rfl) (by kernel_rfl) (fun _ _ _ h => h) (Or.inl ⟨by rfl, ?hym111⟩) (by assumption) ?rsm111
    case hym111 => (intro w hSw; (try dsimp only at hSw); go_simp; try with_reducible rfl)
    try simp only [Act.put, List.setIfInBounds_toArray, List.set_cons_zero, List.set_cons_succ]
    refine wpAnyH_take (i := 12) (oi := { dst := some 40, op := Op.unOp UnOp.neg 3 (Operand.tmp 39), type := 3, pos := "law.go:66", after := #[{ on := 11, ground := Ground.data }, { on := 5, ground := Ground.guard }], guard := some (5, true) }) (v := ?vm112) rfl (by kernel_rfl) (by kernel_rfl) (by kernel_rfl) (fun _ _ _ h => h) (Or.inl ⟨by rfl, ?hym112⟩) (by assumption) ?rsm112
    case hym112 => (intro w hSw; (try dsimp only at hSw); go_simp; try with_reducible rfl)
    try simp only [Act.put, List.setIfInBounds_toArray, List.set_cons_zero, List.set_cons_succ]
    refine wpAnyH_ready (rs := [7]) (by kernel_rfl) (by simp) ?_
    refine AllReadyH.cons (o := { dst := some 35, op := Op.call { callee := Callee.value (Operand.func 22), args := #[Operand.tmp 34], argTypes := #[24] }, type := 32, pos := "law.go:66", after := #[{ on := 6, ground := Ground.data }, { on := 5, ground := Ground.chain }, { on := 5, ground := Ground.guard }], guard := some (5, true) }) rfl (fun K hK => ?_) AllReadyH.nil
    go_simp
    ((go_at_call 22); refine (Kofr.out _ _ _ _ _ _ ?_).mono ?_; assumption; rintro e yr ⟨rfl, hS, hcar⟩; unfold Ep.SB3 at hS; skip)
    try (go_wp2_with fail)
    refine hK.out _ _ ?_ (fun hHeld2 => ?_)
    · (try dsimp only); first | exact hst | assumption
    clear hK K hHeld
    have hHeld := hHeld2
    clear hHeld2
    try dsimp only at hHeld
    try simp only [Act.put, List.setIfInBounds_toArray, List.set_cons_zero, List.set_cons_succ]
    refine wpAnyH_ready (rs := [9]) (by kernel_rfl) (by simp) ?_
    refine AllReadyH.cons (o := { dst := some 37, op := Op.call { callee := Callee.value (Operand.func 22), args := #[Operand.tmp 36], argTypes := #[24] }, type := 32, pos := "law.go:66", after := #[{ on := 8, ground := Ground.data }, { on := 7, ground := Ground.chain }, { on := 5, ground := Ground.guard }], guard := some (5, true) }) rfl (fun K hK => ?_) AllReadyH.nil
    go_simp
    ((go_at_call 22); refine (Kofr.out _ _ _ _ _ _ ?_).mono ?_; assumption; rintro e yr ⟨rfl, hS, hcar⟩; unfold Ep.SB3 at hS; skip)
    try (go_wp2_with fail)
    refine hK.out _ _ ?_ (fun hHeld2 => ?_)
    · (try dsimp only); first | exact hst | assumption
    clear hK K hHeld
    have hHeld := hHeld2
    clear hHeld2
    try dsimp only at hHeld
    try simp only [Act.put, List.setIfInBounds_toArray, List.set_cons_zero, List.set_cons_succ]
    refine wpAnyH_ready (rs := [10]) (by kernel_rfl) (by simp) ?_
    refine AllReadyH.cons (o := { dst := some 38, op := Op.call { callee := Callee.value (Operand.func 30), args := #[Operand.tmp 35, Operand.tmp 37], argTypes := #[32, 32] }, type := 3, pos := "law.go:66", after := #[{ on := 7, ground := Ground.data }, { on := 9, ground := Ground.data }, { on := 9, ground := Ground.chain }, { on := 5, ground := Ground.guard }], guard := some (5, true) }) rfl (fun K hK => ?_) AllReadyH.nil
    go_simp
    ((go_at_call_of 30 (Value.slice a2 p1 c2)); refine (KYr.out _  ?_).mono ?_; assumption; rintro e yr ⟨rfl, hS, hcar⟩; unfold Ep.SB3 at hS; skip)
    try (go_wp2_with fail)
    refine hK.out _ _ ?_ (fun hHeld2 => ?_)
    · (try dsimp only); first | exact hst | assumption
    clear hK K hHeld
    have hHeld := hHeld2
    clear hHeld2
    try dsimp only at hHeld
    try simp only [Act.put, List.setIfInBounds_toArray, List.set_cons_zero, List.set_cons_succ]
    refine wpAnyH_take (i := 13) (oi := { dst := some 41, op := Op.binOp BinOp.eql 3 (Operand.tmp 38) (Operand.tmp 40) 3, type := 4, pos := "law.go:66", after := #[{ on := 10, ground := Ground.data }, { on := 12, ground := Ground.data }, { on := 5, ground := Ground.guard }], guard := some (5, true) }) (v := ?vm113) rfl (by kernel_rfl) (by kernel_rfl) (by kernel_rfl) (fun _ _ _ h => h) (Or.inl ⟨by rfl, ?hym113⟩) (by assumption) ?rsm113
    case hym113 => (intro w hSw; (try dsimp only at hSw); go_simp; try with_reducible rfl)
    try simp only [Act.put, List.setIfInBounds_toArray, List.set_cons_zero, List.set_cons_succ]
    refine wpAnyH_take (i := 14) (oi := { dst := some 42, op := Op.pick (Operand.tmp 33) (Operand.tmp 41) (Operand.const (Value.bool false)), type := 4, pos := "law.go:66", after := #[{ on := 5, ground := Ground.data }, { on := 13, ground := Ground.data }], guard := none }) (v := ?vm114) rfl (by kernel_rfl) (by kernel_rfl) (by kernel_rfl) (fun _ _ _ h => h) (Or.inl ⟨by rfl, ?hym114⟩) (by assumption) ?rsm114
    case hym114 => (intro w hSw; (try dsimp only at hSw); go_simp; try with_reducible rfl)
    try simp only [Act.put, List.setIfInBounds_toArray, List.set_cons_zero, List.set_cons_succ]
    refine wpAnyH_take (i := 15) (oi := { dst := some 43, op := Op.move (Operand.tmp 42), type := 4, pos := "law.go:66", after := #[{ on := 14, ground := Ground.data }, { on := 10, ground := Ground.chain }], guard := none }) (v := ?vm115) rfl (by kernel_rfl) (by kernel_rfl) (by kernel_rfl) (fun _ _ _ h => h) (Or.inl ⟨by rfl, ?hym115⟩) (by assumption) ?rsm115
    case hym115 => (intro w hSw; (try dsimp only at hSw); go_simp; try with_reducible rfl)
    try simp only [Act.put, List.setIfInBounds_toArray, List.set_cons_zero, List.set_cons_succ]
    refine wpAnyH_take (i := 16) (oi := { dst := some 44, op := Op.move (Operand.tmp 10), type := 3, pos := "law.go:66", after := #[{ on := 15, ground := Ground.guard }], guard := some (15, true) }) (v := ?vm116) rfl (by kernel_rfl) (by kernel_rfl) (by kernel_rfl) (fun _ _ _ h => h) (Or.inl ⟨by rfl, ?hym116⟩) (by assumption) ?rsm116
    case hym116 => (intro w hSw; (try dsimp only at hSw); go_simp; try with_reducible rfl)
    try simp only [Act.put, List.setIfInBounds_toArray, List.set_cons_zero, List.set_cons_succ]
    refine wpAnyH_take (i := 17) (oi := { dst := some 45, op := Op.binOp BinOp.gtr 3 (Operand.tmp 44) (Operand.const (Value.int IntKind.i64 0)) 3, type := 4, pos := "law.go:66", after := #[{ on := 16, ground := Ground.data }, { on := 15, ground := Ground.guard }], guard := some (15, true) }) (v := ?vm117) rfl (by kernel_rfl) (by kernel_rfl) (by kernel_rfl) (fun _ _ _ h => h) (Or.inl ⟨by rfl, ?hym117⟩) (by assumption) ?rsm117
    case hym117 => (intro w hSw; (try dsimp only at hSw); go_simp; try with_reducible rfl)
    try simp only [Act.put, List.setIfInBounds_toArray, List.set_cons_zero, List.set_cons_succ]
    refine wpAnyH_take (i := 18) (oi := { dst := some 46, op := Op.move (Operand.tmp 45), type := 4, pos := "law.go:66", after := #[{ on := 17, ground := Ground.data }, { on := 15, ground := Ground.chain }, { on := 15, ground := Ground.guard }], guard := some (15, true) }) (v := ?vm118) rfl (by kernel_rfl) (by kernel_rfl) (by kernel_rfl) (fun _ _ _ h => h) (Or.inl ⟨by rfl, ?hym118⟩) (by assumption) ?rsm118
    case hym118 => (intro w hSw; (try dsimp only at hSw); go_simp; try with_reducible rfl)
    try simp only [Act.put, List.setIfInBounds_toArray, List.set_cons_zero, List.set_cons_succ]
    refine wpAnyH_take (i := 19) (oi := { dst := some 47, op := Op.move (Operand.tmp 11), type := 3, pos := "law.go:66", after := #[{ on := 18, ground := Ground.guard }], guard := some (18, false) }) (v := ?vm119) rfl (by kernel_rfl) (by kernel_rfl) (by kernel_rfl) (fun _ _ _ h => h) (Or.inl ⟨by rfl, ?hym119⟩) (by assumption) ?rsm119
    case hym119 => (intro w hSw; (try dsimp only at hSw); go_simp; try with_reducible rfl)
    try simp only [Act.put, List.setIfInBounds_toArray, List.set_cons_zero, List.set_cons_succ]
    refine wpAnyH_take (i := 20) (oi := { dst := some 48, op := Op.binOp BinOp.gtr 3 (Operand.tmp 47) (Operand.const (Value.int IntKind.i64 0)) 3, type := 4, pos := "law.go:66", after := #[{ on := 19, ground := Ground.data }, { on := 18, ground := Ground.guard }], guard := some (18, false) }) (v := ?vm120) rfl (by kernel_rfl) (by kernel_rfl) (by kernel_rfl) (fun _ _ _ h => h) (Or.inl ⟨by rfl, ?hym120⟩) (by assumption) ?rsm120
    case hym120 => (intro w hSw; (try dsimp only at hSw); go_simp; try with_reducible rfl)
    try simp only [Act.put, List.setIfInBounds_toArray, List.set_cons_zero, List.set_cons_succ]
    refine wpAnyH_take (i := 21) (oi := { dst := some 49, op := Op.pick (Operand.tmp 46) (Operand.const (Value.bool true)) (Operand.tmp 48), type := 4, pos := "law.go:66", after := #[{ on := 18, ground := Ground.data }, { on := 20, ground := Ground.data }, { on := 15, ground := Ground.guard }], guard := some (15, true) }) (v := ?vm121) rfl (by kernel_rfl) (by kernel_rfl) (by kernel_rfl) (fun _ _ _ h => h) (Or.inl ⟨by rfl, ?hym121⟩) (by assumption) ?rsm121
    case hym121 => (intro w hSw; (try dsimp only at hSw); go_simp; try with_reducible rfl)
    try simp only [Act.put, List.setIfInBounds_toArray, List.set_cons_zero, List.set_cons_succ]
    refine wpAnyH_take (i := 22) (oi := { dst := some 50, op := Op.move (Operand.tmp 49), type := 4, pos := "law.go:66", after := #[{ on := 21, ground := Ground.data }, { on := 18, ground := Ground.chain }, { on := 15, ground := Ground.guard }], guard := some (15, true) }) (v := ?vm122) rfl (by kernel_rfl) (by kernel_rfl) (by kernel_rfl) (fun _ _ _ h => h) (Or.inl ⟨by rfl, ?hym122⟩) (by assumption) ?rsm122
    case hym122 => (intro w hSw; (try dsimp only at hSw); go_simp; try with_reducible rfl)
    try simp only [Act.put, List.setIfInBounds_toArray, List.set_cons_zero, List.set_cons_succ]
    refine wpAnyH_take (i := 23) (oi := { dst := some 51, op := Op.load 24 (Operand.tmp 7), type := 24, pos := "law.go:66", after := #[{ on := 22, ground := Ground.guard }], guard := some (22, false) }) (v := undef) rfl (by kernel_rfl) (by kernel_rfl) (by kernel_rfl) (fun _ _ _ h => h) (Or.inr ⟨by rfl, rfl⟩) (by assumption) ?_
    try simp only [Act.put, List.setIfInBounds_toArray, List.set_cons_zero, List.set_cons_succ]
    refine wpAnyH_take (i := 25) (oi := { dst := some 53, op := Op.load 24 (Operand.tmp 9), type := 24, pos := "law.go:66", after := #[{ on := 22, ground := Ground.guard }], guard := some (22, false) }) (v := undef) rfl (by kernel_rfl) (by kernel_rfl) (by kernel_rfl) (fun _ _ _ h => h) (Or.inr ⟨by rfl, rfl⟩) (by assumption) ?_
    try simp only [Act.put, List.setIfInBounds_toArray, List.set_cons_zero, List.set_cons_succ]
    refine wpAnyH_ready (rs := [24]) (by kernel_rfl) (by simp) ?_
    refine AllReadyH.cons (o := { dst := some 52, op := Op.call { callee := Callee.value (Operand.func 22), args := #[Operand.tmp 51], argTypes := #[24] }, type := 32, pos := "law.go:66", after := #[{ on := 23, ground := Ground.data }, { on := 22, ground := Ground.chain }, { on := 22, ground := Ground.guard }], guard := some (22, false) }) rfl (fun K hK => ?_) AllReadyH.nil
    go_simp
    refine hK.out _ _ ?_ (fun hHeld2 => ?_)
    · (try dsimp only); first | exact hst | assumption
    clear hK K hHeld
    have hHeld := hHeld2
    clear hHeld2
    try dsimp only at hHeld
    try simp only [Act.put, List.setIfInBounds_toArray, List.set_cons_zero, List.set_cons_succ]
    refine wpAnyH_ready (rs := [26]) (by kernel_rfl) (by simp) ?_
    refine AllReadyH.cons (o := { dst := some 54, op := Op.call { callee := Callee.value (Operand.func 22), args := #[Operand.tmp 53], argTypes := #[24] }, type := 32, pos := "law.go:66", after := #[{ on := 25, ground := Ground.data }, { on := 24, ground := Ground.chain }, { on := 22, ground := Ground.guard }], guard := some (22, false) }) rfl (fun K hK => ?_) AllReadyH.nil
    go_simp
    refine hK.out _ _ ?_ (fun hHeld2 => ?_)
    · (try dsimp only); first | exact hst | assumption
    clear hK K hHeld
    have hHeld := hHeld2
    clear hHeld2
    try dsimp only at hHeld
    try simp only [Act.put, List.setIfInBounds_toArray, List.set_cons_zero, List.set_cons_succ]
    refine wpAnyH_ready (rs := [27]) (by kernel_rfl) (by simp) ?_
    refine AllReadyH.cons (o := { dst := some 55, op := Op.call { callee := Callee.value (Operand.func 30), args := #[Operand.tmp 52, Operand.tmp 54], argTypes := #[32, 32] }, type := 3, pos := "law.go:66", after := #[{ on := 24, ground := Ground.data }, { on := 26, ground := Ground.data }, { on := 26, ground := Ground.chain }, { on := 22, ground := Ground.guard }], guard := some (22, false) }) rfl (fun K hK => ?_) AllReadyH.nil
    go_simp
    refine hK.out _ _ ?_ (fun hHeld2 => ?_)
    · (try dsimp only); first | exact hst | assumption
    clear hK K hHeld
    have hHeld := hHeld2
    clear hHeld2
    try dsimp only at hHeld
    try simp only [Act.put, List.setIfInBounds_toArray, List.set_cons_zero, List.set_cons_succ]
    refine wpAnyH_take (i := 28) (oi := { dst := some 56, op := Op.binOp BinOp.leq 3 (Operand.tmp 55) (Operand.const (Value.int IntKind.i64 0)) 3, type := 4, pos := "law.go:66", after := #[{ on := 27, ground := Ground.data }, { on := 22, ground := Ground.guard }], guard := some (22, false) }) (v := undef) rfl (by kernel_rfl) (by kernel_rfl) (by kernel_rfl) (fun _ _ _ h => h) (Or.inr ⟨by rfl, rfl⟩) (by assumption) ?_
    try simp only [Act.put, List.setIfInBounds_toArray, List.set_cons_zero, List.set_cons_succ]
    refine wpAnyH_take (i := 29) (oi := { dst := some 57, op := Op.pick (Operand.tmp 50) (Operand.const (Value.bool true)) (Operand.tmp 56), type := 4, pos := "law.go:66", after := #[{ on := 22, ground := Ground.data }, { on := 28, ground := Ground.data }, { on := 15, ground := Ground.guard }], guard := some (15, true) }) (v := ?vm129) rfl (by kernel_rfl) (by kernel_rfl) (by kernel_rfl) (fun _ _ _ h => h) (Or.inl ⟨by rfl, ?hym129⟩) (by assumption) ?rsm129
    case hym129 => (intro w hSw; (try dsimp only at hSw); go_simp; try with_reducible rfl)
    try simp only [Act.put, List.setIfInBounds_toArray, List.set_cons_zero, List.set_cons_succ]
    refine wpAnyH_take (i := 30) (oi := { dst := some 58, op := Op.pick (Operand.tmp 43) (Operand.tmp 57) (Operand.const (Value.bool false)), type := 4, pos := "law.go:66", after := #[{ on := 15, ground := Ground.data }, { on := 29, ground := Ground.data }], guard := none }) (v := ?vm130) rfl (by kernel_rfl) (by kernel_rfl) (by kernel_rfl) (fun _ _ _ h => h) (Or.inl ⟨by rfl, ?hym130⟩) (by assumption) ?rsm130
    case hym130 => (intro w hSw; (try dsimp only at hSw); go_simp; try with_reducible rfl)
    try simp only [Act.put, List.setIfInBounds_toArray, List.set_cons_zero, List.set_cons_succ]
    refine wpAnyH_take (i := 31) (oi := { dst := some 59, op := Op.move (Operand.tmp 58), type := 4, pos := "law.go:66", after := #[{ on := 30, ground := Ground.data }, { on := 27, ground := Ground.chain }], guard := none }) (v := ?vm131) rfl (by kernel_rfl) (by kernel_rfl) (by kernel_rfl) (fun _ _ _ h => h) (Or.inl ⟨by rfl, ?hym131⟩) (by assumption) ?rsm131
    case hym131 => (intro w hSw; (try dsimp only at hSw); go_simp; try with_reducible rfl)
    try simp only [Act.put, List.setIfInBounds_toArray, List.set_cons_zero, List.set_cons_succ]
    refine wpAnyH_ready (rs := [32]) (by kernel_rfl) (by simp) ?_
    refine AllReadyH.cons (o := { dst := some 60, op := Op.call { callee := Callee.value (Operand.func 13), args := #[], argTypes := #[] }, type := 4, pos := "law.go:66", after := #[{ on := 31, ground := Ground.chain }, { on := 31, ground := Ground.guard }], guard := some (31, true) }) rfl (fun K hK => ?_) AllReadyH.nil
    go_simp
    ((go_at_call 13); refine (KLr.out _  ?_).mono ?_; assumption; rintro e yr ⟨rfl, hS, hcar⟩; unfold Ep.SB3 at hS; skip)
    try (go_wp2_with fail)
    refine hK.out _ _ ?_ (fun hHeld2 => ?_)
    · (try dsimp only); first | exact hst | assumption
    clear hK K hHeld
    have hHeld := hHeld2
    clear hHeld2
    try dsimp only at hHeld
    try simp only [Act.put, List.setIfInBounds_toArray, List.set_cons_zero, List.set_cons_succ]
    refine wpAnyH_take (i := 33) (oi := { dst := some 61, op := Op.pick (Operand.tmp 59) (Operand.tmp 60) (Operand.const (Value.bool false)), type := 4, pos := "law.go:66", after := #[{ on := 31, ground := Ground.data }, { on := 32, ground := Ground.data }], guard := none }) (v := ?vm133) rfl (by kernel_rfl) (by kernel_rfl) (by kernel_rfl) (fun _ _ _ h => h) (Or.inl ⟨by rfl, ?hym133⟩) (by assumption) ?rsm133
    case hym133 => (intro w hSw; (try dsimp only at hSw); go_simp; try with_reducible rfl)
    try simp only [Act.put, List.setIfInBounds_toArray, List.set_cons_zero, List.set_cons_succ]
    refine wpAnyH_take (i := 34) (oi := { dst := some 6, op := Op.assign (Operand.tmp 61), type := 4, pos := "law.go:66", after := #[{ on := 33, ground := Ground.data }, { on := 32, ground := Ground.chain }, { on := 0, ground := Ground.phase }, { on := 1, ground := Ground.phase }, { on := 2, ground := Ground.phase }, { on := 3, ground := Ground.phase }, { on := 4, ground := Ground.phase }, { on := 5, ground := Ground.phase }, { on := 6, ground := Ground.phase }, { on := 7, ground := Ground.phase }, { on := 8, ground := Ground.phase }, { on := 9, ground := Ground.phase }, { on := 10, ground := Ground.phase }, { on := 11, ground := Ground.phase }, { on := 12, ground := Ground.phase }, { on := 13, ground := Ground.phase }, { on := 14, ground := Ground.phase }, { on := 15, ground := Ground.phase }, { on := 16, ground := Ground.phase }, { on := 17, ground := Ground.phase }, { on := 18, ground := Ground.phase }, { on := 19, ground := Ground.phase }, { on := 20, ground := Ground.phase }, { on := 21, ground := Ground.phase }, { on := 22, ground := Ground.phase }, { on := 23, ground := Ground.phase }, { on := 24, ground := Ground.phase }, { on := 25, ground := Ground.phase }, { on := 26, ground := Ground.phase }, { on := 27, ground := Ground.phase }, { on := 28, ground := Ground.phase }, { on := 29, ground := Ground.phase }, { on := 30, ground := Ground.phase }, { on := 31, ground := Ground.phase }, { on := 32, ground := Ground.phase }, { on := 33, ground := Ground.phase }], guard := none }) (v := ?vm134) rfl (by kernel_rfl) (by kernel_rfl) (by kernel_rfl) (fun _ _ _ h => h) (Or.inl ⟨by rfl, ?hym134⟩) (by assumption) ?rsm134
    case hym134 => (intro w hSw; (try dsimp only at hSw); go_simp; try with_reducible rfl)
    try simp only [Act.put, List.setIfInBounds_toArray, List.set_cons_zero, List.set_cons_succ]
    refine wpAnyH_done (by kernel_rfl) ?_ _
    have hqr : Q y1 _ := (show Ep.SB3 (y1) (z1.heap.size) g0 (.slice a1 p0 c1) (t0) (z3.heap.size) g1 (.slice a2 p1 c2) (t1) (z5.heap.size) g2 (.slice a3 p2 c3) (t2) _ from hHeld).here
    clear k_i00 k_i01 k_i02 k_i10 k_i11 k_i12 k_i20 k_i21 k_i22 k_x0 k_x1 k_x2 k_y0 k_y1 k_y2 k_z0 k_z1 k_z2
    clear hHeld hS hcar hst
    have HQE := Lib.hid (Q8.out.trans hqr)
    clear hqr
    go_wp2_with fail
    go_ret
    exact ⟨rfl, HQE.out⟩
  · have hd1 : decide ((0 : Int) < n) = false := by simp; omega
    have hd2 : decide ((0 : Int) < m) = false := by simp; omega
    have hd3 : decide (kk ≤ (0 : Int)) = true := by simp; omega
    obtain ⟨k_i00, k_i01, k_i02, _, _, _⟩ := Er.block_cells B8_i0.out
    obtain ⟨k_i10, k_i11, k_i12, _, _, _⟩ := Er.block_cells B8_i1.out
    obtain ⟨k_i20, k_i21, k_i22, _, _, _⟩ := Er.block_cells B8_i2.out
    obtain ⟨k_x0, k_x1, k_x2, _, _, _⟩ := Er.block_cells B8_x.out
    obtain ⟨k_y0, k_y1, k_y2, _, _, _⟩ := Er.block_cells B8_y.out
    obtain ⟨k_z0, k_z1, k_z2, _, _, _⟩ := Er.block_cells B8_z.out
    go_wp2_with fail
    have SQr := Lib.hid (fun u u' (k : Ep.SB3 (y1) (z1.heap.size) g0 (.slice a1 p0 c1) (t0) (z3.heap.size) g1 (.slice a2 p1 c2) (t1) (z5.heap.size) g2 (.slice a3 p2 c3) (t2) u) (q : Q u u') => (Ep.SB3.of B8_x.out B8_y.out B8_z.out (k.here.trans q) : Ep.SB3 (y1) (z1.heap.size) g0 (.slice a1 p0 c1) (t0) (z3.heap.size) g1 (.slice a2 p1 c2) (t1) (z5.heap.size) g2 (.slice a3 p2 c3) (t2) u'))
    have Kofr := Lib.hid (fun u g a n c s (k : Ep.SB3 (y1) (z1.heap.size) g0 (.slice a1 p0 c1) (t0) (z3.heap.size) g1 (.slice a2 p1 c2) (t1) (z5.heap.size) g2 (.slice a3 p2 c3) (t2) u) => (by
      refine (Ep.of_sh u g a n c s).mono ?_
      rintro e w' ⟨rfl, hq⟩
      exact ⟨rfl, SQr.out _ _ k hq, fun v zs hl => hl.q hq⟩ : Calls Try.prog 22 #[.agg #[.bool g, .slice a n c, .int .i64 s]] u fun e w' => e = .returned (.agg #[.bool g, .slice a n c, .int .i64 s]) ∧ Ep.SB3 (y1) (z1.heap.size) g0 (.slice a1 p0 c1) (t0) (z3.heap.size) g1 (.slice a2 p1 c2) (t1) (z5.heap.size) g2 (.slice a3 p2 c3) (t2) w' ∧ ∀ v zs, Lst u v zs → Lst w' v zs))
    have KRr := Lib.hid (fun u  (k : Ep.SB3 (y1) (z1.heap.size) g0 (.slice a1 p0 c1) (t0) (z3.heap.size) g1 (.slice a2 p1 c2) (t1) (z5.heap.size) g2 (.slice a3 p2 c3) (t2) u) => (by
      refine (RXY.out u a1 c1 a2 c2 (L8_X0.out.q k.here) (L8_X1.out.q k.here)).mono ?_
      rintro e w' ⟨rfl, hq⟩
      exact ⟨rfl, SQr.out _ _ k hq, fun v zs hl => hl.q hq⟩ : Calls Try.prog 25 #[.agg #[.bool g0, .slice a1 p0 c1, .int .i64 t0], .agg #[.bool g1, .slice a2 p1 c2, .int .i64 t1]] u fun e w' => e = .returned (.int .i64 n) ∧ Ep.SB3 (y1) (z1.heap.size) g0 (.slice a1 p0 c1) (t0) (z3.heap.size) g1 (.slice a2 p1 c2) (t1) (z5.heap.size) g2 (.slice a3 p2 c3) (t2) w' ∧ ∀ v zs, Lst u v zs → Lst w' v zs))
    have KYr := Lib.hid (fun u  (k : Ep.SB3 (y1) (z1.heap.size) g0 (.slice a1 p0 c1) (t0) (z3.heap.size) g1 (.slice a2 p1 c2) (t1) (z5.heap.size) g2 (.slice a3 p2 c3) (t2) u) => (by
      refine (CYX.out u a2 c2 a1 c1 (L8_X1.out.q k.here) (L8_X0.out.q k.here)).mono ?_
      rintro e w' ⟨rfl, hq⟩
      exact ⟨rfl, SQr.out _ _ k hq, fun v zs hl => hl.q hq⟩ : Calls Try.prog 30 #[.agg #[.bool g1, .slice a2 p1 c2, .int .i64 t1], .agg #[.bool g0, .slice a1 p0 c1, .int .i64 t0]] u fun e w' => e = .returned (.int .i64 nn) ∧ Ep.SB3 (y1) (z1.heap.size) g0 (.slice a1 p0 c1) (t0) (z3.heap.size) g1 (.slice a2 p1 c2) (t1) (z5.heap.size) g2 (.slice a3 p2 c3) (t2) w' ∧ ∀ v zs, Lst u v zs → Lst w' v zs))
    have KXr := Lib.hid (fun u  (k : Ep.SB3 (y1) (z1.heap.size) g0 (.slice a1 p0 c1) (t0) (z3.heap.size) g1 (.slice a2 p1 c2) (t1) (z5.heap.size) g2 (.slice a3 p2 c3) (t2) u) => (by
      refine (CXZ.out u a1 c1 a3 c3 (L8_X0.out.q k.here) (L8_X2.out.q k.here)).mono ?_
      rintro e w' ⟨rfl, hq⟩
      exact ⟨rfl, SQr.out _ _ k hq, fun v zs hl => hl.q hq⟩ : Calls Try.prog 30 #[.agg #[.bool g0, .slice a1 p0 c1, .int .i64 t0], .agg #[.bool g2, .slice a3 p2 c3, .int .i64 t2]] u fun e w' => e = .returned (.int .i64 kk) ∧ Ep.SB3 (y1) (z1.heap.size) g0 (.slice a1 p0 c1) (t0) (z3.heap.size) g1 (.slice a2 p1 c2) (t1) (z5.heap.size) g2 (.slice a3 p2 c3) (t2) w' ∧ ∀ v zs, Lst u v zs → Lst w' v zs))
    have KLr := Lib.hid (fun u  (k : Ep.SB3 (y1) (z1.heap.size) g0 (.slice a1 p0 c1) (t0) (z3.heap.size) g1 (.slice a2 p1 c2) (t1) (z5.heap.size) g2 (.slice a3 p2 c3) (t2) u) => (by
      refine (LV.out u).mono ?_
      rintro e w' ⟨rfl, hq⟩
      exact ⟨rfl, SQr.out _ _ k hq, fun v zs hl => hl.q hq⟩ : Calls Try.prog 13 #[] u fun e w' => e = .returned (.bool true) ∧ Ep.SB3 (y1) (z1.heap.size) g0 (.slice a1 p0 c1) (t0) (z3.heap.size) g1 (.slice a2 p1 c2) (t1) (z5.heap.size) g2 (.slice a3 p2 c3) (t2) w' ∧ ∀ v zs, Lst u v zs → Lst w' v zs))
    have hst0 := Ep.SB3.of B8_x.out B8_y.out B8_z.out (Q.refl _)
    have hst := Ep.SB3.of B8_x.out B8_y.out B8_z.out ((Q.refl y1).drew)
    unfold Ep.SB3 at hst hst0
    go_region_held3 (fun u => u.cell? ⟨z1.heap.size, 0, none⟩ = some (.bool g0) ∧ (u.cell? ⟨z1.heap.size, 1, none⟩ = some (.slice a1 p0 c1) ∧ (u.cell? ⟨z1.heap.size, 2, none⟩ = some (.int .i64 t0) ∧ (u.cell? ⟨z3.heap.size, 0, none⟩ = some (.bool g1) ∧ (u.cell? ⟨z3.heap.size, 1, none⟩ = some (.slice a2 p1 c2) ∧ (u.cell? ⟨z3.heap.size, 2, none⟩ = some (.int .i64 t1) ∧ (u.cell? ⟨z5.heap.size, 0, none⟩ = some (.bool g2) ∧ (u.cell? ⟨z5.heap.size, 1, none⟩ = some (.slice a3 p2 c3) ∧ (u.cell? ⟨z5.heap.size, 2, none⟩ = some (.int .i64 t2) ∧ (Q y1 u)))))))))) (first | exact hst | exact hst0 | assumption) (first | ((go_at_call 22); refine (Kofr.out _ _ _ _ _ _ ?_).mono ?_; assumption; rintro e yr ⟨rfl, hS, hcar⟩; unfold Ep.SB3 at hS; skip) | ((go_at_call 25); refine (KRr.out _  ?_).mono ?_; assumption; rintro e yr ⟨rfl, hS, hcar⟩; unfold Ep.SB3 at hS; skip) | ((go_at_call_of 30 (Value.slice a2 p1 c2)); refine (KYr.out _  ?_).mono ?_; assumption; rintro e yr ⟨rfl, hS, hcar⟩; unfold Ep.SB3 at hS; skip) | ((go_at_call_of 30 (Value.slice a1 p0 c1)); refine (KXr.out _  ?_).mono ?_; assumption; rintro e yr ⟨rfl, hS, hcar⟩; unfold Ep.SB3 at hS; skip) | ((go_at_call 13); refine (KLr.out _  ?_).mono ?_; assumption; rintro e yr ⟨rfl, hS, hcar⟩; unfold Ep.SB3 at hS; skip))
    clear k_i00 k_i01 k_i02 k_i10 k_i11 k_i12 k_i20 k_i21 k_i22 k_x0 k_x1 k_x2 k_y0 k_y1 k_y2 k_z0 k_z1 k_z2
    have hqr : Q y1 _ := (show Ep.SB3 (y1) (z1.heap.size) g0 (.slice a1 p0 c1) (t0) (z3.heap.size) g1 (.slice a2 p1 c2) (t1) (z5.heap.size) g2 (.slice a3 p2 c3) (t2) _ from hS).here
    clear hst hst0 hS hcar
    have HQE := Lib.hid (Q8.out.trans hqr)
    clear hqr
    go_wp2_with fail
    go_ret
    exact ⟨rfl, HQE.out⟩

set_option maxRecDepth 100000 in
theorem lifted (os : Os) (started : os.Started) (H : Type) (enc : TypeId × Value → H) :
    ReturnsInHanded {} Try.checked os 6 .any (Rows.decimalRowSpec.pre6 enc Try.prog Try.f6 Rows.decimalRowRow.domain false) (Rows.decimalRowSpec.post enc Try.prog Try.f6 false true false false) := by
  refine returnsInHanded_of_change (C := Try.checked) own started (by kernel_rfl) Try.func6
    (ChangeSpec.witness6 (enc := enc) (C := Try.checked) false ⟨#[], #[.agg #[.bool false, .slice none 0 0, .int .i64 0], .agg #[.bool false, .slice none 0 0, .int .i64 0], .agg #[.bool false, .slice none 0 0, .int .i64 0]], []⟩ 8 (by kernel_rfl) (by kernel_rfl) (by kernel_rfl) (by kernel_rfl)) ?_
  intro W base args ds gs before hval0 hW hcnd _
  have hval : ∀ (j : Nat) t v, Try.f6.params[j]? = some t → args[j]? = some v → Value.okWide Try.prog W .any base t v := hval0
  have hW' := hW
  obtain ⟨p, q, hA0, hV, rfl, hfz, hnd⟩ := hW
  have hA : DataW.TrodAll enc Try.prog W 0 (fun _ => true) true Try.f6.params.toList args.toList ds p := hA0
  rw [Try.params6] at hA hval
  obtain ⟨v0, vs0, d0, ds0, p0, q0, hargs, rfl, rfl, h0, r0⟩ := trodAll_cons hA
  obtain ⟨v1, vs1, d1, ds1, p1, q1, rfl, rfl, rfl, h1, r1⟩ := trodAll_cons r0
  obtain ⟨v2, vs2, d2, ds2, p2, q2, rfl, rfl, rfl, h2, r2⟩ := trodAll_cons r1
  obtain ⟨rfl, rfl, rfl⟩ := trodAll_nil r2
  obtain rfl : args = #[v0, v1, v2] := by cases args; simp_all
  obtain ⟨rfl, rfl⟩ := trodVars_none hV
  have k0 := h0
  have lt0 : ∀ x ∈ p0, x.block < W.heap.size := by obtain ⟨m, hm⟩ := k0; exact DataW.trod_lt m _ _ _ hm
  obtain ⟨c00, c01, c02, y00, y01, y02, m0, rfl, _, _, hy00, hy01, hy02⟩ := Joins.open_agg3 Try.underlying24 (by kernel_rfl) (by kernel_rfl) (hval 0 24 v0 rfl rfl) h0
  obtain ⟨g0, rfl⟩ : ∃ b, c00 = .bool b := by
    obtain ⟨b, h, _⟩ := DataW.trod_bool Try.underlying4 hy00
    exact ⟨b, by simpa using h⟩
  obtain ⟨s0, rfl, ws0⟩ : ∃ n, c02 = .int .i64 n ∧ (Lit.int .i64 n).wf = true := by
    obtain ⟨n, h, _, hw⟩ := DataW.trod_int Try.underlying3 hy02
    exact ⟨n, by simpa using h, hw⟩
  obtain ⟨a0, len0, cap0, z0, rfl, w0⟩ : ∃ a len cap zs, c01 = .slice a len cap ∧ IsRow .i64 W a len cap zs := by
    rcases open_ints Try.underlying22 Try.underlying3 (by kernel_rfl) hy01 with ⟨hcs, _⟩ | ⟨x, l, c, zs, hcs, _, hl, hm, hz, _, hcell, hwz⟩
    · exact ⟨none, 0, 0, [], by simpa using hcs, .inl ⟨rfl, rfl, rfl, rfl⟩⟩
    · exact ⟨some x, l, c, zs, by simpa using hcs, .inr ⟨_, rfl, hl, hm, by simpa using hz, hcell, hwz⟩⟩
  obtain ⟨xs0, l0, _, b0⟩ := w0.lst
  have k1 := h1
  have lt1 : ∀ x ∈ p1, x.block < W.heap.size := by obtain ⟨m, hm⟩ := k1; exact DataW.trod_lt m _ _ _ hm
  obtain ⟨c10, c11, c12, y10, y11, y12, m1, rfl, _, _, hy10, hy11, hy12⟩ := Joins.open_agg3 Try.underlying24 (by kernel_rfl) (by kernel_rfl) (hval 1 24 v1 rfl rfl) h1
  obtain ⟨g1, rfl⟩ : ∃ b, c10 = .bool b := by
    obtain ⟨b, h, _⟩ := DataW.trod_bool Try.underlying4 hy10
    exact ⟨b, by simpa using h⟩
  obtain ⟨s1, rfl, ws1⟩ : ∃ n, c12 = .int .i64 n ∧ (Lit.int .i64 n).wf = true := by
    obtain ⟨n, h, _, hw⟩ := DataW.trod_int Try.underlying3 hy12
    exact ⟨n, by simpa using h, hw⟩
  obtain ⟨a1, len1, cap1, z1, rfl, w1⟩ : ∃ a len cap zs, c11 = .slice a len cap ∧ IsRow .i64 W a len cap zs := by
    rcases open_ints Try.underlying22 Try.underlying3 (by kernel_rfl) hy11 with ⟨hcs, _⟩ | ⟨x, l, c, zs, hcs, _, hl, hm, hz, _, hcell, hwz⟩
    · exact ⟨none, 0, 0, [], by simpa using hcs, .inl ⟨rfl, rfl, rfl, rfl⟩⟩
    · exact ⟨some x, l, c, zs, by simpa using hcs, .inr ⟨_, rfl, hl, hm, by simpa using hz, hcell, hwz⟩⟩
  obtain ⟨xs1, l1, _, b1⟩ := w1.lst
  have k2 := h2
  have lt2 : ∀ x ∈ p2, x.block < W.heap.size := by obtain ⟨m, hm⟩ := k2; exact DataW.trod_lt m _ _ _ hm
  obtain ⟨c20, c21, c22, y20, y21, y22, m2, rfl, _, _, hy20, hy21, hy22⟩ := Joins.open_agg3 Try.underlying24 (by kernel_rfl) (by kernel_rfl) (hval 2 24 v2 rfl rfl) h2
  obtain ⟨g2, rfl⟩ : ∃ b, c20 = .bool b := by
    obtain ⟨b, h, _⟩ := DataW.trod_bool Try.underlying4 hy20
    exact ⟨b, by simpa using h⟩
  obtain ⟨s2, rfl, ws2⟩ : ∃ n, c22 = .int .i64 n ∧ (Lit.int .i64 n).wf = true := by
    obtain ⟨n, h, _, hw⟩ := DataW.trod_int Try.underlying3 hy22
    exact ⟨n, by simpa using h, hw⟩
  obtain ⟨a2, len2, cap2, z2, rfl, w2⟩ : ∃ a len cap zs, c21 = .slice a len cap ∧ IsRow .i64 W a len cap zs := by
    rcases open_ints Try.underlying22 Try.underlying3 (by kernel_rfl) hy21 with ⟨hcs, _⟩ | ⟨x, l, c, zs, hcs, _, hl, hm, hz, _, hcell, hwz⟩
    · exact ⟨none, 0, 0, [], by simpa using hcs, .inl ⟨rfl, rfl, rfl, rfl⟩⟩
    · exact ⟨some x, l, c, zs, by simpa using hcs, .inr ⟨_, rfl, hl, hm, by simpa using hz, hcell, hwz⟩⟩
  obtain ⟨xs2, l2, _, b2⟩ := w2.lst
  clear hA0 hval0
  refine (walk W g0 (.slice a0 len0 cap0) xs0 l0 b0 s0 (bounds_i64 ws0) g1 (.slice a1 len1 cap1) xs1 l1 b1 s1 (bounds_i64 ws1) g2 (.slice a2 len2 cap2) xs2 l2 b2 s2 (bounds_i64 ws2)).mono fun e W' ⟨he, bel⟩ => ?_
  subst he
  exact ⟨_, rfl, _, _, _, [], _, [], hW', trodAll_mk1 (shut_bool Try.underlying4 _), (trodAll_cons_mk (Below.trod laidOut (by kernel_rfl) (of_decide_eq_true (by kernel_rfl)) k0 bel lt0) (trodAll_cons_mk (Below.trod laidOut (by kernel_rfl) (of_decide_eq_true (by kernel_rfl)) k1 bel lt1) (trodAll_cons_mk (Below.trod laidOut (by kernel_rfl) (of_decide_eq_true (by kernel_rfl)) k2 bel lt2) trodAll_mk0))), rfl, bel.below.frame _, fun h => by cases h⟩

/-- The statement. -/
theorem proved : Rows.DecimalRowSaid :=
  OpenClaim.holds_of_wide 6 Try.f6 rfl rfl rfl rfl rfl rfl rfl ⟨rfl, rfl, rfl, rfl, rfl⟩ rfl rfl rfl rfl rfl (by kernel_rfl) Try.func6 (by kernel_rfl)
    (of_decide_eq_true (by kernel_rfl)) (by unfold Func.isWrapper; first | (rw [if_pos (by decide +kernel)]; kernel_rfl) | (rw [if_neg (by decide +kernel)]; exact ⟨rfl, rfl⟩))
    (fun os started H enc _ => lifted os started H enc)
#print axioms proved
end Go.Proofs.Ytilbefdeanhnpaa.decimalRow
