/- DecimalTimes: of whatever decimal (its first 12 numbers, raw, and made one that may be) so many times (raw, and made -1000 to 1000) is the document's, or refused; that and as many times less are none together; no conditions. -/
import Derived.Test.YtilbefdeanhnpaaRows
import Derived.WalkKit
import Derived.ProofKit
import Derived.OpenShut
import Derived.ShutString
import Derived.ChangeOld
import Derived.Below
import Derived.Lib.SmallJoins
import Derived.Test.YtilbefdeanhnpaaInts
import Derived.Test.YtilbefdeanhnpaaUtfM
import Derived.Test.YtilbefdeanhnpaaUtfG
import Derived.Test.YtilbefdeanhnpaaUtfR
import Derived.Test.YtilbefdeanhnpaaDigM
import Derived.Test.YtilbefdeanhnpaaDigL
import Derived.Test.YtilbefdeanhnpaaDigR
import Derived.Test.YtilbefdeanhnpaaDecM
import Derived.Test.YtilbefdeanhnpaaDecR
import Derived.Test.YtilbefdeanhnpaaDecS
import Derived.Test.YtilbefdeanhnpaaDecC
import Derived.Test.YtilbefdeanhnpaaDecF
import Derived.Test.YtilbefdeanhnpaaDecG
import Derived.Test.YtilbefdeanhnpaaDecQ
import Derived.Test.YtilbefdeanhnpaaDecH
import Derived.Test.YtilbefdeanhnpaaDecI
import Derived.Test.YtilbefdeanhnpaaDecJ
import Derived.Test.YtilbefdeanhnpaaDecK
import Derived.Test.YtilbefdeanhnpaaDecO
import Derived.Test.YtilbefdeanhnpaaDecZ
import Derived.Test.YtilbefdeanhnpaaDecE
import Derived.Test.YtilbefdeanhnpaaDecX
set_option linter.unusedVariables false
set_option linter.unusedSimpArgs false
namespace Go.Proofs.Ytilbefdeanhnpaa.decimalTimes
open Go.ChangeShapes Go.WideShapes Go.ChangeAt Go.RowKit
open Go.ChangeMaps (open_string shut_string)

theorem own : ownKnob Try.prog.godebug = none := by kernel_rfl
theorem laidOut : laidOutB Try.prog = true := by kernel_rfl


set_option maxHeartbeats 4000000 in
set_option maxRecDepth 100000 in
theorem walk (w : World) (g0 : Bool) (v0 : Value) (xs0 : List Int) (w0 : Lst w v0 xs0) (b0 : ∀ n ∈ xs0, -9223372036854775808 ≤ n ∧ n ≤ 9223372036854775807) (s0 : Int) (ws0 : -9223372036854775808 ≤ s0 ∧ s0 ≤ 9223372036854775807) (a1 : Int) (w1 : -9223372036854775808 ≤ a1 ∧ a1 ≤ 9223372036854775807) :
    Calls Try.prog 8 #[.agg #[.bool g0, v0, .int .i64 s0], .int .i64 a1] w fun e w' => e = .returned (.bool true) ∧ Q w w' := by
  have hR0 := w0
  obtain ⟨A0, C0, rfl, hnc0, hcm0⟩ := w0.shape2
  have hgl0 := Dm.gdL_len xs0 12
  have kX0 := Dm.gdL_ok xs0 12
  have hab0 := Um.around_bd s0 10 (by omega)
  obtain ⟨t0, ht0⟩ : ∃ t : Nat, Um.around s0 10 = (t : Int) := ⟨(Um.around s0 10).toNat, by omega⟩
  rw [ht0] at hab0
  have hs0 : t0 ≤ 9 := by omega
  obtain ⟨p0, hp0⟩ : ∃ p, (Dm.gdL xs0 12).length = p := ⟨_, rfl⟩
  have hpm0 : p0 ≤ 12 := by omega
  have G0 := Lib.hid (fun u (q : Q w u) => Ep.good_sh u g0 A0 xs0.length C0 s0 xs0 12 (w0.q q) rfl ws0 (by omega) b0 t0 p0 ht0 hp0)
  obtain ⟨q0, hq0⟩ : ∃ q, min xs0.length 12 = q := ⟨_, rfl⟩
  have FW0 := Lib.hid (fun u => Ep.few_sh u g0 A0 xs0.length C0 s0 12 q0 hnc0 hcm0 (by omega) hq0)
  have hT0 := w0.take q0 (by omega)
  have hRl0 : (xs0.take q0).length = q0 := by rw [List.length_take]; omega
  generalize xs0.take q0 = RR0 at *
  have HR0 := Lib.hid hT0
  generalize Dm.gdL xs0 12 = X0 at *
  generalize hn0 : xs0.length = n0 at *
  have HP0 := Lib.hid hp0
  have hql0 : q0 ≤ 12 := by omega
  have HRL0 := Lib.hid hRl0
  clear hgl0 hab0 ht0
  have A9 := Lib.hid (fun w => Ur.around_any a1 2001 w w1.1 w1.2 (by omega) (by omega))
  have hab := Um.around_bd a1 2001 (by omega)
  generalize Um.around a1 2001 = K at *
  obtain ⟨k, hk⟩ : ∃ k, K - 1000 = k := ⟨_, rfl⟩
  have hkb : -1000 ≤ k ∧ k ≤ 1000 := by omega
  obtain ⟨ga, gm, Z, zs, t1, t2, t3, hZl, t4⟩ := Ep.times_none g0 t0 k X0 (by omega) kX0 (by omega) hkb
  obtain ⟨gr, ZR, sr, er, t5, t6, hZRl⟩ := Ep.times_both g0 s0 a1 RR0 (by omega) ws0
  have T1 := Lib.hid t1
  have T2 := Lib.hid t2
  have T3 := Lib.hid t3
  have T4 := Lib.hid t4
  have T5 := Lib.hid t5
  have T6 := Lib.hid t6
  unfold Ep.R1 at T1 T2 T3 T5 T6
  unfold Ep.R2 at T4
  have LV := Lib.hid Ep.lives_any
  generalize hr : Z.length = r at *
  generalize hrr : ZR.length = rr at *
  have HZ := Lib.hid hr
  have HZR := Lib.hid (show ZR.length < 1000000 from by omega)
  obtain ⟨hk1, hk2⟩ := hkb
  obtain ⟨hw1, hw2⟩ := w1
  clear t1 t2 t3 t4 t5 t6 hr hrr hab kX0 w0 b0 hT0 hR0 hRl0 hp0 hq0 hn0 hnc0 hcm0
  go_enter Try.func8, Try.ntmps8
  have Q0 := Lib.hid (show Q w (w.alloc (.cells #[.bool g0, .slice A0 n0 C0, .int .i64 s0] 24)) from ((Q.refl w).alloc (.cells #[.bool g0, .slice A0 n0 C0, .int .i64 s0] 24)))
  have B0_i := Lib.hid (show (w.alloc (.cells #[.bool g0, .slice A0 n0 C0, .int .i64 s0] 24)).heap[w.heap.size]? = some (.cells #[.bool g0, .slice A0 n0 C0, .int .i64 s0] 24) from by exact heap_alloc_new _ _)
  have L0_R := Lib.hid (Lst.q HR0.out Q0.out)
  obtain ⟨k_i0, k_i1, k_i2, _, _, _⟩ := Er.block_cells B0_i.out
  go_wp2_with fail
  refine (G0.out _ Q0.out).mono ?_
  rintro e z1 ⟨a1x, c1, rfl, hx, hq⟩
  clear k_i0 k_i1 k_i2
  have L1_R := Lib.hid (Lst.q L0_R.out hq)
  clear L0_R
  have B1_i := Lib.hid ((Q.block hq (lt_of_block B0_i.out)).trans B0_i.out)
  clear B0_i
  have Q1 := Lib.hid (Q.trans Q0.out hq)
  clear Q0
  have L1_X := Lib.hid hx
  clear hx
  clear hq
  have hq := (Q.refl z1).alloc (.cells #[.bool g0, .slice a1x p0 c1, .int .i64 t0] 24)
  have hb := heap_alloc_new z1 (.cells #[.bool g0, .slice a1x p0 c1, .int .i64 t0] 24)
  have L2_R := Lib.hid (Lst.q L1_R.out hq)
  clear L1_R
  have L2_X := Lib.hid (Lst.q L1_X.out hq)
  clear L1_X
  have B2_i := Lib.hid ((Q.block hq (lt_of_block B1_i.out)).trans B1_i.out)
  clear B1_i
  have Q2 := Lib.hid (Q.trans Q1.out hq)
  clear Q1
  have B2_o := Lib.hid hb
  clear hb hq
  obtain ⟨k_i0, k_i1, k_i2, _, _, _⟩ := Er.block_cells B2_i.out
  obtain ⟨k_o0, k_o1, k_o2, _, _, _⟩ := Er.block_cells B2_o.out
  go_wp2_with fail
  refine (FW0.out _).mono ?_
  rintro e z3 ⟨rfl, hq⟩
  clear k_i0 k_i1 k_i2 k_o0 k_o1 k_o2
  have L3_R := Lib.hid (Lst.q L2_R.out hq)
  clear L2_R
  have L3_X := Lib.hid (Lst.q L2_X.out hq)
  clear L2_X
  have B3_i := Lib.hid ((Q.block hq (lt_of_block B2_i.out)).trans B2_i.out)
  clear B2_i
  have B3_o := Lib.hid ((Q.block hq (lt_of_block B2_o.out)).trans B2_o.out)
  clear B2_o
  have Q3 := Lib.hid (Q.trans Q2.out hq)
  clear Q2
  clear hq
  have hq := (Q.refl z3).alloc (.cells #[.bool g0, .slice A0 q0 C0, .int .i64 s0] 24)
  have hb := heap_alloc_new z3 (.cells #[.bool g0, .slice A0 q0 C0, .int .i64 s0] 24)
  have L4_R := Lib.hid (Lst.q L3_R.out hq)
  clear L3_R
  have L4_X := Lib.hid (Lst.q L3_X.out hq)
  clear L3_X
  have B4_i := Lib.hid ((Q.block hq (lt_of_block B3_i.out)).trans B3_i.out)
  clear B3_i
  have B4_o := Lib.hid ((Q.block hq (lt_of_block B3_o.out)).trans B3_o.out)
  clear B3_o
  have Q4 := Lib.hid (Q.trans Q3.out hq)
  clear Q3
  have B4_r := Lib.hid hb
  clear hb hq
  obtain ⟨k_i0, k_i1, k_i2, _, _, _⟩ := Er.block_cells B4_i.out
  obtain ⟨k_o0, k_o1, k_o2, _, _, _⟩ := Er.block_cells B4_o.out
  obtain ⟨k_r0, k_r1, k_r2, _, _, _⟩ := Er.block_cells B4_r.out
  go_wp2_with fail
  refine (A9.out _).mono ?_
  rintro e y ⟨rfl, rfl⟩
  clear k_i0 k_i1 k_i2 k_o0 k_o1 k_o2 k_r0 k_r1 k_r2
  obtain ⟨k_i0, k_i1, k_i2, _, _, _⟩ := Er.block_cells B4_i.out
  obtain ⟨k_o0, k_o1, k_o2, _, _, _⟩ := Er.block_cells B4_o.out
  obtain ⟨k_r0, k_r1, k_r2, _, _, _⟩ := Er.block_cells B4_r.out
  go_wp2_with fail
  refine (Ep.of_sh _ _ _ _ _ _).mono ?_
  rintro e z5 ⟨rfl, hq⟩
  clear k_i0 k_i1 k_i2 k_o0 k_o1 k_o2 k_r0 k_r1 k_r2
  have L5_R := Lib.hid (Lst.q L4_R.out hq)
  clear L4_R
  have L5_X := Lib.hid (Lst.q L4_X.out hq)
  clear L4_X
  have B5_i := Lib.hid ((Q.block hq (lt_of_block B4_i.out)).trans B4_i.out)
  clear B4_i
  have B5_o := Lib.hid ((Q.block hq (lt_of_block B4_o.out)).trans B4_o.out)
  clear B4_o
  have B5_r := Lib.hid ((Q.block hq (lt_of_block B4_r.out)).trans B4_r.out)
  clear B4_r
  have Q5 := Lib.hid (Q.trans Q4.out hq)
  clear Q4
  clear hq
  obtain ⟨k_i0, k_i1, k_i2, _, _, _⟩ := Er.block_cells B5_i.out
  obtain ⟨k_o0, k_o1, k_o2, _, _, _⟩ := Er.block_cells B5_o.out
  obtain ⟨k_r0, k_r1, k_r2, _, _, _⟩ := Er.block_cells B5_r.out
  go_wp2_with fail
  refine (T1.out _ _ L5_X.out).mono ?_
  rintro e z6 ⟨a2, c2, rfl, hx, hq⟩
  clear k_i0 k_i1 k_i2 k_o0 k_o1 k_o2 k_r0 k_r1 k_r2
  have L6_R := Lib.hid (Lst.q L5_R.out hq)
  clear L5_R
  have L6_X := Lib.hid (Lst.q L5_X.out hq)
  clear L5_X
  have B6_i := Lib.hid ((Q.block hq (lt_of_block B5_i.out)).trans B5_i.out)
  clear B5_i
  have B6_o := Lib.hid ((Q.block hq (lt_of_block B5_o.out)).trans B5_o.out)
  clear B5_o
  have B6_r := Lib.hid ((Q.block hq (lt_of_block B5_r.out)).trans B5_r.out)
  clear B5_r
  have Q6 := Lib.hid (Q.trans Q5.out hq)
  clear Q5
  have L6_A := Lib.hid hx
  clear hx
  clear hq
  have hq := (Q.refl z6).alloc (.cells #[.bool ga, .slice a2 r c2, .int .i64 zs] 32)
  have hb := heap_alloc_new z6 (.cells #[.bool ga, .slice a2 r c2, .int .i64 zs] 32)
  have L7_R := Lib.hid (Lst.q L6_R.out hq)
  clear L6_R
  have L7_X := Lib.hid (Lst.q L6_X.out hq)
  clear L6_X
  have L7_A := Lib.hid (Lst.q L6_A.out hq)
  clear L6_A
  have B7_i := Lib.hid ((Q.block hq (lt_of_block B6_i.out)).trans B6_i.out)
  clear B6_i
  have B7_o := Lib.hid ((Q.block hq (lt_of_block B6_o.out)).trans B6_o.out)
  clear B6_o
  have B7_r := Lib.hid ((Q.block hq (lt_of_block B6_r.out)).trans B6_r.out)
  clear B6_r
  have Q7 := Lib.hid (Q.trans Q6.out hq)
  clear Q6
  have B7_a := Lib.hid hb
  clear hb hq
  obtain ⟨k_i0, k_i1, k_i2, _, _, _⟩ := Er.block_cells B7_i.out
  obtain ⟨k_o0, k_o1, k_o2, _, _, _⟩ := Er.block_cells B7_o.out
  obtain ⟨k_r0, k_r1, k_r2, _, _, _⟩ := Er.block_cells B7_r.out
  obtain ⟨k_a0, k_a1, k_a2, _, _, _⟩ := Er.block_cells B7_a.out
  go_wp2_with fail
  refine (T2.out _ _ L7_X.out).mono ?_
  rintro e z8 ⟨a3, c3, rfl, hx, hq⟩
  clear k_i0 k_i1 k_i2 k_o0 k_o1 k_o2 k_r0 k_r1 k_r2 k_a0 k_a1 k_a2
  have L8_R := Lib.hid (Lst.q L7_R.out hq)
  clear L7_R
  have L8_X := Lib.hid (Lst.q L7_X.out hq)
  clear L7_X
  have L8_A := Lib.hid (Lst.q L7_A.out hq)
  clear L7_A
  have B8_i := Lib.hid ((Q.block hq (lt_of_block B7_i.out)).trans B7_i.out)
  clear B7_i
  have B8_o := Lib.hid ((Q.block hq (lt_of_block B7_o.out)).trans B7_o.out)
  clear B7_o
  have B8_r := Lib.hid ((Q.block hq (lt_of_block B7_r.out)).trans B7_r.out)
  clear B7_r
  have B8_a := Lib.hid ((Q.block hq (lt_of_block B7_a.out)).trans B7_a.out)
  clear B7_a
  have Q8 := Lib.hid (Q.trans Q7.out hq)
  clear Q7
  have L8_Bb := Lib.hid hx
  clear hx
  clear hq
  have hq := (Q.refl z8).alloc (.cells #[.bool ga, .slice a3 r c3, .int .i64 zs] 24)
  have hb := heap_alloc_new z8 (.cells #[.bool ga, .slice a3 r c3, .int .i64 zs] 24)
  have L9_R := Lib.hid (Lst.q L8_R.out hq)
  clear L8_R
  have L9_X := Lib.hid (Lst.q L8_X.out hq)
  clear L8_X
  have L9_A := Lib.hid (Lst.q L8_A.out hq)
  clear L8_A
  have L9_Bb := Lib.hid (Lst.q L8_Bb.out hq)
  clear L8_Bb
  have B9_i := Lib.hid ((Q.block hq (lt_of_block B8_i.out)).trans B8_i.out)
  clear B8_i
  have B9_o := Lib.hid ((Q.block hq (lt_of_block B8_o.out)).trans B8_o.out)
  clear B8_o
  have B9_r := Lib.hid ((Q.block hq (lt_of_block B8_r.out)).trans B8_r.out)
  clear B8_r
  have B9_a := Lib.hid ((Q.block hq (lt_of_block B8_a.out)).trans B8_a.out)
  clear B8_a
  have Q9 := Lib.hid (Q.trans Q8.out hq)
  clear Q8
  have B9_b := Lib.hid hb
  clear hb hq
  obtain ⟨k_i0, k_i1, k_i2, _, _, _⟩ := Er.block_cells B9_i.out
  obtain ⟨k_o0, k_o1, k_o2, _, _, _⟩ := Er.block_cells B9_o.out
  obtain ⟨k_r0, k_r1, k_r2, _, _, _⟩ := Er.block_cells B9_r.out
  obtain ⟨k_a0, k_a1, k_a2, _, _, _⟩ := Er.block_cells B9_a.out
  obtain ⟨k_b0, k_b1, k_b2, _, _, _⟩ := Er.block_cells B9_b.out
  go_wp2_with fail
  refine (Ep.of_sh _ _ _ _ _ _).mono ?_
  rintro e z10 ⟨rfl, hq⟩
  clear k_i0 k_i1 k_i2 k_o0 k_o1 k_o2 k_r0 k_r1 k_r2 k_a0 k_a1 k_a2 k_b0 k_b1 k_b2
  have L10_R := Lib.hid (Lst.q L9_R.out hq)
  clear L9_R
  have L10_X := Lib.hid (Lst.q L9_X.out hq)
  clear L9_X
  have L10_A := Lib.hid (Lst.q L9_A.out hq)
  clear L9_A
  have L10_Bb := Lib.hid (Lst.q L9_Bb.out hq)
  clear L9_Bb
  have B10_i := Lib.hid ((Q.block hq (lt_of_block B9_i.out)).trans B9_i.out)
  clear B9_i
  have B10_o := Lib.hid ((Q.block hq (lt_of_block B9_o.out)).trans B9_o.out)
  clear B9_o
  have B10_r := Lib.hid ((Q.block hq (lt_of_block B9_r.out)).trans B9_r.out)
  clear B9_r
  have B10_a := Lib.hid ((Q.block hq (lt_of_block B9_a.out)).trans B9_a.out)
  clear B9_a
  have B10_b := Lib.hid ((Q.block hq (lt_of_block B9_b.out)).trans B9_b.out)
  clear B9_b
  have Q10 := Lib.hid (Q.trans Q9.out hq)
  clear Q9
  clear hq
  obtain ⟨k_i0, k_i1, k_i2, _, _, _⟩ := Er.block_cells B10_i.out
  obtain ⟨k_o0, k_o1, k_o2, _, _, _⟩ := Er.block_cells B10_o.out
  obtain ⟨k_r0, k_r1, k_r2, _, _, _⟩ := Er.block_cells B10_r.out
  obtain ⟨k_a0, k_a1, k_a2, _, _, _⟩ := Er.block_cells B10_a.out
  obtain ⟨k_b0, k_b1, k_b2, _, _, _⟩ := Er.block_cells B10_b.out
  go_wp2_with fail
  refine (T5.out _ _ L10_R.out).mono ?_
  rintro e z11 ⟨a4, c4, rfl, hx, hq⟩
  clear k_i0 k_i1 k_i2 k_o0 k_o1 k_o2 k_r0 k_r1 k_r2 k_a0 k_a1 k_a2 k_b0 k_b1 k_b2
  have L11_R := Lib.hid (Lst.q L10_R.out hq)
  clear L10_R
  have L11_X := Lib.hid (Lst.q L10_X.out hq)
  clear L10_X
  have L11_A := Lib.hid (Lst.q L10_A.out hq)
  clear L10_A
  have L11_Bb := Lib.hid (Lst.q L10_Bb.out hq)
  clear L10_Bb
  have B11_i := Lib.hid ((Q.block hq (lt_of_block B10_i.out)).trans B10_i.out)
  clear B10_i
  have B11_o := Lib.hid ((Q.block hq (lt_of_block B10_o.out)).trans B10_o.out)
  clear B10_o
  have B11_r := Lib.hid ((Q.block hq (lt_of_block B10_r.out)).trans B10_r.out)
  clear B10_r
  have B11_a := Lib.hid ((Q.block hq (lt_of_block B10_a.out)).trans B10_a.out)
  clear B10_a
  have B11_b := Lib.hid ((Q.block hq (lt_of_block B10_b.out)).trans B10_b.out)
  clear B10_b
  have Q11 := Lib.hid (Q.trans Q10.out hq)
  clear Q10
  have L11_C := Lib.hid hx
  clear hx
  clear hq
  have hq := (Q.refl z11).alloc (.cells #[.bool gr, .slice a4 rr c4, .int .i64 sr] 32)
  have hb := heap_alloc_new z11 (.cells #[.bool gr, .slice a4 rr c4, .int .i64 sr] 32)
  have L12_R := Lib.hid (Lst.q L11_R.out hq)
  clear L11_R
  have L12_X := Lib.hid (Lst.q L11_X.out hq)
  clear L11_X
  have L12_A := Lib.hid (Lst.q L11_A.out hq)
  clear L11_A
  have L12_Bb := Lib.hid (Lst.q L11_Bb.out hq)
  clear L11_Bb
  have L12_C := Lib.hid (Lst.q L11_C.out hq)
  clear L11_C
  have B12_i := Lib.hid ((Q.block hq (lt_of_block B11_i.out)).trans B11_i.out)
  clear B11_i
  have B12_o := Lib.hid ((Q.block hq (lt_of_block B11_o.out)).trans B11_o.out)
  clear B11_o
  have B12_r := Lib.hid ((Q.block hq (lt_of_block B11_r.out)).trans B11_r.out)
  clear B11_r
  have B12_a := Lib.hid ((Q.block hq (lt_of_block B11_a.out)).trans B11_a.out)
  clear B11_a
  have B12_b := Lib.hid ((Q.block hq (lt_of_block B11_b.out)).trans B11_b.out)
  clear B11_b
  have Q12 := Lib.hid (Q.trans Q11.out hq)
  clear Q11
  have B12_c := Lib.hid hb
  clear hb hq
  obtain ⟨k_i0, k_i1, k_i2, _, _, _⟩ := Er.block_cells B12_i.out
  obtain ⟨k_o0, k_o1, k_o2, _, _, _⟩ := Er.block_cells B12_o.out
  obtain ⟨k_r0, k_r1, k_r2, _, _, _⟩ := Er.block_cells B12_r.out
  obtain ⟨k_a0, k_a1, k_a2, _, _, _⟩ := Er.block_cells B12_a.out
  obtain ⟨k_b0, k_b1, k_b2, _, _, _⟩ := Er.block_cells B12_b.out
  obtain ⟨k_c0, k_c1, k_c2, _, _, _⟩ := Er.block_cells B12_c.out
  go_wp2_with fail
  refine (T6.out _ _ L12_R.out).mono ?_
  rintro e z13 ⟨a5, c5, rfl, hx, hq⟩
  clear k_i0 k_i1 k_i2 k_o0 k_o1 k_o2 k_r0 k_r1 k_r2 k_a0 k_a1 k_a2 k_b0 k_b1 k_b2 k_c0 k_c1 k_c2
  have L13_R := Lib.hid (Lst.q L12_R.out hq)
  clear L12_R
  have L13_X := Lib.hid (Lst.q L12_X.out hq)
  clear L12_X
  have L13_A := Lib.hid (Lst.q L12_A.out hq)
  clear L12_A
  have L13_Bb := Lib.hid (Lst.q L12_Bb.out hq)
  clear L12_Bb
  have L13_C := Lib.hid (Lst.q L12_C.out hq)
  clear L12_C
  have B13_i := Lib.hid ((Q.block hq (lt_of_block B12_i.out)).trans B12_i.out)
  clear B12_i
  have B13_o := Lib.hid ((Q.block hq (lt_of_block B12_o.out)).trans B12_o.out)
  clear B12_o
  have B13_r := Lib.hid ((Q.block hq (lt_of_block B12_r.out)).trans B12_r.out)
  clear B12_r
  have B13_a := Lib.hid ((Q.block hq (lt_of_block B12_a.out)).trans B12_a.out)
  clear B12_a
  have B13_b := Lib.hid ((Q.block hq (lt_of_block B12_b.out)).trans B12_b.out)
  clear B12_b
  have B13_c := Lib.hid ((Q.block hq (lt_of_block B12_c.out)).trans B12_c.out)
  clear B12_c
  have Q13 := Lib.hid (Q.trans Q12.out hq)
  clear Q12
  have L13_E := Lib.hid hx
  clear hx
  clear hq
  have hq := (Q.refl z13).alloc (.cells #[.bool gr, .slice a5 rr c5, .int .i64 sr] 24)
  have hb := heap_alloc_new z13 (.cells #[.bool gr, .slice a5 rr c5, .int .i64 sr] 24)
  have L14_R := Lib.hid (Lst.q L13_R.out hq)
  clear L13_R
  have L14_X := Lib.hid (Lst.q L13_X.out hq)
  clear L13_X
  have L14_A := Lib.hid (Lst.q L13_A.out hq)
  clear L13_A
  have L14_Bb := Lib.hid (Lst.q L13_Bb.out hq)
  clear L13_Bb
  have L14_C := Lib.hid (Lst.q L13_C.out hq)
  clear L13_C
  have L14_E := Lib.hid (Lst.q L13_E.out hq)
  clear L13_E
  have B14_i := Lib.hid ((Q.block hq (lt_of_block B13_i.out)).trans B13_i.out)
  clear B13_i
  have B14_o := Lib.hid ((Q.block hq (lt_of_block B13_o.out)).trans B13_o.out)
  clear B13_o
  have B14_r := Lib.hid ((Q.block hq (lt_of_block B13_r.out)).trans B13_r.out)
  clear B13_r
  have B14_a := Lib.hid ((Q.block hq (lt_of_block B13_a.out)).trans B13_a.out)
  clear B13_a
  have B14_b := Lib.hid ((Q.block hq (lt_of_block B13_b.out)).trans B13_b.out)
  clear B13_b
  have B14_c := Lib.hid ((Q.block hq (lt_of_block B13_c.out)).trans B13_c.out)
  clear B13_c
  have Q14 := Lib.hid (Q.trans Q13.out hq)
  clear Q13
  have B14_x := Lib.hid hb
  clear hb hq
  obtain ⟨k_i0, k_i1, k_i2, _, _, _⟩ := Er.block_cells B14_i.out
  obtain ⟨k_o0, k_o1, k_o2, _, _, _⟩ := Er.block_cells B14_o.out
  obtain ⟨k_r0, k_r1, k_r2, _, _, _⟩ := Er.block_cells B14_r.out
  obtain ⟨k_a0, k_a1, k_a2, _, _, _⟩ := Er.block_cells B14_a.out
  obtain ⟨k_b0, k_b1, k_b2, _, _, _⟩ := Er.block_cells B14_b.out
  obtain ⟨k_c0, k_c1, k_c2, _, _, _⟩ := Er.block_cells B14_c.out
  obtain ⟨k_x0, k_x1, k_x2, _, _, _⟩ := Er.block_cells B14_x.out
  go_wp2_with fail
  refine (Ep.of_sh _ _ _ _ _ _).mono ?_
  rintro e z15 ⟨rfl, hq⟩
  clear k_i0 k_i1 k_i2 k_o0 k_o1 k_o2 k_r0 k_r1 k_r2 k_a0 k_a1 k_a2 k_b0 k_b1 k_b2 k_c0 k_c1 k_c2 k_x0 k_x1 k_x2
  have L15_R := Lib.hid (Lst.q L14_R.out hq)
  clear L14_R
  have L15_X := Lib.hid (Lst.q L14_X.out hq)
  clear L14_X
  have L15_A := Lib.hid (Lst.q L14_A.out hq)
  clear L14_A
  have L15_Bb := Lib.hid (Lst.q L14_Bb.out hq)
  clear L14_Bb
  have L15_C := Lib.hid (Lst.q L14_C.out hq)
  clear L14_C
  have L15_E := Lib.hid (Lst.q L14_E.out hq)
  clear L14_E
  have B15_i := Lib.hid ((Q.block hq (lt_of_block B14_i.out)).trans B14_i.out)
  clear B14_i
  have B15_o := Lib.hid ((Q.block hq (lt_of_block B14_o.out)).trans B14_o.out)
  clear B14_o
  have B15_r := Lib.hid ((Q.block hq (lt_of_block B14_r.out)).trans B14_r.out)
  clear B14_r
  have B15_a := Lib.hid ((Q.block hq (lt_of_block B14_a.out)).trans B14_a.out)
  clear B14_a
  have B15_b := Lib.hid ((Q.block hq (lt_of_block B14_b.out)).trans B14_b.out)
  clear B14_b
  have B15_c := Lib.hid ((Q.block hq (lt_of_block B14_c.out)).trans B14_c.out)
  clear B14_c
  have B15_x := Lib.hid ((Q.block hq (lt_of_block B14_x.out)).trans B14_x.out)
  clear B14_x
  have Q15 := Lib.hid (Q.trans Q14.out hq)
  clear Q14
  clear hq
  obtain ⟨k_i0, k_i1, k_i2, _, _, _⟩ := Er.block_cells B15_i.out
  obtain ⟨k_o0, k_o1, k_o2, _, _, _⟩ := Er.block_cells B15_o.out
  obtain ⟨k_r0, k_r1, k_r2, _, _, _⟩ := Er.block_cells B15_r.out
  obtain ⟨k_a0, k_a1, k_a2, _, _, _⟩ := Er.block_cells B15_a.out
  obtain ⟨k_b0, k_b1, k_b2, _, _, _⟩ := Er.block_cells B15_b.out
  obtain ⟨k_c0, k_c1, k_c2, _, _, _⟩ := Er.block_cells B15_c.out
  obtain ⟨k_x0, k_x1, k_x2, _, _, _⟩ := Er.block_cells B15_x.out
  go_wp2_with fail
  refine (T3.out _ _ L15_X.out).mono ?_
  rintro e z16 ⟨a6, c6, rfl, hx, hq⟩
  clear k_i0 k_i1 k_i2 k_o0 k_o1 k_o2 k_r0 k_r1 k_r2 k_a0 k_a1 k_a2 k_b0 k_b1 k_b2 k_c0 k_c1 k_c2 k_x0 k_x1 k_x2
  have L16_R := Lib.hid (Lst.q L15_R.out hq)
  clear L15_R
  have L16_X := Lib.hid (Lst.q L15_X.out hq)
  clear L15_X
  have L16_A := Lib.hid (Lst.q L15_A.out hq)
  clear L15_A
  have L16_Bb := Lib.hid (Lst.q L15_Bb.out hq)
  clear L15_Bb
  have L16_C := Lib.hid (Lst.q L15_C.out hq)
  clear L15_C
  have L16_E := Lib.hid (Lst.q L15_E.out hq)
  clear L15_E
  have B16_i := Lib.hid ((Q.block hq (lt_of_block B15_i.out)).trans B15_i.out)
  clear B15_i
  have B16_o := Lib.hid ((Q.block hq (lt_of_block B15_o.out)).trans B15_o.out)
  clear B15_o
  have B16_r := Lib.hid ((Q.block hq (lt_of_block B15_r.out)).trans B15_r.out)
  clear B15_r
  have B16_a := Lib.hid ((Q.block hq (lt_of_block B15_a.out)).trans B15_a.out)
  clear B15_a
  have B16_b := Lib.hid ((Q.block hq (lt_of_block B15_b.out)).trans B15_b.out)
  clear B15_b
  have B16_c := Lib.hid ((Q.block hq (lt_of_block B15_c.out)).trans B15_c.out)
  clear B15_c
  have B16_x := Lib.hid ((Q.block hq (lt_of_block B15_x.out)).trans B15_x.out)
  clear B15_x
  have Q16 := Lib.hid (Q.trans Q15.out hq)
  clear Q15
  have L16_M := Lib.hid hx
  clear hx
  clear hq
  have hq := (Q.refl z16).alloc (.cells #[.bool gm, .slice a6 r c6, .int .i64 zs] 32)
  have hb := heap_alloc_new z16 (.cells #[.bool gm, .slice a6 r c6, .int .i64 zs] 32)
  have L17_R := Lib.hid (Lst.q L16_R.out hq)
  clear L16_R
  have L17_X := Lib.hid (Lst.q L16_X.out hq)
  clear L16_X
  have L17_A := Lib.hid (Lst.q L16_A.out hq)
  clear L16_A
  have L17_Bb := Lib.hid (Lst.q L16_Bb.out hq)
  clear L16_Bb
  have L17_C := Lib.hid (Lst.q L16_C.out hq)
  clear L16_C
  have L17_E := Lib.hid (Lst.q L16_E.out hq)
  clear L16_E
  have L17_M := Lib.hid (Lst.q L16_M.out hq)
  clear L16_M
  have B17_i := Lib.hid ((Q.block hq (lt_of_block B16_i.out)).trans B16_i.out)
  clear B16_i
  have B17_o := Lib.hid ((Q.block hq (lt_of_block B16_o.out)).trans B16_o.out)
  clear B16_o
  have B17_r := Lib.hid ((Q.block hq (lt_of_block B16_r.out)).trans B16_r.out)
  clear B16_r
  have B17_a := Lib.hid ((Q.block hq (lt_of_block B16_a.out)).trans B16_a.out)
  clear B16_a
  have B17_b := Lib.hid ((Q.block hq (lt_of_block B16_b.out)).trans B16_b.out)
  clear B16_b
  have B17_c := Lib.hid ((Q.block hq (lt_of_block B16_c.out)).trans B16_c.out)
  clear B16_c
  have B17_x := Lib.hid ((Q.block hq (lt_of_block B16_x.out)).trans B16_x.out)
  clear B16_x
  have Q17 := Lib.hid (Q.trans Q16.out hq)
  clear Q16
  have B17_m := Lib.hid hb
  clear hb hq
  obtain ⟨k_i0, k_i1, k_i2, _, _, _⟩ := Er.block_cells B17_i.out
  obtain ⟨k_o0, k_o1, k_o2, _, _, _⟩ := Er.block_cells B17_o.out
  obtain ⟨k_r0, k_r1, k_r2, _, _, _⟩ := Er.block_cells B17_r.out
  obtain ⟨k_a0, k_a1, k_a2, _, _, _⟩ := Er.block_cells B17_a.out
  obtain ⟨k_b0, k_b1, k_b2, _, _, _⟩ := Er.block_cells B17_b.out
  obtain ⟨k_c0, k_c1, k_c2, _, _, _⟩ := Er.block_cells B17_c.out
  obtain ⟨k_x0, k_x1, k_x2, _, _, _⟩ := Er.block_cells B17_x.out
  obtain ⟨k_m0, k_m1, k_m2, _, _, _⟩ := Er.block_cells B17_m.out
  go_wp2_with fail
  refine (T4.out _ _ _ L17_A.out L17_M.out).mono ?_
  rintro e z18 ⟨a7, c7, rfl, hx, hq⟩
  clear k_i0 k_i1 k_i2 k_o0 k_o1 k_o2 k_r0 k_r1 k_r2 k_a0 k_a1 k_a2 k_b0 k_b1 k_b2 k_c0 k_c1 k_c2 k_x0 k_x1 k_x2 k_m0 k_m1 k_m2
  have L18_R := Lib.hid (Lst.q L17_R.out hq)
  clear L17_R
  have L18_X := Lib.hid (Lst.q L17_X.out hq)
  clear L17_X
  have L18_A := Lib.hid (Lst.q L17_A.out hq)
  clear L17_A
  have L18_Bb := Lib.hid (Lst.q L17_Bb.out hq)
  clear L17_Bb
  have L18_C := Lib.hid (Lst.q L17_C.out hq)
  clear L17_C
  have L18_E := Lib.hid (Lst.q L17_E.out hq)
  clear L17_E
  have L18_M := Lib.hid (Lst.q L17_M.out hq)
  clear L17_M
  have B18_i := Lib.hid ((Q.block hq (lt_of_block B17_i.out)).trans B17_i.out)
  clear B17_i
  have B18_o := Lib.hid ((Q.block hq (lt_of_block B17_o.out)).trans B17_o.out)
  clear B17_o
  have B18_r := Lib.hid ((Q.block hq (lt_of_block B17_r.out)).trans B17_r.out)
  clear B17_r
  have B18_a := Lib.hid ((Q.block hq (lt_of_block B17_a.out)).trans B17_a.out)
  clear B17_a
  have B18_b := Lib.hid ((Q.block hq (lt_of_block B17_b.out)).trans B17_b.out)
  clear B17_b
  have B18_c := Lib.hid ((Q.block hq (lt_of_block B17_c.out)).trans B17_c.out)
  clear B17_c
  have B18_x := Lib.hid ((Q.block hq (lt_of_block B17_x.out)).trans B17_x.out)
  clear B17_x
  have B18_m := Lib.hid ((Q.block hq (lt_of_block B17_m.out)).trans B17_m.out)
  clear B17_m
  have Q18 := Lib.hid (Q.trans Q17.out hq)
  clear Q17
  have L18_N := Lib.hid hx
  clear hx
  clear hq
  have hq := (Q.refl z18).alloc (.cells #[.bool false, .slice a7 0 c7, .int .i64 0] 32)
  have hb := heap_alloc_new z18 (.cells #[.bool false, .slice a7 0 c7, .int .i64 0] 32)
  have L19_R := Lib.hid (Lst.q L18_R.out hq)
  clear L18_R
  have L19_X := Lib.hid (Lst.q L18_X.out hq)
  clear L18_X
  have L19_A := Lib.hid (Lst.q L18_A.out hq)
  clear L18_A
  have L19_Bb := Lib.hid (Lst.q L18_Bb.out hq)
  clear L18_Bb
  have L19_C := Lib.hid (Lst.q L18_C.out hq)
  clear L18_C
  have L19_E := Lib.hid (Lst.q L18_E.out hq)
  clear L18_E
  have L19_M := Lib.hid (Lst.q L18_M.out hq)
  clear L18_M
  have L19_N := Lib.hid (Lst.q L18_N.out hq)
  clear L18_N
  have B19_i := Lib.hid ((Q.block hq (lt_of_block B18_i.out)).trans B18_i.out)
  clear B18_i
  have B19_o := Lib.hid ((Q.block hq (lt_of_block B18_o.out)).trans B18_o.out)
  clear B18_o
  have B19_r := Lib.hid ((Q.block hq (lt_of_block B18_r.out)).trans B18_r.out)
  clear B18_r
  have B19_a := Lib.hid ((Q.block hq (lt_of_block B18_a.out)).trans B18_a.out)
  clear B18_a
  have B19_b := Lib.hid ((Q.block hq (lt_of_block B18_b.out)).trans B18_b.out)
  clear B18_b
  have B19_c := Lib.hid ((Q.block hq (lt_of_block B18_c.out)).trans B18_c.out)
  clear B18_c
  have B19_x := Lib.hid ((Q.block hq (lt_of_block B18_x.out)).trans B18_x.out)
  clear B18_x
  have B19_m := Lib.hid ((Q.block hq (lt_of_block B18_m.out)).trans B18_m.out)
  clear B18_m
  have Q19 := Lib.hid (Q.trans Q18.out hq)
  clear Q18
  have B19_n := Lib.hid hb
  clear hb hq
  obtain ⟨k_i0, k_i1, k_i2, _, _, _⟩ := Er.block_cells B19_i.out
  obtain ⟨k_o0, k_o1, k_o2, _, _, _⟩ := Er.block_cells B19_o.out
  obtain ⟨k_r0, k_r1, k_r2, _, _, _⟩ := Er.block_cells B19_r.out
  obtain ⟨k_a0, k_a1, k_a2, _, _, _⟩ := Er.block_cells B19_a.out
  obtain ⟨k_b0, k_b1, k_b2, _, _, _⟩ := Er.block_cells B19_b.out
  obtain ⟨k_c0, k_c1, k_c2, _, _, _⟩ := Er.block_cells B19_c.out
  obtain ⟨k_x0, k_x1, k_x2, _, _, _⟩ := Er.block_cells B19_x.out
  obtain ⟨k_m0, k_m1, k_m2, _, _, _⟩ := Er.block_cells B19_m.out
  obtain ⟨k_n0, k_n1, k_n2, _, _, _⟩ := Er.block_cells B19_n.out
  go_wp2_with fail
  have SQr := Lib.hid (fun u u' (k : Ep.SB5 ((z18.alloc (.cells #[.bool false, .slice a7 0 c7, .int .i64 0] 32))) (z6.heap.size) ga (.slice a2 r c2) (zs) (z8.heap.size) ga (.slice a3 r c3) (zs) (z11.heap.size) gr (.slice a4 rr c4) (sr) (z13.heap.size) gr (.slice a5 rr c5) (sr) (z18.heap.size) false (.slice a7 0 c7) (0) u) (q : Q u u') => (Ep.SB5.of B19_a.out B19_b.out B19_c.out B19_x.out B19_n.out (k.here.trans q) : Ep.SB5 ((z18.alloc (.cells #[.bool false, .slice a7 0 c7, .int .i64 0] 32))) (z6.heap.size) ga (.slice a2 r c2) (zs) (z8.heap.size) ga (.slice a3 r c3) (zs) (z11.heap.size) gr (.slice a4 rr c4) (sr) (z13.heap.size) gr (.slice a5 rr c5) (sr) (z18.heap.size) false (.slice a7 0 c7) (0) u'))
  have Kasr := Lib.hid (fun u g a n c s (k : Ep.SB5 ((z18.alloc (.cells #[.bool false, .slice a7 0 c7, .int .i64 0] 32))) (z6.heap.size) ga (.slice a2 r c2) (zs) (z8.heap.size) ga (.slice a3 r c3) (zs) (z11.heap.size) gr (.slice a4 rr c4) (sr) (z13.heap.size) gr (.slice a5 rr c5) (sr) (z18.heap.size) false (.slice a7 0 c7) (0) u) => (by
    refine (Ep.as_sh u g a n c s).mono ?_
    rintro e w' ⟨rfl, hq⟩
    exact ⟨rfl, SQr.out _ _ k hq, fun v zs hl => hl.q hq⟩ : Calls Try.prog 19 #[.agg #[.bool g, .slice a n c, .int .i64 s]] u fun e w' => e = .returned (.agg #[.bool g, .slice a n c, .int .i64 s]) ∧ Ep.SB5 ((z18.alloc (.cells #[.bool false, .slice a7 0 c7, .int .i64 0] 32))) (z6.heap.size) ga (.slice a2 r c2) (zs) (z8.heap.size) ga (.slice a3 r c3) (zs) (z11.heap.size) gr (.slice a4 rr c4) (sr) (z13.heap.size) gr (.slice a5 rr c5) (sr) (z18.heap.size) false (.slice a7 0 c7) (0) w' ∧ ∀ v zs, Lst u v zs → Lst w' v zs))
  have KAr := Lib.hid (fun u  (k : Ep.SB5 ((z18.alloc (.cells #[.bool false, .slice a7 0 c7, .int .i64 0] 32))) (z6.heap.size) ga (.slice a2 r c2) (zs) (z8.heap.size) ga (.slice a3 r c3) (zs) (z11.heap.size) gr (.slice a4 rr c4) (sr) (z13.heap.size) gr (.slice a5 rr c5) (sr) (z18.heap.size) false (.slice a7 0 c7) (0) u) => (by
    refine (Ep.same_sh u ga a2 a3 r c2 c3 (zs : Int) Z (L19_A.out.q k.here) (L19_Bb.out.q k.here) (by have := HZ.out; omega)).mono ?_
    rintro e w' ⟨rfl, hq⟩
    exact ⟨rfl, SQr.out _ _ k hq, fun v zs hl => hl.q hq⟩ : Calls Try.prog 18 #[.agg #[.bool ga, .slice a2 r c2, .int .i64 zs], .agg #[.bool ga, .slice a3 r c3, .int .i64 zs]] u fun e w' => e = .returned (.bool true) ∧ Ep.SB5 ((z18.alloc (.cells #[.bool false, .slice a7 0 c7, .int .i64 0] 32))) (z6.heap.size) ga (.slice a2 r c2) (zs) (z8.heap.size) ga (.slice a3 r c3) (zs) (z11.heap.size) gr (.slice a4 rr c4) (sr) (z13.heap.size) gr (.slice a5 rr c5) (sr) (z18.heap.size) false (.slice a7 0 c7) (0) w' ∧ ∀ v zs, Lst u v zs → Lst w' v zs))
  have KBr := Lib.hid (fun u  (k : Ep.SB5 ((z18.alloc (.cells #[.bool false, .slice a7 0 c7, .int .i64 0] 32))) (z6.heap.size) ga (.slice a2 r c2) (zs) (z8.heap.size) ga (.slice a3 r c3) (zs) (z11.heap.size) gr (.slice a4 rr c4) (sr) (z13.heap.size) gr (.slice a5 rr c5) (sr) (z18.heap.size) false (.slice a7 0 c7) (0) u) => (by
    refine (Ep.same_sh u gr a4 a5 rr c4 c5 sr ZR (L19_C.out.q k.here) (L19_E.out.q k.here) (by have := HZR.out; omega)).mono ?_
    rintro e w' ⟨rfl, hq⟩
    exact ⟨rfl, SQr.out _ _ k hq, fun v zs hl => hl.q hq⟩ : Calls Try.prog 18 #[.agg #[.bool gr, .slice a4 rr c4, .int .i64 sr], .agg #[.bool gr, .slice a5 rr c5, .int .i64 sr]] u fun e w' => e = .returned (.bool true) ∧ Ep.SB5 ((z18.alloc (.cells #[.bool false, .slice a7 0 c7, .int .i64 0] 32))) (z6.heap.size) ga (.slice a2 r c2) (zs) (z8.heap.size) ga (.slice a3 r c3) (zs) (z11.heap.size) gr (.slice a4 rr c4) (sr) (z13.heap.size) gr (.slice a5 rr c5) (sr) (z18.heap.size) false (.slice a7 0 c7) (0) w' ∧ ∀ v zs, Lst u v zs → Lst w' v zs))
  have KLr := Lib.hid (fun u  (k : Ep.SB5 ((z18.alloc (.cells #[.bool false, .slice a7 0 c7, .int .i64 0] 32))) (z6.heap.size) ga (.slice a2 r c2) (zs) (z8.heap.size) ga (.slice a3 r c3) (zs) (z11.heap.size) gr (.slice a4 rr c4) (sr) (z13.heap.size) gr (.slice a5 rr c5) (sr) (z18.heap.size) false (.slice a7 0 c7) (0) u) => (by
    refine (LV.out u).mono ?_
    rintro e w' ⟨rfl, hq⟩
    exact ⟨rfl, SQr.out _ _ k hq, fun v zs hl => hl.q hq⟩ : Calls Try.prog 13 #[] u fun e w' => e = .returned (.bool true) ∧ Ep.SB5 ((z18.alloc (.cells #[.bool false, .slice a7 0 c7, .int .i64 0] 32))) (z6.heap.size) ga (.slice a2 r c2) (zs) (z8.heap.size) ga (.slice a3 r c3) (zs) (z11.heap.size) gr (.slice a4 rr c4) (sr) (z13.heap.size) gr (.slice a5 rr c5) (sr) (z18.heap.size) false (.slice a7 0 c7) (0) w' ∧ ∀ v zs, Lst u v zs → Lst w' v zs))
  have hst0 := Ep.SB5.of B19_a.out B19_b.out B19_c.out B19_x.out B19_n.out (Q.refl _)
  have hst := Ep.SB5.of B19_a.out B19_b.out B19_c.out B19_x.out B19_n.out ((Q.refl (z18.alloc (.cells #[.bool false, .slice a7 0 c7, .int .i64 0] 32))).drew)
  unfold Ep.SB5 at hst hst0
  go_region_held3 (fun u => u.cell? ⟨z6.heap.size, 0, none⟩ = some (.bool ga) ∧ (u.cell? ⟨z6.heap.size, 1, none⟩ = some (.slice a2 r c2) ∧ (u.cell? ⟨z6.heap.size, 2, none⟩ = some (.int .i64 zs) ∧ (u.cell? ⟨z8.heap.size, 0, none⟩ = some (.bool ga) ∧ (u.cell? ⟨z8.heap.size, 1, none⟩ = some (.slice a3 r c3) ∧ (u.cell? ⟨z8.heap.size, 2, none⟩ = some (.int .i64 zs) ∧ (u.cell? ⟨z11.heap.size, 0, none⟩ = some (.bool gr) ∧ (u.cell? ⟨z11.heap.size, 1, none⟩ = some (.slice a4 rr c4) ∧ (u.cell? ⟨z11.heap.size, 2, none⟩ = some (.int .i64 sr) ∧ (u.cell? ⟨z13.heap.size, 0, none⟩ = some (.bool gr) ∧ (u.cell? ⟨z13.heap.size, 1, none⟩ = some (.slice a5 rr c5) ∧ (u.cell? ⟨z13.heap.size, 2, none⟩ = some (.int .i64 sr) ∧ (u.cell? ⟨z18.heap.size, 0, none⟩ = some (.bool false) ∧ (u.cell? ⟨z18.heap.size, 1, none⟩ = some (.slice a7 0 c7) ∧ (u.cell? ⟨z18.heap.size, 2, none⟩ = some (.int .i64 0) ∧ (Q (z18.alloc (.cells #[.bool false, .slice a7 0 c7, .int .i64 0] 32)) u)))))))))))))))) (first | exact hst | exact hst0 | assumption) (first | ((go_at_call 19); refine (Kasr.out _ _ _ _ _ _ ?_).mono ?_; assumption; rintro e yr ⟨rfl, hS, hcar⟩; unfold Ep.SB5 at hS; skip) | ((go_at_call_of 18 (Value.slice a2 r c2)); refine (KAr.out _  ?_).mono ?_; assumption; rintro e yr ⟨rfl, hS, hcar⟩; unfold Ep.SB5 at hS; skip) | ((go_at_call_of 18 (Value.slice a4 rr c4)); refine (KBr.out _  ?_).mono ?_; assumption; rintro e yr ⟨rfl, hS, hcar⟩; unfold Ep.SB5 at hS; skip) | ((go_at_call 13); refine (KLr.out _  ?_).mono ?_; assumption; rintro e yr ⟨rfl, hS, hcar⟩; unfold Ep.SB5 at hS; skip))
  clear k_i0 k_i1 k_i2 k_o0 k_o1 k_o2 k_r0 k_r1 k_r2 k_a0 k_a1 k_a2 k_b0 k_b1 k_b2 k_c0 k_c1 k_c2 k_x0 k_x1 k_x2 k_m0 k_m1 k_m2 k_n0 k_n1 k_n2
  have hqr : Q (z18.alloc (.cells #[.bool false, .slice a7 0 c7, .int .i64 0] 32)) _ := (show Ep.SB5 ((z18.alloc (.cells #[.bool false, .slice a7 0 c7, .int .i64 0] 32))) (z6.heap.size) ga (.slice a2 r c2) (zs) (z8.heap.size) ga (.slice a3 r c3) (zs) (z11.heap.size) gr (.slice a4 rr c4) (sr) (z13.heap.size) gr (.slice a5 rr c5) (sr) (z18.heap.size) false (.slice a7 0 c7) (0) _ from hS).here
  clear hst hst0 hS hcar
  have HQE := Lib.hid (Q19.out.trans hqr)
  clear hqr
  go_wp2_with fail
  go_ret
  exact ⟨rfl, HQE.out⟩

set_option maxRecDepth 100000 in
theorem lifted (os : Os) (started : os.Started) (H : Type) (enc : TypeId × Value → H) :
    ReturnsInHanded {} Try.checked os 8 .any (Rows.decimalTimesSpec.pre6 enc Try.prog Try.f8 Rows.decimalTimesRow.domain false) (Rows.decimalTimesSpec.post enc Try.prog Try.f8 false true false false) := by
  refine returnsInHanded_of_change (C := Try.checked) own started (by kernel_rfl) Try.func8
    (ChangeSpec.witness6 (enc := enc) (C := Try.checked) false ⟨#[], #[.agg #[.bool false, .slice none 0 0, .int .i64 0], .int .i64 0], []⟩ 8 (by kernel_rfl) (by kernel_rfl) (by kernel_rfl) (by kernel_rfl)) ?_
  intro W base args ds gs before hval0 hW hcnd _
  have hval : ∀ (j : Nat) t v, Try.f8.params[j]? = some t → args[j]? = some v → Value.okWide Try.prog W .any base t v := hval0
  have hW' := hW
  obtain ⟨p, q, hA0, hV, rfl, hfz, hnd⟩ := hW
  have hA : DataW.TrodAll enc Try.prog W 0 (fun _ => true) true Try.f8.params.toList args.toList ds p := hA0
  rw [Try.params8] at hA hval
  obtain ⟨v0, vs0, d0, ds0, p0, q0, hargs, rfl, rfl, h0, r0⟩ := trodAll_cons hA
  obtain ⟨v1, vs1, d1, ds1, p1, q1, rfl, rfl, rfl, h1, r1⟩ := trodAll_cons r0
  obtain ⟨rfl, rfl, rfl⟩ := trodAll_nil r1
  obtain rfl : args = #[v0, v1] := by cases args; simp_all
  obtain ⟨rfl, rfl⟩ := trodVars_none hV
  have k0 := h0
  have lt0 : ∀ x ∈ p0, x.block < W.heap.size := by obtain ⟨m, hm⟩ := k0; exact DataW.trod_lt m _ _ _ hm
  obtain ⟨c00, c01, c02, y00, y01, y02, m0, rfl, _, _, hy00, hy01, hy02⟩ := Joins.open_agg3 Try.underlying24 (by kernel_rfl) (by kernel_rfl) (hval 0 24 v0 rfl rfl) h0
  obtain ⟨g0, rfl⟩ : ∃ b, c00 = .bool b := by
    obtain ⟨b, h, _⟩ := DataW.trod_bool Try.underlying4 hy00
    exact ⟨b, by simpa using h⟩
  obtain ⟨s0, rfl, ws0⟩ : ∃ n, c02 = .int .i64 n ∧ (Lit.int .i64 n).wf = true := by
    obtain ⟨n, h, _, hw⟩ := DataW.trod_int Try.underlying3 hy02
    exact ⟨n, by simpa using h, hw⟩
  obtain ⟨a0, len0, cap0, z0, rfl, w0⟩ : ∃ a len cap zs, c01 = .slice a len cap ∧ IsRow .i64 W a len cap zs := by
    rcases open_ints Try.underlying22 Try.underlying3 (by kernel_rfl) hy01 with ⟨hcs, _⟩ | ⟨x, l, c, zs, hcs, _, hl, hm, hz, _, hcell, hwz⟩
    · exact ⟨none, 0, 0, [], by simpa using hcs, .inl ⟨rfl, rfl, rfl, rfl⟩⟩
    · exact ⟨some x, l, c, zs, by simpa using hcs, .inr ⟨_, rfl, hl, hm, by simpa using hz, hcell, hwz⟩⟩
  obtain ⟨xs0, l0, _, b0⟩ := w0.lst
  obtain ⟨a1, rfl, rfl, rfl, w1⟩ := open_int Try.underlying3 (hval 1 3 v1 rfl rfl) h1
  clear hA0 hval0
  refine (walk W g0 (.slice a0 len0 cap0) xs0 l0 b0 s0 (bounds_i64 ws0) a1 (bounds_i64 w1)).mono fun e W' ⟨he, bel⟩ => ?_
  subst he
  exact ⟨_, rfl, _, _, _, [], _, [], hW', trodAll_mk1 (shut_bool Try.underlying4 _), (trodAll_cons_mk (Below.trod laidOut (by kernel_rfl) (of_decide_eq_true (by kernel_rfl)) k0 bel lt0) (trodAll_cons_mk (shut_int Try.underlying3 w1) trodAll_mk0)), rfl, bel.below.frame _, fun h => by cases h⟩

/-- The statement. -/
theorem proved : Rows.DecimalTimesSaid :=
  OpenClaim.holds_of_wide 8 Try.f8 rfl rfl rfl rfl rfl rfl rfl ⟨rfl, rfl, rfl, rfl, rfl⟩ rfl rfl rfl rfl rfl (by kernel_rfl) Try.func8 (by kernel_rfl)
    (of_decide_eq_true (by kernel_rfl)) (by unfold Func.isWrapper; first | (rw [if_pos (by decide +kernel)]; kernel_rfl) | (rw [if_neg (by decide +kernel)]; exact ⟨rfl, rfl⟩))
    (fun os started H enc _ => lifted os started H enc)
#print axioms proved
end Go.Proofs.Ytilbefdeanhnpaa.decimalTimes
