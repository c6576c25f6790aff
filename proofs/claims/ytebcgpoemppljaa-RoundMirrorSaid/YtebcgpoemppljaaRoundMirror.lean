/- RoundMirror: of whatever decimal (its first 12 numbers made digits, its scale made 0 to 9), a scale (made 0 to 9) and a mode (made one) a number below 0 is rounded as that above it, Floor and Ceil exchanged; no conditions. -/
import Derived.Test.YtebcgpoemppljaaRows
import Derived.WalkKit
import Derived.ProofKit
import Derived.OpenShut
import Derived.ShutString
import Derived.ChangeOld
import Derived.Below
import Derived.Lib.SmallJoins
import Derived.Test.YtebcgpoemppljaaInts
import Derived.Test.YtebcgpoemppljaaUtfM
import Derived.Test.YtebcgpoemppljaaUtfG
import Derived.Test.YtebcgpoemppljaaUtfR
import Derived.Test.YtebcgpoemppljaaDigM
import Derived.Test.YtebcgpoemppljaaDigL
import Derived.Test.YtebcgpoemppljaaDigR
import Derived.Test.YtebcgpoemppljaaDecM
import Derived.Test.YtebcgpoemppljaaDecR
import Derived.Test.YtebcgpoemppljaaDecS
import Derived.Test.YtebcgpoemppljaaDecC
import Derived.Test.YtebcgpoemppljaaDecZ
import Derived.Test.YtebcgpoemppljaaDecY
import Derived.Test.YtebcgpoemppljaaRndM
import Derived.Test.YtebcgpoemppljaaRndN
import Derived.Test.YtebcgpoemppljaaRndU
import Derived.Test.YtebcgpoemppljaaRndP
import Derived.Test.YtebcgpoemppljaaRndZ
import Derived.Test.YtebcgpoemppljaaRndT
set_option linter.unusedVariables false
set_option linter.unusedSimpArgs false
namespace Go.Proofs.Ytebcgpoemppljaa.roundMirror
open Go.ChangeShapes Go.WideShapes Go.ChangeAt Go.RowKit
open Go.ChangeMaps (open_string shut_string)

theorem own : ownKnob Try.prog.godebug = none := by kernel_rfl
theorem laidOut : laidOutB Try.prog = true := by kernel_rfl


set_option maxHeartbeats 8000000 in
set_option maxRecDepth 100000 in
theorem walk (w : World) (g0 : Bool) (v0 : Value) (xs0 : List Int) (w0 : Lst w v0 xs0) (b0 : ∀ n ∈ xs0, -9223372036854775808 ≤ n ∧ n ≤ 9223372036854775807) (s0 : Int) (ws0 : -9223372036854775808 ≤ s0 ∧ s0 ≤ 9223372036854775807) (a1 : Int) (w1 : -9223372036854775808 ≤ a1 ∧ a1 ≤ 9223372036854775807) (a2 : Int) (w2 : -9223372036854775808 ≤ a2 ∧ a2 ≤ 9223372036854775807) :
    Calls Try.prog 7 #[.agg #[.bool g0, v0, .int .i64 s0], .int .i64 a1, .int .i64 a2] w fun e w' => e = .returned (.bool true) ∧ Q w w' := by
  obtain ⟨A0, C0, rfl, _, _⟩ := w0.shape2
  have hgl0 := Dm.gdL_len xs0 12
  have kX0 := Dm.gdL_ok xs0 12
  have hab0 := Um.around_bd s0 10 (by omega)
  obtain ⟨t0, ht0⟩ : ∃ t : Nat, Um.around s0 10 = (t : Int) := ⟨(Um.around s0 10).toNat, by omega⟩
  rw [ht0] at hab0
  have hs0 : t0 ≤ 9 := by omega
  obtain ⟨p0, hp0⟩ : ∃ p, (Dm.gdL xs0 12).length = p := ⟨_, rfl⟩
  have hpm0 : p0 ≤ 12 := by omega
  have G0 := Lib.hid (fun u (q : Q w u) => Ep.good_sh u g0 A0 xs0.length C0 s0 xs0 12 (w0.q q) rfl ws0 (by omega) b0 t0 p0 ht0 hp0)
  generalize Dm.gdL xs0 12 = X0 at *
  generalize hn0 : xs0.length = n0 at *
  have HP0 := Lib.hid hp0
  clear hgl0 hab0 ht0 hp0
  have A1 := fun w => Ur.around_any a1 10 w w1.1 w1.2 (by omega) (by omega)
  have hab1 := Um.around_bd a1 10 (by omega)
  obtain ⟨n, hn⟩ : ∃ t : Nat, Um.around a1 10 = (t : Int) := ⟨(Um.around a1 10).toNat, by omega⟩
  rw [hn] at A1 hab1
  have nlt : n < 10 := by omega
  have AR1 := Lib.hid A1
  clear A1 hab1 hn
  have A2 := fun w => Ur.around_any a2 7 w w2.1 w2.2 (by omega) (by omega)
  have hab2 := Um.around_bd a2 7 (by omega)
  generalize Um.around a2 7 = m at *
  have AR2 := Lib.hid A2
  clear A2
  have hp0 := HP0.out
  obtain ⟨k, hk⟩ : ∃ k : Int, (m = 2 ∧ k = 3) ∨ (m = 3 ∧ k = 2) ∨ (m ≠ 2 ∧ m ≠ 3 ∧ k = m) := by
    by_cases h2 : m = 2
    · exact ⟨3, .inl ⟨h2, rfl⟩⟩
    · by_cases h3 : m = 3
      · exact ⟨2, .inr (.inl ⟨h3, rfl⟩)⟩
      · exact ⟨m, .inr (.inr ⟨h2, h3, rfl⟩)⟩
  have P0 := Rl.to_prog g0 t0 n m X0 (by omega) kX0 (by omega) (by omega) (by omega)
  have P1 := Rl.to_prog (!g0) t0 n k X0 (by omega) kX0 (by omega) (by omega) (by omega)
  rw [Rm.rk_mirror g0 _ _ n m k hk] at P1
  have zl0 := Rl.rk_len g0 t0 n m X0 (by omega) kX0 (by omega)
  unfold Rl.R3 at P0 P1
  generalize Rm.rk g0 (Dm.st (Dm.num X0) t0).1 (Dm.st (Dm.num X0) t0).2 n m = R0 at *
  have hsg : (Dm.dg R0).length = 0 ∨ ((Dm.dg R0).length ≠ 0 ∧ ((Dm.cg g0 R0 = true ∧ Dm.cg (!g0) R0 = false) ∨ (Dm.cg g0 R0 = false ∧ Dm.cg (!g0) R0 = true))) := by
    by_cases h0 : R0 = 0
    · rw [h0, Dm.dg_zero]; exact .inl rfl
    · refine .inr ⟨fun h => h0 ((Dm.dg_nil R0).1 (List.length_eq_zero_iff.1 h)), ?_⟩
      rw [Dm.cg_pos h0, Dm.cg_pos h0]
      cases g0
      · exact .inr ⟨rfl, rfl⟩
      · exact .inl ⟨rfl, rfl⟩
  have SM := fun u x y h1 h2 => Rl.live_same u x y (Dm.dg R0) h1 h2
  generalize Dm.cg g0 R0 = c0 at *
  generalize Dm.cg (!g0) R0 = c1 at *
  generalize Dm.dg R0 = Z0 at *
  obtain ⟨r0, hr0⟩ : ∃ r, Z0.length = r := ⟨_, rfl⟩
  simp only [hr0] at P0 P1 hsg
  obtain ⟨ng, hng⟩ : ∃ ng, (!g0) = ng := ⟨_, rfl⟩
  simp only [hng] at P1
  have HNG := Lib.hid hng
  have PP0 := Lib.hid P0
  have PP1 := Lib.hid P1
  have HSM := Lib.hid (fun u x y h1 h2 => SM u x y h1 h2 (by omega))
  have HSG := Lib.hid hsg
  have LV := Lib.hid Rl.lives_any
  clear P0 P1 SM hsg hng hr0 zl0 hp0 w0 b0 kX0 hn0
  go_enter Try.func7, Try.ntmps7
  have Q0 := Lib.hid (show Q w (w.alloc (.cells #[.bool g0, .slice A0 n0 C0, .int .i64 s0] 24)) from ((Q.refl w).alloc (.cells #[.bool g0, .slice A0 n0 C0, .int .i64 s0] 24)))
  have B0_i0 := Lib.hid (show (w.alloc (.cells #[.bool g0, .slice A0 n0 C0, .int .i64 s0] 24)).heap[w.heap.size]? = some (.cells #[.bool g0, .slice A0 n0 C0, .int .i64 s0] 24) from by exact heap_alloc_new _ _)
  obtain ⟨k_i00, k_i01, k_i02, _, _, _⟩ := Er.block_cells B0_i0.out
  go_wp2_with fail
  refine (G0.out _ Q0.out).mono ?_
  rintro e z1 ⟨a1, c1x, rfl, hx, hq⟩
  clear k_i00 k_i01 k_i02
  have B1_i0 := Lib.hid ((Q.block hq (lt_of_block B0_i0.out)).trans B0_i0.out)
  clear B0_i0
  have Q1 := Lib.hid (Q.trans Q0.out hq)
  clear Q0
  have L1_X0 := Lib.hid hx
  clear hx
  clear hq
  have hq := (Q.refl z1).alloc (.cells #[.bool g0, .slice a1 p0 c1x, .int .i64 t0] 24)
  have hb := heap_alloc_new z1 (.cells #[.bool g0, .slice a1 p0 c1x, .int .i64 t0] 24)
  have L2_X0 := Lib.hid (Lst.q L1_X0.out hq)
  clear L1_X0
  have B2_i0 := Lib.hid ((Q.block hq (lt_of_block B1_i0.out)).trans B1_i0.out)
  clear B1_i0
  have Q2 := Lib.hid (Q.trans Q1.out hq)
  clear Q1
  have B2_x := Lib.hid hb
  clear hb hq
  obtain ⟨k_i00, k_i01, k_i02, _, _, _⟩ := Er.block_cells B2_i0.out
  obtain ⟨k_x0, k_x1, k_x2, _, _, _⟩ := Er.block_cells B2_x.out
  go_wp2_with fail
  refine (AR1.out _).mono ?_
  rintro e y ⟨rfl, rfl⟩
  clear k_i00 k_i01 k_i02 k_x0 k_x1 k_x2
  obtain ⟨k_i00, k_i01, k_i02, _, _, _⟩ := Er.block_cells B2_i0.out
  obtain ⟨k_x0, k_x1, k_x2, _, _, _⟩ := Er.block_cells B2_x.out
  go_wp2_with fail
  refine (AR2.out _).mono ?_
  rintro e y ⟨rfl, rfl⟩
  clear k_i00 k_i01 k_i02 k_x0 k_x1 k_x2
  rcases hk with ⟨rfl, rfl⟩ | ⟨rfl, rfl⟩ | ⟨hm2, hm3, rfl⟩
  · obtain ⟨k_i00, k_i01, k_i02, _, _, _⟩ := Er.block_cells B2_i0.out
    obtain ⟨k_x0, k_x1, k_x2, _, _, _⟩ := Er.block_cells B2_x.out
    go_wp2_with fail
    refine (Rl.of_sh _ _ _ _ _ _).mono ?_
    rintro e z3 ⟨rfl, hq⟩
    clear k_i00 k_i01 k_i02 k_x0 k_x1 k_x2
    have L3_X0 := Lib.hid (Lst.q L2_X0.out hq)
    clear L2_X0
    have B3_i0 := Lib.hid ((Q.block hq (lt_of_block B2_i0.out)).trans B2_i0.out)
    clear B2_i0
    have B3_x := Lib.hid ((Q.block hq (lt_of_block B2_x.out)).trans B2_x.out)
    clear B2_x
    have Q3 := Lib.hid (Q.trans Q2.out hq)
    clear Q2
    clear hq
    obtain ⟨k_i00, k_i01, k_i02, _, _, _⟩ := Er.block_cells B3_i0.out
    obtain ⟨k_x0, k_x1, k_x2, _, _, _⟩ := Er.block_cells B3_x.out
    go_wp2_with fail
    refine (PP0.out _ _ L3_X0.out).mono ?_
    rintro e z4 ⟨a3, c3x, rfl, hx, hq⟩
    clear k_i00 k_i01 k_i02 k_x0 k_x1 k_x2
    have L4_X0 := Lib.hid (Lst.q L3_X0.out hq)
    clear L3_X0
    have B4_i0 := Lib.hid ((Q.block hq (lt_of_block B3_i0.out)).trans B3_i0.out)
    clear B3_i0
    have B4_x := Lib.hid ((Q.block hq (lt_of_block B3_x.out)).trans B3_x.out)
    clear B3_x
    have Q4 := Lib.hid (Q.trans Q3.out hq)
    clear Q3
    have L4_Z0 := Lib.hid hx.lst
    clear hx
    clear hq
    have hq := (Q.refl z4).alloc (.cells #[.bool c0, .slice a3 r0 c3x, .int .i64 n] 27)
    have hb := heap_alloc_new z4 (.cells #[.bool c0, .slice a3 r0 c3x, .int .i64 n] 27)
    have L5_X0 := Lib.hid (Lst.q L4_X0.out hq)
    clear L4_X0
    have L5_Z0 := Lib.hid (Lst.q L4_Z0.out hq)
    clear L4_Z0
    have B5_i0 := Lib.hid ((Q.block hq (lt_of_block B4_i0.out)).trans B4_i0.out)
    clear B4_i0
    have B5_x := Lib.hid ((Q.block hq (lt_of_block B4_x.out)).trans B4_x.out)
    clear B4_x
    have Q5 := Lib.hid (Q.trans Q4.out hq)
    clear Q4
    have B5_p := Lib.hid hb
    clear hb hq
    obtain ⟨k_i00, k_i01, k_i02, _, _, _⟩ := Er.block_cells B5_i0.out
    obtain ⟨k_x0, k_x1, k_x2, _, _, _⟩ := Er.block_cells B5_x.out
    obtain ⟨k_p0, k_p1, k_p2, _, _, _⟩ := Er.block_cells B5_p.out
    go_wp2_with fail
    refine (Rr.minus_sh _ _ _ HNG.out _ _ _ _).mono ?_
    rintro e z6 ⟨rfl, hq⟩
    clear k_i00 k_i01 k_i02 k_x0 k_x1 k_x2 k_p0 k_p1 k_p2
    have L6_X0 := Lib.hid (Lst.q L5_X0.out hq)
    clear L5_X0
    have L6_Z0 := Lib.hid (Lst.q L5_Z0.out hq)
    clear L5_Z0
    have B6_i0 := Lib.hid ((Q.block hq (lt_of_block B5_i0.out)).trans B5_i0.out)
    clear B5_i0
    have B6_x := Lib.hid ((Q.block hq (lt_of_block B5_x.out)).trans B5_x.out)
    clear B5_x
    have B6_p := Lib.hid ((Q.block hq (lt_of_block B5_p.out)).trans B5_p.out)
    clear B5_p
    have Q6 := Lib.hid (Q.trans Q5.out hq)
    clear Q5
    clear hq
    obtain ⟨k_i00, k_i01, k_i02, _, _, _⟩ := Er.block_cells B6_i0.out
    obtain ⟨k_x0, k_x1, k_x2, _, _, _⟩ := Er.block_cells B6_x.out
    obtain ⟨k_p0, k_p1, k_p2, _, _, _⟩ := Er.block_cells B6_p.out
    go_wp2_with fail
    refine (Rl.of_sh _ _ _ _ _ _).mono ?_
    rintro e z7 ⟨rfl, hq⟩
    clear k_i00 k_i01 k_i02 k_x0 k_x1 k_x2 k_p0 k_p1 k_p2
    have L7_X0 := Lib.hid (Lst.q L6_X0.out hq)
    clear L6_X0
    have L7_Z0 := Lib.hid (Lst.q L6_Z0.out hq)
    clear L6_Z0
    have B7_i0 := Lib.hid ((Q.block hq (lt_of_block B6_i0.out)).trans B6_i0.out)
    clear B6_i0
    have B7_x := Lib.hid ((Q.block hq (lt_of_block B6_x.out)).trans B6_x.out)
    clear B6_x
    have B7_p := Lib.hid ((Q.block hq (lt_of_block B6_p.out)).trans B6_p.out)
    clear B6_p
    have Q7 := Lib.hid (Q.trans Q6.out hq)
    clear Q6
    clear hq
    obtain ⟨k_i00, k_i01, k_i02, _, _, _⟩ := Er.block_cells B7_i0.out
    obtain ⟨k_x0, k_x1, k_x2, _, _, _⟩ := Er.block_cells B7_x.out
    obtain ⟨k_p0, k_p1, k_p2, _, _, _⟩ := Er.block_cells B7_p.out
    go_wp2_with fail
    refine (PP1.out _ _ L7_X0.out).mono ?_
    rintro e z8 ⟨a4, c4x, rfl, hx, hq⟩
    clear k_i00 k_i01 k_i02 k_x0 k_x1 k_x2 k_p0 k_p1 k_p2
    have L8_X0 := Lib.hid (Lst.q L7_X0.out hq)
    clear L7_X0
    have L8_Z0 := Lib.hid (Lst.q L7_Z0.out hq)
    clear L7_Z0
    have B8_i0 := Lib.hid ((Q.block hq (lt_of_block B7_i0.out)).trans B7_i0.out)
    clear B7_i0
    have B8_x := Lib.hid ((Q.block hq (lt_of_block B7_x.out)).trans B7_x.out)
    clear B7_x
    have B8_p := Lib.hid ((Q.block hq (lt_of_block B7_p.out)).trans B7_p.out)
    clear B7_p
    have Q8 := Lib.hid (Q.trans Q7.out hq)
    clear Q7
    have L8_Z1 := Lib.hid hx.lst
    clear hx
    clear hq
    have hq := (Q.refl z8).alloc (.cells #[.bool c1, .slice a4 r0 c4x, .int .i64 n] 27)
    have hb := heap_alloc_new z8 (.cells #[.bool c1, .slice a4 r0 c4x, .int .i64 n] 27)
    have L9_X0 := Lib.hid (Lst.q L8_X0.out hq)
    clear L8_X0
    have L9_Z0 := Lib.hid (Lst.q L8_Z0.out hq)
    clear L8_Z0
    have L9_Z1 := Lib.hid (Lst.q L8_Z1.out hq)
    clear L8_Z1
    have B9_i0 := Lib.hid ((Q.block hq (lt_of_block B8_i0.out)).trans B8_i0.out)
    clear B8_i0
    have B9_x := Lib.hid ((Q.block hq (lt_of_block B8_x.out)).trans B8_x.out)
    clear B8_x
    have B9_p := Lib.hid ((Q.block hq (lt_of_block B8_p.out)).trans B8_p.out)
    clear B8_p
    have Q9 := Lib.hid (Q.trans Q8.out hq)
    clear Q8
    have B9_q := Lib.hid hb
    clear hb hq
    obtain ⟨k_i00, k_i01, k_i02, _, _, _⟩ := Er.block_cells B9_i0.out
    obtain ⟨k_x0, k_x1, k_x2, _, _, _⟩ := Er.block_cells B9_x.out
    obtain ⟨k_p0, k_p1, k_p2, _, _, _⟩ := Er.block_cells B9_p.out
    obtain ⟨k_q0, k_q1, k_q2, _, _, _⟩ := Er.block_cells B9_q.out
    go_wp2_with fail
    refine (HSM.out _ _ _ L9_Z0.out L9_Z1.out).mono ?_
    rintro e z10 ⟨rfl, hq⟩
    clear k_i00 k_i01 k_i02 k_x0 k_x1 k_x2 k_p0 k_p1 k_p2 k_q0 k_q1 k_q2
    have L10_X0 := Lib.hid (Lst.q L9_X0.out hq)
    clear L9_X0
    have L10_Z0 := Lib.hid (Lst.q L9_Z0.out hq)
    clear L9_Z0
    have L10_Z1 := Lib.hid (Lst.q L9_Z1.out hq)
    clear L9_Z1
    have B10_i0 := Lib.hid ((Q.block hq (lt_of_block B9_i0.out)).trans B9_i0.out)
    clear B9_i0
    have B10_x := Lib.hid ((Q.block hq (lt_of_block B9_x.out)).trans B9_x.out)
    clear B9_x
    have B10_p := Lib.hid ((Q.block hq (lt_of_block B9_p.out)).trans B9_p.out)
    clear B9_p
    have B10_q := Lib.hid ((Q.block hq (lt_of_block B9_q.out)).trans B9_q.out)
    clear B9_q
    have Q10 := Lib.hid (Q.trans Q9.out hq)
    clear Q9
    clear hq
    rcases HSG.out with rfl | ⟨hr, ⟨rfl, rfl⟩ | ⟨rfl, rfl⟩⟩
    · obtain ⟨k_i00, k_i01, k_i02, _, _, _⟩ := Er.block_cells B10_i0.out
      obtain ⟨k_x0, k_x1, k_x2, _, _, _⟩ := Er.block_cells B10_x.out
      obtain ⟨k_p0, k_p1, k_p2, _, _, _⟩ := Er.block_cells B10_p.out
      obtain ⟨k_q0, k_q1, k_q2, _, _, _⟩ := Er.block_cells B10_q.out
      go_wp2_with fail
      refine (LV.out _).mono ?_
      rintro e z11 ⟨rfl, hq⟩
      clear k_i00 k_i01 k_i02 k_x0 k_x1 k_x2 k_p0 k_p1 k_p2 k_q0 k_q1 k_q2
      have L11_X0 := Lib.hid (Lst.q L10_X0.out hq)
      clear L10_X0
      have L11_Z0 := Lib.hid (Lst.q L10_Z0.out hq)
      clear L10_Z0
      have L11_Z1 := Lib.hid (Lst.q L10_Z1.out hq)
      clear L10_Z1
      have B11_i0 := Lib.hid ((Q.block hq (lt_of_block B10_i0.out)).trans B10_i0.out)
      clear B10_i0
      have B11_x := Lib.hid ((Q.block hq (lt_of_block B10_x.out)).trans B10_x.out)
      clear B10_x
      have B11_p := Lib.hid ((Q.block hq (lt_of_block B10_p.out)).trans B10_p.out)
      clear B10_p
      have B11_q := Lib.hid ((Q.block hq (lt_of_block B10_q.out)).trans B10_q.out)
      clear B10_q
      have Q11 := Lib.hid (Q.trans Q10.out hq)
      clear Q10
      clear hq
      go_wp2_with fail
      go_ret
      exact ⟨rfl, Q11.out⟩
    · have hr1 : ((r0 : Int) == 0) = false := beq_eq_false_iff_ne.2 (by omega)
      have hr2 : ¬ (r0 : Int) = 0 := by omega
      obtain ⟨k_i00, k_i01, k_i02, _, _, _⟩ := Er.block_cells B10_i0.out
      obtain ⟨k_x0, k_x1, k_x2, _, _, _⟩ := Er.block_cells B10_x.out
      obtain ⟨k_p0, k_p1, k_p2, _, _, _⟩ := Er.block_cells B10_p.out
      obtain ⟨k_q0, k_q1, k_q2, _, _, _⟩ := Er.block_cells B10_q.out
      go_wp2_with fail
      refine (LV.out _).mono ?_
      rintro e z11 ⟨rfl, hq⟩
      clear k_i00 k_i01 k_i02 k_x0 k_x1 k_x2 k_p0 k_p1 k_p2 k_q0 k_q1 k_q2
      have L11_X0 := Lib.hid (Lst.q L10_X0.out hq)
      clear L10_X0
      have L11_Z0 := Lib.hid (Lst.q L10_Z0.out hq)
      clear L10_Z0
      have L11_Z1 := Lib.hid (Lst.q L10_Z1.out hq)
      clear L10_Z1
      have B11_i0 := Lib.hid ((Q.block hq (lt_of_block B10_i0.out)).trans B10_i0.out)
      clear B10_i0
      have B11_x := Lib.hid ((Q.block hq (lt_of_block B10_x.out)).trans B10_x.out)
      clear B10_x
      have B11_p := Lib.hid ((Q.block hq (lt_of_block B10_p.out)).trans B10_p.out)
      clear B10_p
      have B11_q := Lib.hid ((Q.block hq (lt_of_block B10_q.out)).trans B10_q.out)
      clear B10_q
      have Q11 := Lib.hid (Q.trans Q10.out hq)
      clear Q10
      clear hq
      go_wp2_with fail
      go_ret
      exact ⟨rfl, Q11.out⟩
    · have hr1 : ((r0 : Int) == 0) = false := beq_eq_false_iff_ne.2 (by omega)
      have hr2 : ¬ (r0 : Int) = 0 := by omega
      obtain ⟨k_i00, k_i01, k_i02, _, _, _⟩ := Er.block_cells B10_i0.out
      obtain ⟨k_x0, k_x1, k_x2, _, _, _⟩ := Er.block_cells B10_x.out
      obtain ⟨k_p0, k_p1, k_p2, _, _, _⟩ := Er.block_cells B10_p.out
      obtain ⟨k_q0, k_q1, k_q2, _, _, _⟩ := Er.block_cells B10_q.out
      go_wp2_with fail
      refine (LV.out _).mono ?_
      rintro e z11 ⟨rfl, hq⟩
      clear k_i00 k_i01 k_i02 k_x0 k_x1 k_x2 k_p0 k_p1 k_p2 k_q0 k_q1 k_q2
      have L11_X0 := Lib.hid (Lst.q L10_X0.out hq)
      clear L10_X0
      have L11_Z0 := Lib.hid (Lst.q L10_Z0.out hq)
      clear L10_Z0
      have L11_Z1 := Lib.hid (Lst.q L10_Z1.out hq)
      clear L10_Z1
      have B11_i0 := Lib.hid ((Q.block hq (lt_of_block B10_i0.out)).trans B10_i0.out)
      clear B10_i0
      have B11_x := Lib.hid ((Q.block hq (lt_of_block B10_x.out)).trans B10_x.out)
      clear B10_x
      have B11_p := Lib.hid ((Q.block hq (lt_of_block B10_p.out)).trans B10_p.out)
      clear B10_p
      have B11_q := Lib.hid ((Q.block hq (lt_of_block B10_q.out)).trans B10_q.out)
      clear B10_q
      have Q11 := Lib.hid (Q.trans Q10.out hq)
      clear Q10
      clear hq
      go_wp2_with fail
      go_ret
      exact ⟨rfl, Q11.out⟩
  · obtain ⟨k_i00, k_i01, k_i02, _, _, _⟩ := Er.block_cells B2_i0.out
    obtain ⟨k_x0, k_x1, k_x2, _, _, _⟩ := Er.block_cells B2_x.out
    go_wp2_with fail
    refine (Rl.of_sh _ _ _ _ _ _).mono ?_
    rintro e z3 ⟨rfl, hq⟩
    clear k_i00 k_i01 k_i02 k_x0 k_x1 k_x2
    have L3_X0 := Lib.hid (Lst.q L2_X0.out hq)
    clear L2_X0
    have B3_i0 := Lib.hid ((Q.block hq (lt_of_block B2_i0.out)).trans B2_i0.out)
    clear B2_i0
    have B3_x := Lib.hid ((Q.block hq (lt_of_block B2_x.out)).trans B2_x.out)
    clear B2_x
    have Q3 := Lib.hid (Q.trans Q2.out hq)
    clear Q2
    clear hq
    obtain ⟨k_i00, k_i01, k_i02, _, _, _⟩ := Er.block_cells B3_i0.out
    obtain ⟨k_x0, k_x1, k_x2, _, _, _⟩ := Er.block_cells B3_x.out
    go_wp2_with fail
    refine (PP0.out _ _ L3_X0.out).mono ?_
    rintro e z4 ⟨a3, c3x, rfl, hx, hq⟩
    clear k_i00 k_i01 k_i02 k_x0 k_x1 k_x2
    have L4_X0 := Lib.hid (Lst.q L3_X0.out hq)
    clear L3_X0
    have B4_i0 := Lib.hid ((Q.block hq (lt_of_block B3_i0.out)).trans B3_i0.out)
    clear B3_i0
    have B4_x := Lib.hid ((Q.block hq (lt_of_block B3_x.out)).trans B3_x.out)
    clear B3_x
    have Q4 := Lib.hid (Q.trans Q3.out hq)
    clear Q3
    have L4_Z0 := Lib.hid hx.lst
    clear hx
    clear hq
    have hq := (Q.refl z4).alloc (.cells #[.bool c0, .slice a3 r0 c3x, .int .i64 n] 27)
    have hb := heap_alloc_new z4 (.cells #[.bool c0, .slice a3 r0 c3x, .int .i64 n] 27)
    have L5_X0 := Lib.hid (Lst.q L4_X0.out hq)
    clear L4_X0
    have L5_Z0 := Lib.hid (Lst.q L4_Z0.out hq)
    clear L4_Z0
    have B5_i0 := Lib.hid ((Q.block hq (lt_of_block B4_i0.out)).trans B4_i0.out)
    clear B4_i0
    have B5_x := Lib.hid ((Q.block hq (lt_of_block B4_x.out)).trans B4_x.out)
    clear B4_x
    have Q5 := Lib.hid (Q.trans Q4.out hq)
    clear Q4
    have B5_p := Lib.hid hb
    clear hb hq
    obtain ⟨k_i00, k_i01, k_i02, _, _, _⟩ := Er.block_cells B5_i0.out
    obtain ⟨k_x0, k_x1, k_x2, _, _, _⟩ := Er.block_cells B5_x.out
    obtain ⟨k_p0, k_p1, k_p2, _, _, _⟩ := Er.block_cells B5_p.out
    go_wp2_with fail
    refine (Rr.minus_sh _ _ _ HNG.out _ _ _ _).mono ?_
    rintro e z6 ⟨rfl, hq⟩
    clear k_i00 k_i01 k_i02 k_x0 k_x1 k_x2 k_p0 k_p1 k_p2
    have L6_X0 := Lib.hid (Lst.q L5_X0.out hq)
    clear L5_X0
    have L6_Z0 := Lib.hid (Lst.q L5_Z0.out hq)
    clear L5_Z0
    have B6_i0 := Lib.hid ((Q.block hq (lt_of_block B5_i0.out)).trans B5_i0.out)
    clear B5_i0
    have B6_x := Lib.hid ((Q.block hq (lt_of_block B5_x.out)).trans B5_x.out)
    clear B5_x
    have B6_p := Lib.hid ((Q.block hq (lt_of_block B5_p.out)).trans B5_p.out)
    clear B5_p
    have Q6 := Lib.hid (Q.trans Q5.out hq)
    clear Q5
    clear hq
    obtain ⟨k_i00, k_i01, k_i02, _, _, _⟩ := Er.block_cells B6_i0.out
    obtain ⟨k_x0, k_x1, k_x2, _, _, _⟩ := Er.block_cells B6_x.out
    obtain ⟨k_p0, k_p1, k_p2, _, _, _⟩ := Er.block_cells B6_p.out
    go_wp2_with fail
    refine (Rl.of_sh _ _ _ _ _ _).mono ?_
    rintro e z7 ⟨rfl, hq⟩
    clear k_i00 k_i01 k_i02 k_x0 k_x1 k_x2 k_p0 k_p1 k_p2
    have L7_X0 := Lib.hid (Lst.q L6_X0.out hq)
    clear L6_X0
    have L7_Z0 := Lib.hid (Lst.q L6_Z0.out hq)
    clear L6_Z0
    have B7_i0 := Lib.hid ((Q.block hq (lt_of_block B6_i0.out)).trans B6_i0.out)
    clear B6_i0
    have B7_x := Lib.hid ((Q.block hq (lt_of_block B6_x.out)).trans B6_x.out)
    clear B6_x
    have B7_p := Lib.hid ((Q.block hq (lt_of_block B6_p.out)).trans B6_p.out)
    clear B6_p
    have Q7 := Lib.hid (Q.trans Q6.out hq)
    clear Q6
    clear hq
    obtain ⟨k_i00, k_i01, k_i02, _, _, _⟩ := Er.block_cells B7_i0.out
    obtain ⟨k_x0, k_x1, k_x2, _, _, _⟩ := Er.block_cells B7_x.out
    obtain ⟨k_p0, k_p1, k_p2, _, _, _⟩ := Er.block_cells B7_p.out
    go_wp2_with fail
    refine (PP1.out _ _ L7_X0.out).mono ?_
    rintro e z8 ⟨a4, c4x, rfl, hx, hq⟩
    clear k_i00 k_i01 k_i02 k_x0 k_x1 k_x2 k_p0 k_p1 k_p2
    have L8_X0 := Lib.hid (Lst.q L7_X0.out hq)
    clear L7_X0
    have L8_Z0 := Lib.hid (Lst.q L7_Z0.out hq)
    clear L7_Z0
    have B8_i0 := Lib.hid ((Q.block hq (lt_of_block B7_i0.out)).trans B7_i0.out)
    clear B7_i0
    have B8_x := Lib.hid ((Q.block hq (lt_of_block B7_x.out)).trans B7_x.out)
    clear B7_x
    have B8_p := Lib.hid ((Q.block hq (lt_of_block B7_p.out)).trans B7_p.out)
    clear B7_p
    have Q8 := Lib.hid (Q.trans Q7.out hq)
    clear Q7
    have L8_Z1 := Lib.hid hx.lst
    clear hx
    clear hq
    have hq := (Q.refl z8).alloc (.cells #[.bool c1, .slice a4 r0 c4x, .int .i64 n] 27)
    have hb := heap_alloc_new z8 (.cells #[.bool c1, .slice a4 r0 c4x, .int .i64 n] 27)
    have L9_X0 := Lib.hid (Lst.q L8_X0.out hq)
    clear L8_X0
    have L9_Z0 := Lib.hid (Lst.q L8_Z0.out hq)
    clear L8_Z0
    have L9_Z1 := Lib.hid (Lst.q L8_Z1.out hq)
    clear L8_Z1
    have B9_i0 := Lib.hid ((Q.block hq (lt_of_block B8_i0.out)).trans B8_i0.out)
    clear B8_i0
    have B9_x := Lib.hid ((Q.block hq (lt_of_block B8_x.out)).trans B8_x.out)
    clear B8_x
    have B9_p := Lib.hid ((Q.block hq (lt_of_block B8_p.out)).trans B8_p.out)
    clear B8_p
    have Q9 := Lib.hid (Q.trans Q8.out hq)
    clear Q8
    have B9_q := Lib.hid hb
    clear hb hq
    obtain ⟨k_i00, k_i01, k_i02, _, _, _⟩ := Er.block_cells B9_i0.out
    obtain ⟨k_x0, k_x1, k_x2, _, _, _⟩ := Er.block_cells B9_x.out
    obtain ⟨k_p0, k_p1, k_p2, _, _, _⟩ := Er.block_cells B9_p.out
    obtain ⟨k_q0, k_q1, k_q2, _, _, _⟩ := Er.block_cells B9_q.out
    go_wp2_with fail
    refine (HSM.out _ _ _ L9_Z0.out L9_Z1.out).mono ?_
    rintro e z10 ⟨rfl, hq⟩
    clear k_i00 k_i01 k_i02 k_x0 k_x1 k_x2 k_p0 k_p1 k_p2 k_q0 k_q1 k_q2
    have L10_X0 := Lib.hid (Lst.q L9_X0.out hq)
    clear L9_X0
    have L10_Z0 := Lib.hid (Lst.q L9_Z0.out hq)
    clear L9_Z0
    have L10_Z1 := Lib.hid (Lst.q L9_Z1.out hq)
    clear L9_Z1
    have B10_i0 := Lib.hid ((Q.block hq (lt_of_block B9_i0.out)).trans B9_i0.out)
    clear B9_i0
    have B10_x := Lib.hid ((Q.block hq (lt_of_block B9_x.out)).trans B9_x.out)
    clear B9_x
    have B10_p := Lib.hid ((Q.block hq (lt_of_block B9_p.out)).trans B9_p.out)
    clear B9_p
    have B10_q := Lib.hid ((Q.block hq (lt_of_block B9_q.out)).trans B9_q.out)
    clear B9_q
    have Q10 := Lib.hid (Q.trans Q9.out hq)
    clear Q9
    clear hq
    rcases HSG.out with rfl | ⟨hr, ⟨rfl, rfl⟩ | ⟨rfl, rfl⟩⟩
    · obtain ⟨k_i00, k_i01, k_i02, _, _, _⟩ := Er.block_cells B10_i0.out
      obtain ⟨k_x0, k_x1, k_x2, _, _, _⟩ := Er.block_cells B10_x.out
      obtain ⟨k_p0, k_p1, k_p2, _, _, _⟩ := Er.block_cells B10_p.out
      obtain ⟨k_q0, k_q1, k_q2, _, _, _⟩ := Er.block_cells B10_q.out
      go_wp2_with fail
      refine (LV.out _).mono ?_
      rintro e z11 ⟨rfl, hq⟩
      clear k_i00 k_i01 k_i02 k_x0 k_x1 k_x2 k_p0 k_p1 k_p2 k_q0 k_q1 k_q2
      have L11_X0 := Lib.hid (Lst.q L10_X0.out hq)
      clear L10_X0
      have L11_Z0 := Lib.hid (Lst.q L10_Z0.out hq)
      clear L10_Z0
      have L11_Z1 := Lib.hid (Lst.q L10_Z1.out hq)
      clear L10_Z1
      have B11_i0 := Lib.hid ((Q.block hq (lt_of_block B10_i0.out)).trans B10_i0.out)
      clear B10_i0
      have B11_x := Lib.hid ((Q.block hq (lt_of_block B10_x.out)).trans B10_x.out)
      clear B10_x
      have B11_p := Lib.hid ((Q.block hq (lt_of_block B10_p.out)).trans B10_p.out)
      clear B10_p
      have B11_q := Lib.hid ((Q.block hq (lt_of_block B10_q.out)).trans B10_q.out)
      clear B10_q
      have Q11 := Lib.hid (Q.trans Q10.out hq)
      clear Q10
      clear hq
      go_wp2_with fail
      go_ret
      exact ⟨rfl, Q11.out⟩
    · have hr1 : ((r0 : Int) == 0) = false := beq_eq_false_iff_ne.2 (by omega)
      have hr2 : ¬ (r0 : Int) = 0 := by omega
      obtain ⟨k_i00, k_i01, k_i02, _, _, _⟩ := Er.block_cells B10_i0.out
      obtain ⟨k_x0, k_x1, k_x2, _, _, _⟩ := Er.block_cells B10_x.out
      obtain ⟨k_p0, k_p1, k_p2, _, _, _⟩ := Er.block_cells B10_p.out
      obtain ⟨k_q0, k_q1, k_q2, _, _, _⟩ := Er.block_cells B10_q.out
      go_wp2_with fail
      refine (LV.out _).mono ?_
      rintro e z11 ⟨rfl, hq⟩
      clear k_i00 k_i01 k_i02 k_x0 k_x1 k_x2 k_p0 k_p1 k_p2 k_q0 k_q1 k_q2
      have L11_X0 := Lib.hid (Lst.q L10_X0.out hq)
      clear L10_X0
      have L11_Z0 := Lib.hid (Lst.q L10_Z0.out hq)
      clear L10_Z0
      have L11_Z1 := Lib.hid (Lst.q L10_Z1.out hq)
      clear L10_Z1
      have B11_i0 := Lib.hid ((Q.block hq (lt_of_block B10_i0.out)).trans B10_i0.out)
      clear B10_i0
      have B11_x := Lib.hid ((Q.block hq (lt_of_block B10_x.out)).trans B10_x.out)
      clear B10_x
      have B11_p := Lib.hid ((Q.block hq (lt_of_block B10_p.out)).trans B10_p.out)
      clear B10_p
      have B11_q := Lib.hid ((Q.block hq (lt_of_block B10_q.out)).trans B10_q.out)
      clear B10_q
      have Q11 := Lib.hid (Q.trans Q10.out hq)
      clear Q10
      clear hq
      go_wp2_with fail
      go_ret
      exact ⟨rfl, Q11.out⟩
    · have hr1 : ((r0 : Int) == 0) = false := beq_eq_false_iff_ne.2 (by omega)
      have hr2 : ¬ (r0 : Int) = 0 := by omega
      obtain ⟨k_i00, k_i01, k_i02, _, _, _⟩ := Er.block_cells B10_i0.out
      obtain ⟨k_x0, k_x1, k_x2, _, _, _⟩ := Er.block_cells B10_x.out
      obtain ⟨k_p0, k_p1, k_p2, _, _, _⟩ := Er.block_cells B10_p.out
      obtain ⟨k_q0, k_q1, k_q2, _, _, _⟩ := Er.block_cells B10_q.out
      go_wp2_with fail
      refine (LV.out _).mono ?_
      rintro e z11 ⟨rfl, hq⟩
      clear k_i00 k_i01 k_i02 k_x0 k_x1 k_x2 k_p0 k_p1 k_p2 k_q0 k_q1 k_q2
      have L11_X0 := Lib.hid (Lst.q L10_X0.out hq)
      clear L10_X0
      have L11_Z0 := Lib.hid (Lst.q L10_Z0.out hq)
      clear L10_Z0
      have L11_Z1 := Lib.hid (Lst.q L10_Z1.out hq)
      clear L10_Z1
      have B11_i0 := Lib.hid ((Q.block hq (lt_of_block B10_i0.out)).trans B10_i0.out)
      clear B10_i0
      have B11_x := Lib.hid ((Q.block hq (lt_of_block B10_x.out)).trans B10_x.out)
      clear B10_x
      have B11_p := Lib.hid ((Q.block hq (lt_of_block B10_p.out)).trans B10_p.out)
      clear B10_p
      have B11_q := Lib.hid ((Q.block hq (lt_of_block B10_q.out)).trans B10_q.out)
      clear B10_q
      have Q11 := Lib.hid (Q.trans Q10.out hq)
      clear Q10
      clear hq
      go_wp2_with fail
      go_ret
      exact ⟨rfl, Q11.out⟩
  · have hm4 : (k == 2) = false := beq_eq_false_iff_ne.2 hm2
    have hm5 : (k == 3) = false := beq_eq_false_iff_ne.2 hm3
    obtain ⟨k_i00, k_i01, k_i02, _, _, _⟩ := Er.block_cells B2_i0.out
    obtain ⟨k_x0, k_x1, k_x2, _, _, _⟩ := Er.block_cells B2_x.out
    go_wp2_with fail
    refine (Rl.of_sh _ _ _ _ _ _).mono ?_
    rintro e z3 ⟨rfl, hq⟩
    clear k_i00 k_i01 k_i02 k_x0 k_x1 k_x2
    have L3_X0 := Lib.hid (Lst.q L2_X0.out hq)
    clear L2_X0
    have B3_i0 := Lib.hid ((Q.block hq (lt_of_block B2_i0.out)).trans B2_i0.out)
    clear B2_i0
    have B3_x := Lib.hid ((Q.block hq (lt_of_block B2_x.out)).trans B2_x.out)
    clear B2_x
    have Q3 := Lib.hid (Q.trans Q2.out hq)
    clear Q2
    clear hq
    obtain ⟨k_i00, k_i01, k_i02, _, _, _⟩ := Er.block_cells B3_i0.out
    obtain ⟨k_x0, k_x1, k_x2, _, _, _⟩ := Er.block_cells B3_x.out
    go_wp2_with fail
    refine (PP0.out _ _ L3_X0.out).mono ?_
    rintro e z4 ⟨a3, c3x, rfl, hx, hq⟩
    clear k_i00 k_i01 k_i02 k_x0 k_x1 k_x2
    have L4_X0 := Lib.hid (Lst.q L3_X0.out hq)
    clear L3_X0
    have B4_i0 := Lib.hid ((Q.block hq (lt_of_block B3_i0.out)).trans B3_i0.out)
    clear B3_i0
    have B4_x := Lib.hid ((Q.block hq (lt_of_block B3_x.out)).trans B3_x.out)
    clear B3_x
    have Q4 := Lib.hid (Q.trans Q3.out hq)
    clear Q3
    have L4_Z0 := Lib.hid hx.lst
    clear hx
    clear hq
    have hq := (Q.refl z4).alloc (.cells #[.bool c0, .slice a3 r0 c3x, .int .i64 n] 27)
    have hb := heap_alloc_new z4 (.cells #[.bool c0, .slice a3 r0 c3x, .int .i64 n] 27)
    have L5_X0 := Lib.hid (Lst.q L4_X0.out hq)
    clear L4_X0
    have L5_Z0 := Lib.hid (Lst.q L4_Z0.out hq)
    clear L4_Z0
    have B5_i0 := Lib.hid ((Q.block hq (lt_of_block B4_i0.out)).trans B4_i0.out)
    clear B4_i0
    have B5_x := Lib.hid ((Q.block hq (lt_of_block B4_x.out)).trans B4_x.out)
    clear B4_x
    have Q5 := Lib.hid (Q.trans Q4.out hq)
    clear Q4
    have B5_p := Lib.hid hb
    clear hb hq
    obtain ⟨k_i00, k_i01, k_i02, _, _, _⟩ := Er.block_cells B5_i0.out
    obtain ⟨k_x0, k_x1, k_x2, _, _, _⟩ := Er.block_cells B5_x.out
    obtain ⟨k_p0, k_p1, k_p2, _, _, _⟩ := Er.block_cells B5_p.out
    go_wp2_with fail
    refine (Rr.minus_sh _ _ _ HNG.out _ _ _ _).mono ?_
    rintro e z6 ⟨rfl, hq⟩
    clear k_i00 k_i01 k_i02 k_x0 k_x1 k_x2 k_p0 k_p1 k_p2
    have L6_X0 := Lib.hid (Lst.q L5_X0.out hq)
    clear L5_X0
    have L6_Z0 := Lib.hid (Lst.q L5_Z0.out hq)
    clear L5_Z0
    have B6_i0 := Lib.hid ((Q.block hq (lt_of_block B5_i0.out)).trans B5_i0.out)
    clear B5_i0
    have B6_x := Lib.hid ((Q.block hq (lt_of_block B5_x.out)).trans B5_x.out)
    clear B5_x
    have B6_p := Lib.hid ((Q.block hq (lt_of_block B5_p.out)).trans B5_p.out)
    clear B5_p
    have Q6 := Lib.hid (Q.trans Q5.out hq)
    clear Q5
    clear hq
    obtain ⟨k_i00, k_i01, k_i02, _, _, _⟩ := Er.block_cells B6_i0.out
    obtain ⟨k_x0, k_x1, k_x2, _, _, _⟩ := Er.block_cells B6_x.out
    obtain ⟨k_p0, k_p1, k_p2, _, _, _⟩ := Er.block_cells B6_p.out
    go_wp2_with fail
    refine (Rl.of_sh _ _ _ _ _ _).mono ?_
    rintro e z7 ⟨rfl, hq⟩
    clear k_i00 k_i01 k_i02 k_x0 k_x1 k_x2 k_p0 k_p1 k_p2
    have L7_X0 := Lib.hid (Lst.q L6_X0.out hq)
    clear L6_X0
    have L7_Z0 := Lib.hid (Lst.q L6_Z0.out hq)
    clear L6_Z0
    have B7_i0 := Lib.hid ((Q.block hq (lt_of_block B6_i0.out)).trans B6_i0.out)
    clear B6_i0
    have B7_x := Lib.hid ((Q.block hq (lt_of_block B6_x.out)).trans B6_x.out)
    clear B6_x
    have B7_p := Lib.hid ((Q.block hq (lt_of_block B6_p.out)).trans B6_p.out)
    clear B6_p
    have Q7 := Lib.hid (Q.trans Q6.out hq)
    clear Q6
    clear hq
    obtain ⟨k_i00, k_i01, k_i02, _, _, _⟩ := Er.block_cells B7_i0.out
    obtain ⟨k_x0, k_x1, k_x2, _, _, _⟩ := Er.block_cells B7_x.out
    obtain ⟨k_p0, k_p1, k_p2, _, _, _⟩ := Er.block_cells B7_p.out
    go_wp2_with fail
    refine (PP1.out _ _ L7_X0.out).mono ?_
    rintro e z8 ⟨a4, c4x, rfl, hx, hq⟩
    clear k_i00 k_i01 k_i02 k_x0 k_x1 k_x2 k_p0 k_p1 k_p2
    have L8_X0 := Lib.hid (Lst.q L7_X0.out hq)
    clear L7_X0
    have L8_Z0 := Lib.hid (Lst.q L7_Z0.out hq)
    clear L7_Z0
    have B8_i0 := Lib.hid ((Q.block hq (lt_of_block B7_i0.out)).trans B7_i0.out)
    clear B7_i0
    have B8_x := Lib.hid ((Q.block hq (lt_of_block B7_x.out)).trans B7_x.out)
    clear B7_x
    have B8_p := Lib.hid ((Q.block hq (lt_of_block B7_p.out)).trans B7_p.out)
    clear B7_p
    have Q8 := Lib.hid (Q.trans Q7.out hq)
    clear Q7
    have L8_Z1 := Lib.hid hx.lst
    clear hx
    clear hq
    have hq := (Q.refl z8).alloc (.cells #[.bool c1, .slice a4 r0 c4x, .int .i64 n] 27)
    have hb := heap_alloc_new z8 (.cells #[.bool c1, .slice a4 r0 c4x, .int .i64 n] 27)
    have L9_X0 := Lib.hid (Lst.q L8_X0.out hq)
    clear L8_X0
    have L9_Z0 := Lib.hid (Lst.q L8_Z0.out hq)
    clear L8_Z0
    have L9_Z1 := Lib.hid (Lst.q L8_Z1.out hq)
    clear L8_Z1
    have B9_i0 := Lib.hid ((Q.block hq (lt_of_block B8_i0.out)).trans B8_i0.out)
    clear B8_i0
    have B9_x := Lib.hid ((Q.block hq (lt_of_block B8_x.out)).trans B8_x.out)
    clear B8_x
    have B9_p := Lib.hid ((Q.block hq (lt_of_block B8_p.out)).trans B8_p.out)
    clear B8_p
    have Q9 := Lib.hid (Q.trans Q8.out hq)
    clear Q8
    have B9_q := Lib.hid hb
    clear hb hq
    obtain ⟨k_i00, k_i01, k_i02, _, _, _⟩ := Er.block_cells B9_i0.out
    obtain ⟨k_x0, k_x1, k_x2, _, _, _⟩ := Er.block_cells B9_x.out
    obtain ⟨k_p0, k_p1, k_p2, _, _, _⟩ := Er.block_cells B9_p.out
    obtain ⟨k_q0, k_q1, k_q2, _, _, _⟩ := Er.block_cells B9_q.out
    go_wp2_with fail
    refine (HSM.out _ _ _ L9_Z0.out L9_Z1.out).mono ?_
    rintro e z10 ⟨rfl, hq⟩
    clear k_i00 k_i01 k_i02 k_x0 k_x1 k_x2 k_p0 k_p1 k_p2 k_q0 k_q1 k_q2
    have L10_X0 := Lib.hid (Lst.q L9_X0.out hq)
    clear L9_X0
    have L10_Z0 := Lib.hid (Lst.q L9_Z0.out hq)
    clear L9_Z0
    have L10_Z1 := Lib.hid (Lst.q L9_Z1.out hq)
    clear L9_Z1
    have B10_i0 := Lib.hid ((Q.block hq (lt_of_block B9_i0.out)).trans B9_i0.out)
    clear B9_i0
    have B10_x := Lib.hid ((Q.block hq (lt_of_block B9_x.out)).trans B9_x.out)
    clear B9_x
    have B10_p := Lib.hid ((Q.block hq (lt_of_block B9_p.out)).trans B9_p.out)
    clear B9_p
    have B10_q := Lib.hid ((Q.block hq (lt_of_block B9_q.out)).trans B9_q.out)
    clear B9_q
    have Q10 := Lib.hid (Q.trans Q9.out hq)
    clear Q9
    clear hq
    rcases HSG.out with rfl | ⟨hr, ⟨rfl, rfl⟩ | ⟨rfl, rfl⟩⟩
    · obtain ⟨k_i00, k_i01, k_i02, _, _, _⟩ := Er.block_cells B10_i0.out
      obtain ⟨k_x0, k_x1, k_x2, _, _, _⟩ := Er.block_cells B10_x.out
      obtain ⟨k_p0, k_p1, k_p2, _, _, _⟩ := Er.block_cells B10_p.out
      obtain ⟨k_q0, k_q1, k_q2, _, _, _⟩ := Er.block_cells B10_q.out
      go_wp2_with fail
      refine (LV.out _).mono ?_
      rintro e z11 ⟨rfl, hq⟩
      clear k_i00 k_i01 k_i02 k_x0 k_x1 k_x2 k_p0 k_p1 k_p2 k_q0 k_q1 k_q2
      have L11_X0 := Lib.hid (Lst.q L10_X0.out hq)
      clear L10_X0
      have L11_Z0 := Lib.hid (Lst.q L10_Z0.out hq)
      clear L10_Z0
      have L11_Z1 := Lib.hid (Lst.q L10_Z1.out hq)
      clear L10_Z1
      have B11_i0 := Lib.hid ((Q.block hq (lt_of_block B10_i0.out)).trans B10_i0.out)
      clear B10_i0
      have B11_x := Lib.hid ((Q.block hq (lt_of_block B10_x.out)).trans B10_x.out)
      clear B10_x
      have B11_p := Lib.hid ((Q.block hq (lt_of_block B10_p.out)).trans B10_p.out)
      clear B10_p
      have B11_q := Lib.hid ((Q.block hq (lt_of_block B10_q.out)).trans B10_q.out)
      clear B10_q
      have Q11 := Lib.hid (Q.trans Q10.out hq)
      clear Q10
      clear hq
      go_wp2_with fail
      go_ret
      exact ⟨rfl, Q11.out⟩
    · have hr1 : ((r0 : Int) == 0) = false := beq_eq_false_iff_ne.2 (by omega)
      have hr2 : ¬ (r0 : Int) = 0 := by omega
      obtain ⟨k_i00, k_i01, k_i02, _, _, _⟩ := Er.block_cells B10_i0.out
      obtain ⟨k_x0, k_x1, k_x2, _, _, _⟩ := Er.block_cells B10_x.out
      obtain ⟨k_p0, k_p1, k_p2, _, _, _⟩ := Er.block_cells B10_p.out
      obtain ⟨k_q0, k_q1, k_q2, _, _, _⟩ := Er.block_cells B10_q.out
      go_wp2_with fail
      refine (LV.out _).mono ?_
      rintro e z11 ⟨rfl, hq⟩
      clear k_i00 k_i01 k_i02 k_x0 k_x1 k_x2 k_p0 k_p1 k_p2 k_q0 k_q1 k_q2
      have L11_X0 := Lib.hid (Lst.q L10_X0.out hq)
      clear L10_X0
      have L11_Z0 := Lib.hid (Lst.q L10_Z0.out hq)
      clear L10_Z0
      have L11_Z1 := Lib.hid (Lst.q L10_Z1.out hq)
      clear L10_Z1
      have B11_i0 := Lib.hid ((Q.block hq (lt_of_block B10_i0.out)).trans B10_i0.out)
      clear B10_i0
      have B11_x := Lib.hid ((Q.block hq (lt_of_block B10_x.out)).trans B10_x.out)
      clear B10_x
      have B11_p := Lib.hid ((Q.block hq (lt_of_block B10_p.out)).trans B10_p.out)
      clear B10_p
      have B11_q := Lib.hid ((Q.block hq (lt_of_block B10_q.out)).trans B10_q.out)
      clear B10_q
      have Q11 := Lib.hid (Q.trans Q10.out hq)
      clear Q10
      clear hq
      go_wp2_with fail
      go_ret
      exact ⟨rfl, Q11.out⟩
    · have hr1 : ((r0 : Int) == 0) = false := beq_eq_false_iff_ne.2 (by omega)
      have hr2 : ¬ (r0 : Int) = 0 := by omega
      obtain ⟨k_i00, k_i01, k_i02, _, _, _⟩ := Er.block_cells B10_i0.out
      obtain ⟨k_x0, k_x1, k_x2, _, _, _⟩ := Er.block_cells B10_x.out
      obtain ⟨k_p0, k_p1, k_p2, _, _, _⟩ := Er.block_cells B10_p.out
      obtain ⟨k_q0, k_q1, k_q2, _, _, _⟩ := Er.block_cells B10_q.out
      go_wp2_with fail
      refine (LV.out _).mono ?_
      rintro e z11 ⟨rfl, hq⟩
      clear k_i00 k_i01 k_i02 k_x0 k_x1 k_x2 k_p0 k_p1 k_p2 k_q0 k_q1 k_q2
      have L11_X0 := Lib.hid (Lst.q L10_X0.out hq)
      clear L10_X0
      have L11_Z0 := Lib.hid (Lst.q L10_Z0.out hq)
      clear L10_Z0
      have L11_Z1 := Lib.hid (Lst.q L10_Z1.out hq)
      clear L10_Z1
      have B11_i0 := Lib.hid ((Q.block hq (lt_of_block B10_i0.out)).trans B10_i0.out)
      clear B10_i0
      have B11_x := Lib.hid ((Q.block hq (lt_of_block B10_x.out)).trans B10_x.out)
      clear B10_x
      have B11_p := Lib.hid ((Q.block hq (lt_of_block B10_p.out)).trans B10_p.out)
      clear B10_p
      have B11_q := Lib.hid ((Q.block hq (lt_of_block B10_q.out)).trans B10_q.out)
      clear B10_q
      have Q11 := Lib.hid (Q.trans Q10.out hq)
      clear Q10
      clear hq
      go_wp2_with fail
      go_ret
      exact ⟨rfl, Q11.out⟩

set_option maxRecDepth 100000 in
theorem lifted (os : Os) (started : os.Started) (H : Type) (enc : TypeId × Value → H) :
    ReturnsInHanded {} Try.checked os 7 .any (Rows.roundMirrorSpec.pre6 enc Try.prog Try.f7 Rows.roundMirrorRow.domain false) (Rows.roundMirrorSpec.post enc Try.prog Try.f7 false true false false) := by
  refine returnsInHanded_of_change (C := Try.checked) own started (by kernel_rfl) Try.func7
    (ChangeSpec.witness6 (enc := enc) (C := Try.checked) false ⟨#[], #[.agg #[.bool false, .slice none 0 0, .int .i64 0], .int .i64 0, .int .i64 0], []⟩ 8 (by kernel_rfl) (by kernel_rfl) (by kernel_rfl) (by kernel_rfl)) ?_
  intro W base args ds gs before hval0 hW hcnd _
  have hval : ∀ (j : Nat) t v, Try.f7.params[j]? = some t → args[j]? = some v → Value.okWide Try.prog W .any base t v := hval0
  have hW' := hW
  obtain ⟨p, q, hA0, hV, rfl, hfz, hnd⟩ := hW
  have hA : DataW.TrodAll enc Try.prog W 0 (fun _ => true) true Try.f7.params.toList args.toList ds p := hA0
  rw [Try.params7] at hA hval
  obtain ⟨v0, vs0, d0, ds0, p0, q0, hargs, rfl, rfl, h0, r0⟩ := trodAll_cons hA
  obtain ⟨v1, vs1, d1, ds1, p1, q1, rfl, rfl, rfl, h1, r1⟩ := trodAll_cons r0
  obtain ⟨v2, vs2, d2, ds2, p2, q2, rfl, rfl, rfl, h2, r2⟩ := trodAll_cons r1
  obtain ⟨rfl, rfl, rfl⟩ := trodAll_nil r2
  obtain rfl : args = #[v0, v1, v2] := by cases args; simp_all
  obtain ⟨rfl, rfl⟩ := trodVars_none hV
  have k0 := h0
  have lt0 : ∀ x ∈ p0, x.block < W.heap.size := by obtain ⟨m, hm⟩ := k0; exact DataW.trod_lt m _ _ _ hm
  obtain ⟨c00, c01, c02, y00, y01, y02, m0, rfl, _, _, hy00, hy01, hy02⟩ := Joins.open_agg3 Try.underlying24 (by kernel_rfl) (by kernel_rfl) (hval 0 24 v0 rfl rfl) h0
  obtain ⟨g0, rfl⟩ : ∃ b, c00 = .bool b := by
    obtain ⟨b, h, _⟩ := DataW.trod_bool Try.underlying4 hy00
    exact ⟨b, by simpa using h⟩
  obtain ⟨s0, rfl, ws0⟩ : ∃ n, c02 = .int .i64 n ∧ (Lit.int .i64 n).wf = true := by
    obtain ⟨n, h, _, hw⟩ := DataW.trod_int Try.underlying3 hy02
    exact ⟨n, by simpa using h, hw⟩
  obtain ⟨a0, len0, cap0, z0, rfl, w0⟩ : ∃ a len cap zs, c01 = .slice a len cap ∧ IsRow .i64 W a len cap zs := by
    rcases open_ints Try.underlying22 Try.underlying3 (by kernel_rfl) hy01 with ⟨hcs, _⟩ | ⟨x, l, c, zs, hcs, _, hl, hm, hz, _, hcell, hwz⟩
    · exact ⟨none, 0, 0, [], by simpa using hcs, .inl ⟨rfl, rfl, rfl, rfl⟩⟩
    · exact ⟨some x, l, c, zs, by simpa using hcs, .inr ⟨_, rfl, hl, hm, by simpa using hz, hcell, hwz⟩⟩
  obtain ⟨xs0, l0, _, b0⟩ := w0.lst
  obtain ⟨a1, rfl, rfl, rfl, w1⟩ := open_int Try.underlying3 (hval 1 3 v1 rfl rfl) h1
  obtain ⟨a2, rfl, rfl, rfl, w2⟩ := open_int Try.underlying3 (hval 2 3 v2 rfl rfl) h2
  clear hA0 hval0
  refine (walk W g0 (.slice a0 len0 cap0) xs0 l0 b0 s0 (bounds_i64 ws0) a1 (bounds_i64 w1) a2 (bounds_i64 w2)).mono fun e W' ⟨he, bel⟩ => ?_
  subst he
  exact ⟨_, rfl, _, _, _, [], _, [], hW', trodAll_mk1 (shut_bool Try.underlying4 _), (trodAll_cons_mk (Below.trod laidOut (by kernel_rfl) (of_decide_eq_true (by kernel_rfl)) k0 bel lt0) (trodAll_cons_mk (shut_int Try.underlying3 w1) (trodAll_cons_mk (shut_int Try.underlying3 w2) trodAll_mk0))), rfl, bel.below.frame _, fun h => by cases h⟩

/-- The statement. -/
theorem proved : Rows.RoundMirrorSaid :=
  OpenClaim.holds_of_wide 7 Try.f7 rfl rfl rfl rfl rfl rfl rfl ⟨rfl, rfl, rfl, rfl, rfl⟩ rfl rfl rfl rfl rfl (by kernel_rfl) Try.func7 (by kernel_rfl)
    (of_decide_eq_true (by kernel_rfl)) (by unfold Func.isWrapper; first | (rw [if_pos (by decide +kernel)]; kernel_rfl) | (rw [if_neg (by decide +kernel)]; exact ⟨rfl, rfl⟩))
    (fun os started H enc _ => lifted os started H enc)
#print axioms proved
end Go.Proofs.Ytebcgpoemppljaa.roundMirror
