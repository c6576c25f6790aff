/- RoundTo: of whatever decimal (its first 12 numbers; as they are, and made digits, its scale made 0 to 9), scale (as it is, and made 0 to 9) and mode (as it is, and each) the rounded one is the document's, or refused; no conditions. -/
import Derived.Test.YtebcgpoemppljaaRows
import Derived.WalkKit
import Derived.ProofKit
import Derived.OpenShut
import Derived.ShutString
import Derived.ChangeOld
import Derived.Below
import Derived.Lib.SmallJoins
import Derived.Test.YtebcgpoemppljaaInts
import Derived.Test.YtebcgpoemppljaaUtfM
import Derived.Test.YtebcgpoemppljaaUtfG
import Derived.Test.YtebcgpoemppljaaUtfR
import Derived.Test.YtebcgpoemppljaaDigM
import Derived.Test.YtebcgpoemppljaaDigL
import Derived.Test.YtebcgpoemppljaaDigR
import Derived.Test.YtebcgpoemppljaaDecM
import Derived.Test.YtebcgpoemppljaaDecR
import Derived.Test.YtebcgpoemppljaaDecS
import Derived.Test.YtebcgpoemppljaaDecC
import Derived.Test.YtebcgpoemppljaaDecZ
import Derived.Test.YtebcgpoemppljaaDecY
import Derived.Test.YtebcgpoemppljaaRndM
import Derived.Test.YtebcgpoemppljaaRndN
import Derived.Test.YtebcgpoemppljaaRndU
import Derived.Test.YtebcgpoemppljaaRndP
import Derived.Test.YtebcgpoemppljaaRndZ
import Derived.Test.YtebcgpoemppljaaDecX
import Derived.Test.YtebcgpoemppljaaRndT
import Derived.Test.YtebcgpoemppljaaRndC
set_option linter.unusedVariables false
set_option linter.unusedSimpArgs false
namespace Go.Proofs.Ytebcgpoemppljaa.roundTo
open Go.ChangeShapes Go.WideShapes Go.ChangeAt Go.RowKit
open Go.ChangeMaps (open_string shut_string)

theorem own : ownKnob Try.prog.godebug = none := by kernel_rfl
theorem laidOut : laidOutB Try.prog = true := by kernel_rfl


set_option maxHeartbeats 8000000 in
set_option maxRecDepth 100000 in
theorem walk (w : World) (g0 : Bool) (v0 : Value) (xs0 : List Int) (w0 : Lst w v0 xs0) (b0 : ∀ n ∈ xs0, -9223372036854775808 ≤ n ∧ n ≤ 9223372036854775807) (s0 : Int) (ws0 : -9223372036854775808 ≤ s0 ∧ s0 ≤ 9223372036854775807) (a1 : Int) (w1 : -9223372036854775808 ≤ a1 ∧ a1 ≤ 9223372036854775807) (a2 : Int) (w2 : -9223372036854775808 ≤ a2 ∧ a2 ≤ 9223372036854775807) :
    Calls Try.prog 3 #[.agg #[.bool g0, v0, .int .i64 s0], .int .i64 a1, .int .i64 a2] w fun e w' => e = .returned (.bool true) ∧ Q w w' := by
  have hR0 := w0
  obtain ⟨A0, C0, rfl, hnc0, hcm0⟩ := w0.shape2
  have hgl0 := Dm.gdL_len xs0 12
  have kX0 := Dm.gdL_ok xs0 12
  have hab0 := Um.around_bd s0 10 (by omega)
  obtain ⟨t0, ht0⟩ : ∃ t : Nat, Um.around s0 10 = (t : Int) := ⟨(Um.around s0 10).toNat, by omega⟩
  rw [ht0] at hab0
  have hs0 : t0 ≤ 9 := by omega
  obtain ⟨p0, hp0⟩ : ∃ p, (Dm.gdL xs0 12).length = p := ⟨_, rfl⟩
  have hpm0 : p0 ≤ 12 := by omega
  have G0 := Lib.hid (fun u (q : Q w u) => Ep.good_sh u g0 A0 xs0.length C0 s0 xs0 12 (w0.q q) rfl ws0 (by omega) b0 t0 p0 ht0 hp0)
  obtain ⟨q0, hq0⟩ : ∃ q, min xs0.length 12 = q := ⟨_, rfl⟩
  have FW0 := Lib.hid (fun u => Ep.few_sh u g0 A0 xs0.length C0 s0 12 q0 hnc0 hcm0 (by omega) hq0)
  have hT0 := w0.take q0 (by omega)
  have hRl0 : (xs0.take q0).length = q0 := by rw [List.length_take]; omega
  generalize xs0.take q0 = RR0 at *
  have HR0 := Lib.hid hT0
  generalize Dm.gdL xs0 12 = X0 at *
  generalize hn0 : xs0.length = n0 at *
  have HP0 := Lib.hid hp0
  have hql0 : q0 ≤ 12 := by omega
  have HRL0 := Lib.hid hRl0
  clear hgl0 hab0 ht0
  have A1 := fun w => Ur.around_any a1 10 w w1.1 w1.2 (by omega) (by omega)
  have hab1 := Um.around_bd a1 10 (by omega)
  obtain ⟨n, hn⟩ : ∃ t : Nat, Um.around a1 10 = (t : Int) := ⟨(Um.around a1 10).toNat, by omega⟩
  rw [hn] at A1 hab1
  have nlt : n < 10 := by omega
  have AR1 := Lib.hid A1
  clear A1 hab1 hn
  have A2 := fun w => Ur.around_any a2 7 w w2.1 w2.2 (by omega) (by omega)
  have hab2 := Um.around_bd a2 7 (by omega)
  generalize Um.around a2 7 = m2 at *
  have AR2 := Lib.hid A2
  clear A2
  have hp0' := HP0.out
  have TB := Lib.hid (fun (m : Int) (hm9 : -9223372036854775808 ≤ m ∧ m ≤ 9223372036854775807) => Rl.to_both g0 t0 n m X0 (by omega) (by omega) (by omega) hm9)
  obtain ⟨gr5, Z5, sr5, er5, f5, k5, zl5⟩ := Rl.to_both g0 s0 a1 a2 RR0 (by omega) ws0 w1 w2
  obtain ⟨gr9, Z9, sr9, er9, f9, k9, zl9⟩ := Rl.to_both g0 t0 a1 m2 X0 (by omega) (by omega) w1 (by omega)
  unfold Rl.R3 at f5 k5 f9 k9
  have S5 := fun u a b c d h1 h2 => Ep.same_sh u gr5 a b Z5.length c d sr5 Z5 h1 h2 (by omega)
  have S9 := fun u a b c d h1 h2 => Ep.same_sh u gr9 a b Z9.length c d sr9 Z9 h1 h2 (by omega)
  generalize Z5.length = r5 at *
  generalize Z9.length = r9 at *
  have F5 := Lib.hid f5
  have K5 := Lib.hid k5
  have F9 := Lib.hid f9
  have K9 := Lib.hid k9
  have HS5 := Lib.hid S5
  have HS9 := Lib.hid S9
  have AQ2 := Lib.hid (fun u => Calls.mono (AR2.out u) (fun e w' h => (show e = .returned (.int .i64 m2) ∧ Q u w' from ⟨h.1, by rw [← h.2]; exact Q.refl _⟩)))
  have LV := Lib.hid Rl.lives_any
  clear f5 k5 f9 k9 zl5 zl9 S5 S9 hp0' hR0 hnc0 hcm0 hs0 hpm0 hq0 hT0 hRl0 hql0 kX0 hp0 w0 b0 ws0
  go_enter Try.func3, Try.ntmps3
  have Q0 := Lib.hid (show Q w (w.alloc (.cells #[.bool g0, .slice A0 n0 C0, .int .i64 s0] 24)) from ((Q.refl w).alloc (.cells #[.bool g0, .slice A0 n0 C0, .int .i64 s0] 24)))
  have B0_i := Lib.hid (show (w.alloc (.cells #[.bool g0, .slice A0 n0 C0, .int .i64 s0] 24)).heap[w.heap.size]? = some (.cells #[.bool g0, .slice A0 n0 C0, .int .i64 s0] 24) from by exact heap_alloc_new _ _)
  obtain ⟨k_i0, k_i1, k_i2, _, _, _⟩ := Er.block_cells B0_i.out
  go_wp2_with fail
  refine (G0.out _ Q0.out).mono ?_
  rintro e z1 ⟨a1x, c1x, rfl, hx, hq⟩
  clear k_i0 k_i1 k_i2
  have B1_i := Lib.hid ((Q.block hq (lt_of_block B0_i.out)).trans B0_i.out)
  clear B0_i
  have Q1 := Lib.hid (Q.trans Q0.out hq)
  clear Q0
  have L1_X0 := Lib.hid hx
  clear hx
  clear hq
  have hq := (Q.refl z1).alloc (.cells #[.bool g0, .slice a1x p0 c1x, .int .i64 t0] 24)
  have hb := heap_alloc_new z1 (.cells #[.bool g0, .slice a1x p0 c1x, .int .i64 t0] 24)
  have L2_X0 := Lib.hid (Lst.q L1_X0.out hq)
  clear L1_X0
  have B2_i := Lib.hid ((Q.block hq (lt_of_block B1_i.out)).trans B1_i.out)
  clear B1_i
  have Q2 := Lib.hid (Q.trans Q1.out hq)
  clear Q1
  have B2_x := Lib.hid hb
  clear hb hq
  obtain ⟨k_i0, k_i1, k_i2, _, _, _⟩ := Er.block_cells B2_i.out
  obtain ⟨k_x0, k_x1, k_x2, _, _, _⟩ := Er.block_cells B2_x.out
  go_wp2_with fail
  refine (FW0.out _).mono ?_
  rintro e z3 ⟨rfl, hq⟩
  clear k_i0 k_i1 k_i2 k_x0 k_x1 k_x2
  have L3_X0 := Lib.hid (Lst.q L2_X0.out hq)
  clear L2_X0
  have B3_i := Lib.hid ((Q.block hq (lt_of_block B2_i.out)).trans B2_i.out)
  clear B2_i
  have B3_x := Lib.hid ((Q.block hq (lt_of_block B2_x.out)).trans B2_x.out)
  clear B2_x
  have Q3 := Lib.hid (Q.trans Q2.out hq)
  clear Q2
  clear hq
  have LR := Lib.hid (HR0.out.q Q3.out)
  have hq := (Q.refl z3).alloc (.cells #[.bool g0, .slice A0 q0 C0, .int .i64 s0] 24)
  have hb := heap_alloc_new z3 (.cells #[.bool g0, .slice A0 q0 C0, .int .i64 s0] 24)
  have L4_X0 := Lib.hid (Lst.q L3_X0.out hq)
  clear L3_X0
  have L4_R0 := Lib.hid (Lst.q LR.out hq)
  clear LR
  have B4_i := Lib.hid ((Q.block hq (lt_of_block B3_i.out)).trans B3_i.out)
  clear B3_i
  have B4_x := Lib.hid ((Q.block hq (lt_of_block B3_x.out)).trans B3_x.out)
  clear B3_x
  have Q4 := Lib.hid (Q.trans Q3.out hq)
  clear Q3
  have B4_y := Lib.hid hb
  clear hb hq
  obtain ⟨k_i0, k_i1, k_i2, _, _, _⟩ := Er.block_cells B4_i.out
  obtain ⟨k_x0, k_x1, k_x2, _, _, _⟩ := Er.block_cells B4_x.out
  obtain ⟨k_y0, k_y1, k_y2, _, _, _⟩ := Er.block_cells B4_y.out
  go_wp2_with fail
  refine (AR1.out _).mono ?_
  rintro e y ⟨rfl, rfl⟩
  clear k_i0 k_i1 k_i2 k_x0 k_x1 k_x2 k_y0 k_y1 k_y2
  go_wp2_with fail
  go_loopw [10] (fun iv wr => ∃ m : Int, iv = .int .i64 m ∧ -1 ≤ m ∧ m ≤ 8 ∧ wr.heap[z1.heap.size]? = some (.cells #[.bool g0, .slice a1x p0 c1x, .int .i64 t0] 24) ∧ wr.heap[z3.heap.size]? = some (.cells #[.bool g0, .slice A0 q0 C0, .int .i64 s0] 24) ∧ Q (z3.alloc (.cells #[.bool g0, .slice A0 q0 C0, .int .i64 s0] 24)) wr) (fun iv _ => (8 - intOf iv).toNat)
  case atStart => exact ⟨-1, rfl, by omega, by omega, B4_x.out, B4_y.out, Q.refl _⟩
  case round =>
    obtain ⟨m, rfl, hm0, hm1, hbx, hby, hq⟩ := hrel
    have HBX := Lib.hid hbx
    have HBY := Lib.hid hby
    have QR := Lib.hid hq
    have LX := Lib.hid (L4_X0.out.q hq)
    have LR2 := Lib.hid (L4_R0.out.q hq)
    clear hbx hby hq
    by_cases hlt : m < 8
    · obtain ⟨gr, Z, sr, er, pp, rp, zl⟩ := TB.out m (by omega)
      unfold Rl.R3 at pp rp
      have SM := fun u a b c d h1 h2 => Ep.same_sh u gr a b Z.length c d sr Z h1 h2 (by omega)
      generalize Z.length = rz at *
      have PP := Lib.hid pp
      have RP := Lib.hid rp
      have HSM := Lib.hid SM
      have hwm : IntKind.i64.wrap (m + 1) = m + 1 := Er.wrapI (by omega) (by omega)
      clear pp rp SM zl
      obtain ⟨k_x0, k_x1, k_x2, _, _, _⟩ := Er.block_cells HBX.out
      obtain ⟨k_y0, k_y1, k_y2, _, _, _⟩ := Er.block_cells HBY.out
      go_wp2_with fail
      refine (Rl.of_sh _ _ _ _ _ _).mono ?_
      rintro e z51 ⟨rfl, hq⟩
      clear k_x0 k_x1 k_x2 k_y0 k_y1 k_y2
      have L51_X0 := Lib.hid (Lst.q LX.out hq)
      clear LX
      have L51_R0 := Lib.hid (Lst.q LR2.out hq)
      clear LR2
      have B51_x := Lib.hid ((Q.block hq (lt_of_block HBX.out)).trans HBX.out)
      clear HBX
      have B51_y := Lib.hid ((Q.block hq (lt_of_block HBY.out)).trans HBY.out)
      clear HBY
      have Q51 := Lib.hid (Q.trans QR.out hq)
      clear QR
      clear hq
      obtain ⟨k_x0, k_x1, k_x2, _, _, _⟩ := Er.block_cells B51_x.out
      obtain ⟨k_y0, k_y1, k_y2, _, _, _⟩ := Er.block_cells B51_y.out
      go_wp2_with fail
      refine (PP.out _ _ L51_X0.out).mono ?_
      rintro e z52 ⟨a5, c5x, rfl, hx, hq⟩
      clear k_x0 k_x1 k_x2 k_y0 k_y1 k_y2
      have L52_X0 := Lib.hid (Lst.q L51_X0.out hq)
      clear L51_X0
      have L52_R0 := Lib.hid (Lst.q L51_R0.out hq)
      clear L51_R0
      have B52_x := Lib.hid ((Q.block hq (lt_of_block B51_x.out)).trans B51_x.out)
      clear B51_x
      have B52_y := Lib.hid ((Q.block hq (lt_of_block B51_y.out)).trans B51_y.out)
      clear B51_y
      have Q52 := Lib.hid (Q.trans Q51.out hq)
      clear Q51
      have L52_A := Lib.hid hx.lst
      clear hx
      clear hq
      have hq := (Q.refl z52).alloc (.cells #[.bool gr, .slice a5 rz c5x, .int .i64 sr] 27)
      have hb := heap_alloc_new z52 (.cells #[.bool gr, .slice a5 rz c5x, .int .i64 sr] 27)
      have L53_X0 := Lib.hid (Lst.q L52_X0.out hq)
      clear L52_X0
      have L53_R0 := Lib.hid (Lst.q L52_R0.out hq)
      clear L52_R0
      have L53_A := Lib.hid (Lst.q L52_A.out hq)
      clear L52_A
      have B53_x := Lib.hid ((Q.block hq (lt_of_block B52_x.out)).trans B52_x.out)
      clear B52_x
      have B53_y := Lib.hid ((Q.block hq (lt_of_block B52_y.out)).trans B52_y.out)
      clear B52_y
      have Q53 := Lib.hid (Q.trans Q52.out hq)
      clear Q52
      have B53_a := Lib.hid hb
      clear hb hq
      obtain ⟨k_x0, k_x1, k_x2, _, _, _⟩ := Er.block_cells B53_x.out
      obtain ⟨k_y0, k_y1, k_y2, _, _, _⟩ := Er.block_cells B53_y.out
      obtain ⟨k_a0, k_a1, k_a2, _, _, _⟩ := Er.block_cells B53_a.out
      go_wp2_with fail
      refine (RP.out _ _ L53_X0.out).mono ?_
      rintro e z54 ⟨a6, c6x, rfl, hx, hq⟩
      clear k_x0 k_x1 k_x2 k_y0 k_y1 k_y2 k_a0 k_a1 k_a2
      have L54_X0 := Lib.hid (Lst.q L53_X0.out hq)
      clear L53_X0
      have L54_R0 := Lib.hid (Lst.q L53_R0.out hq)
      clear L53_R0
      have L54_A := Lib.hid (Lst.q L53_A.out hq)
      clear L53_A
      have B54_x := Lib.hid ((Q.block hq (lt_of_block B53_x.out)).trans B53_x.out)
      clear B53_x
      have B54_y := Lib.hid ((Q.block hq (lt_of_block B53_y.out)).trans B53_y.out)
      clear B53_y
      have B54_a := Lib.hid ((Q.block hq (lt_of_block B53_a.out)).trans B53_a.out)
      clear B53_a
      have Q54 := Lib.hid (Q.trans Q53.out hq)
      clear Q53
      have L54_B := Lib.hid hx.lst
      clear hx
      clear hq
      have hq := (Q.refl z54).alloc (.cells #[.bool gr, .slice a6 rz c6x, .int .i64 sr] 24)
      have hb := heap_alloc_new z54 (.cells #[.bool gr, .slice a6 rz c6x, .int .i64 sr] 24)
      have L55_X0 := Lib.hid (Lst.q L54_X0.out hq)
      clear L54_X0
      have L55_R0 := Lib.hid (Lst.q L54_R0.out hq)
      clear L54_R0
      have L55_A := Lib.hid (Lst.q L54_A.out hq)
      clear L54_A
      have L55_B := Lib.hid (Lst.q L54_B.out hq)
      clear L54_B
      have B55_x := Lib.hid ((Q.block hq (lt_of_block B54_x.out)).trans B54_x.out)
      clear B54_x
      have B55_y := Lib.hid ((Q.block hq (lt_of_block B54_y.out)).trans B54_y.out)
      clear B54_y
      have B55_a := Lib.hid ((Q.block hq (lt_of_block B54_a.out)).trans B54_a.out)
      clear B54_a
      have Q55 := Lib.hid (Q.trans Q54.out hq)
      clear Q54
      have B55_b := Lib.hid hb
      clear hb hq
      have SQ := Lib.hid (fun u (q : Q ((z54.alloc (.cells #[.bool gr, .slice a6 rz c6x, .int .i64 sr] 24))) u) => (Ep.SB2.of B55_a.out B55_b.out q : Ep.SB2 ((z54.alloc (.cells #[.bool gr, .slice a6 rz c6x, .int .i64 sr] 24))) (z52.heap.size) gr (.slice a5 rz c5x) (sr) (z54.heap.size) gr (.slice a6 rz c6x) (sr) u))
      obtain ⟨k_x0, k_x1, k_x2, _, _, _⟩ := Er.block_cells B55_x.out
      obtain ⟨k_y0, k_y1, k_y2, _, _, _⟩ := Er.block_cells B55_y.out
      obtain ⟨k_a0, k_a1, k_a2, _, _, _⟩ := Er.block_cells B55_a.out
      obtain ⟨k_b0, k_b1, k_b2, _, _, _⟩ := Er.block_cells B55_b.out
      go_wp2_with fail
      clear k_x0 k_x1 k_x2 k_y0 k_y1 k_y2 k_a0 k_a1 k_a2 k_b0 k_b1 k_b2
      refine wp_region_held_drew (S := fun u => Ep.SB2 ((z54.alloc (.cells #[.bool gr, .slice a6 rz c6x, .int .i64 sr] 24))) (z52.heap.size) gr (.slice a5 rz c5x) (sr) (z54.heap.size) gr (.slice a6 rz c6x) (sr) u) (by kernel_rfl) (by exact SQ.out _ ((Q.refl (z54.alloc (.cells #[.bool gr, .slice a6 rz c6x, .int .i64 sr] 24))).drew)) (fun hHeld => ?_)
      have hS : Ep.SB2 ((z54.alloc (.cells #[.bool gr, .slice a6 rz c6x, .int .i64 sr] 24))) (z52.heap.size) gr (.slice a5 rz c5x) (sr) (z54.heap.size) gr (.slice a6 rz c6x) (sr) (z54.alloc (.cells #[.bool gr, .slice a6 rz c6x, .int .i64 sr] 24)).drew := hHeld
      clear hHeld
      generalize (z54.alloc (.cells #[.bool gr, .slice a6 rz c6x, .int .i64 sr] 24)).drew = yT1x0 at hS ⊢
      refine wpAnyH_take (i := 0) (oi := { dst := some 48, op := Op.move (Operand.tmp 12), type := 28, pos := "law.go:34", after := #[], guard := none }) (v := ?vT1x1) rfl (by kernel_rfl) (by kernel_rfl) (by kernel_rfl) (fun _ _ _ h => h) (Or.inl ⟨by rfl, ?hyT1x1⟩) (by exact hS) ?rsT1x1
      case hyT1x1 => (intro w hSw; (try dsimp only at hSw); unfold Ep.SB2 at hSw; go_simp; try with_reducible rfl)
      try simp only [Act.put, List.setIfInBounds_toArray, List.set_cons_zero, List.set_cons_succ]
      refine wpAnyH_take (i := 1) (oi := { dst := some 49, op := Op.move (Operand.tmp 14), type := 28, pos := "law.go:34", after := #[], guard := none }) (v := ?vT1x2) rfl (by kernel_rfl) (by kernel_rfl) (by kernel_rfl) (fun _ _ _ h => h) (Or.inl ⟨by rfl, ?hyT1x2⟩) (by exact hS) ?rsT1x2
      case hyT1x2 => (intro w hSw; (try dsimp only at hSw); unfold Ep.SB2 at hSw; go_simp; try with_reducible rfl)
      try simp only [Act.put, List.setIfInBounds_toArray, List.set_cons_zero, List.set_cons_succ]
      refine wpAnyH_take (i := 2) (oi := { dst := some 50, op := Op.binOp BinOp.neq 28 (Operand.tmp 48) (Operand.tmp 49) 28, type := 4, pos := "law.go:34", after := #[{ on := 0, ground := Ground.data }, { on := 1, ground := Ground.data }], guard := none }) (v := ?vT1x3) rfl (by kernel_rfl) (by kernel_rfl) (by kernel_rfl) (fun _ _ _ h => h) (Or.inl ⟨by rfl, ?hyT1x3⟩) (by exact hS) ?rsT1x3
      case hyT1x3 => (intro w hSw; (try dsimp only at hSw); unfold Ep.SB2 at hSw; go_simp; try with_reducible rfl)
      try simp only [Act.put, List.setIfInBounds_toArray, List.set_cons_zero, List.set_cons_succ]
      refine wpAnyH_take (i := 3) (oi := { dst := some 51, op := Op.move (Operand.tmp 50), type := 4, pos := "law.go:34", after := #[{ on := 2, ground := Ground.data }], guard := none }) (v := ?vT1x4) rfl (by kernel_rfl) (by kernel_rfl) (by kernel_rfl) (fun _ _ _ h => h) (Or.inl ⟨by rfl, ?hyT1x4⟩) (by exact hS) ?rsT1x4
      case hyT1x4 => (intro w hSw; (try dsimp only at hSw); unfold Ep.SB2 at hSw; go_simp; try with_reducible rfl)
      try simp only [Act.put, List.setIfInBounds_toArray, List.set_cons_zero, List.set_cons_succ]
      refine wpAnyH_take (i := 4) (oi := { dst := some 52, op := Op.load 27 (Operand.tmp 11), type := 27, pos := "law.go:34", after := #[{ on := 3, ground := Ground.guard }], guard := some (3, false) }) (v := ?vT1x5) rfl (by kernel_rfl) (by kernel_rfl) (by kernel_rfl) (fun _ _ _ h => h) (Or.inl ⟨by rfl, ?hyT1x5⟩) (by exact hS) ?rsT1x5
      case hyT1x5 => (intro w hSw; (try dsimp only at hSw); unfold Ep.SB2 at hSw; go_simp; try with_reducible rfl)
      try simp only [Act.put, List.setIfInBounds_toArray, List.set_cons_zero, List.set_cons_succ]
      refine wpAnyH_take (i := 6) (oi := { dst := some 54, op := Op.load 24 (Operand.tmp 13), type := 24, pos := "law.go:34", after := #[{ on := 3, ground := Ground.guard }], guard := some (3, false) }) (v := ?vT1x6) rfl (by kernel_rfl) (by kernel_rfl) (by kernel_rfl) (fun _ _ _ h => h) (Or.inl ⟨by rfl, ?hyT1x6⟩) (by exact hS) ?rsT1x6
      case hyT1x6 => (intro w hSw; (try dsimp only at hSw); unfold Ep.SB2 at hSw; go_simp; try with_reducible rfl)
      try simp only [Act.put, List.setIfInBounds_toArray, List.set_cons_zero, List.set_cons_succ]
      refine wpAnyH_ready (rs := [5]) (by kernel_rfl) (by simp) ?_
      refine (AllReadyH.cons (o := { dst := some 53, op := Op.call { callee := Callee.value (Operand.func 17), args := #[Operand.tmp 52], argTypes := #[27] }, type := 24, pos := "law.go:34", after := #[{ on := 4, ground := Ground.data }, { on := 3, ground := Ground.chain }, { on := 3, ground := Ground.guard }], guard := some (3, false) }) rfl (fun K hK => ?_) AllReadyH.nil)
      go_simp
      refine (Rl.as_sh _ _ _ _ _ _).mono ?_
      rintro e yT1x7 ⟨rfl, hq⟩
      try (go_wp2_with fail)
      have hS2 := SQ.out _ (Q.trans (Ep.SB2.here hS) hq)
      refine hK.out _ _ (by exact hS2) (fun hHeld => ?_)
      clear hK K hHeld hS hq
      have hS := hS2
      clear hS2
      try simp only [Act.put, List.setIfInBounds_toArray, List.set_cons_zero, List.set_cons_succ]
      refine wpAnyH_ready (rs := [7]) (by kernel_rfl) (by simp) ?_
      refine (AllReadyH.cons (o := { dst := some 55, op := Op.call { callee := Callee.value (Operand.func 16), args := #[Operand.tmp 53, Operand.tmp 54], argTypes := #[24, 24] }, type := 4, pos := "law.go:34", after := #[{ on := 5, ground := Ground.data }, { on := 6, ground := Ground.data }, { on := 5, ground := Ground.chain }, { on := 3, ground := Ground.guard }], guard := some (3, false) }) rfl (fun K hK => ?_) AllReadyH.nil)
      go_simp
      refine (HSM.out _ _ _ _ _ (L55_A.out.q (Ep.SB2.here hS)) (L55_B.out.q (Ep.SB2.here hS))).mono ?_
      rintro e yT1x8 ⟨rfl, hq⟩
      try (go_wp2_with fail)
      have hS2 := SQ.out _ (Q.trans (Ep.SB2.here hS) hq)
      refine hK.out _ _ (by exact hS2) (fun hHeld => ?_)
      clear hK K hHeld hS hq
      have hS := hS2
      clear hS2
      try simp only [Act.put, List.setIfInBounds_toArray, List.set_cons_zero, List.set_cons_succ]
      refine wpAnyH_take (i := 8) (oi := { dst := some 56, op := Op.unOp UnOp.not 4 (Operand.tmp 55), type := 4, pos := "law.go:34", after := #[{ on := 7, ground := Ground.data }, { on := 3, ground := Ground.guard }], guard := some (3, false) }) (v := ?vT1x9) rfl (by kernel_rfl) (by kernel_rfl) (by kernel_rfl) (fun _ _ _ h => h) (Or.inl ⟨by rfl, ?hyT1x9⟩) (by exact hS) ?rsT1x9
      case hyT1x9 => (intro w hSw; (try dsimp only at hSw); unfold Ep.SB2 at hSw; go_simp; try with_reducible rfl)
      try simp only [Act.put, List.setIfInBounds_toArray, List.set_cons_zero, List.set_cons_succ]
      refine wpAnyH_take (i := 9) (oi := { dst := some 57, op := Op.pick (Operand.tmp 51) (Operand.const (Value.bool true)) (Operand.tmp 56), type := 4, pos := "law.go:34", after := #[{ on := 3, ground := Ground.data }, { on := 8, ground := Ground.data }], guard := none }) (v := ?vT1x10) rfl (by kernel_rfl) (by kernel_rfl) (by kernel_rfl) (fun _ _ _ h => h) (Or.inl ⟨by rfl, ?hyT1x10⟩) (by exact hS) ?rsT1x10
      case hyT1x10 => (intro w hSw; (try dsimp only at hSw); unfold Ep.SB2 at hSw; go_simp; try with_reducible rfl)
      try simp only [Act.put, List.setIfInBounds_toArray, List.set_cons_zero, List.set_cons_succ]
      refine wpAnyH_done (by kernel_rfl) ?_ _
      have hqr := Ep.SB2.here hS
      clear hS SQ
      have L56_X0 := Lib.hid (Lst.q L55_X0.out hqr)
      clear L55_X0
      have L56_R0 := Lib.hid (Lst.q L55_R0.out hqr)
      clear L55_R0
      have L56_A := Lib.hid (Lst.q L55_A.out hqr)
      clear L55_A
      have L56_B := Lib.hid (Lst.q L55_B.out hqr)
      clear L55_B
      have B56_x := Lib.hid ((Q.block hqr (lt_of_block B55_x.out)).trans B55_x.out)
      clear B55_x
      have B56_y := Lib.hid ((Q.block hqr (lt_of_block B55_y.out)).trans B55_y.out)
      clear B55_y
      have B56_a := Lib.hid ((Q.block hqr (lt_of_block B55_a.out)).trans B55_a.out)
      clear B55_a
      have B56_b := Lib.hid ((Q.block hqr (lt_of_block B55_b.out)).trans B55_b.out)
      clear B55_b
      have Q56 := Lib.hid (Q.trans Q55.out hqr)
      clear Q55
      clear hqr
      go_wp2_with fail
      exact ⟨⟨m + 1, by first | rfl | go_num, by omega, by omega, B56_x.out, B56_y.out, Q56.out⟩, by simp [intOf]; omega⟩
    · have hm8 : m = 8 := by omega
      subst hm8
      have QRW := Lib.hid (Q4.out.trans QR.out)
      clear QR
      obtain ⟨k_x0, k_x1, k_x2, _, _, _⟩ := Er.block_cells HBX.out
      obtain ⟨k_y0, k_y1, k_y2, _, _, _⟩ := Er.block_cells HBY.out
      go_wp2_with fail
      refine (Rl.of_sh _ _ _ _ _ _).mono ?_
      rintro e z51 ⟨rfl, hq⟩
      clear k_x0 k_x1 k_x2 k_y0 k_y1 k_y2
      have L51_X0 := Lib.hid (Lst.q LX.out hq)
      clear LX
      have L51_R0 := Lib.hid (Lst.q LR2.out hq)
      clear LR2
      have B51_x := Lib.hid ((Q.block hq (lt_of_block HBX.out)).trans HBX.out)
      clear HBX
      have B51_y := Lib.hid ((Q.block hq (lt_of_block HBY.out)).trans HBY.out)
      clear HBY
      have Q51 := Lib.hid (Q.trans QRW.out hq)
      clear QRW
      clear hq
      obtain ⟨k_x0, k_x1, k_x2, _, _, _⟩ := Er.block_cells B51_x.out
      obtain ⟨k_y0, k_y1, k_y2, _, _, _⟩ := Er.block_cells B51_y.out
      go_wp2_with fail
      refine (F5.out _ _ L51_R0.out).mono ?_
      rintro e z52 ⟨a5, c5x, rfl, hx, hq⟩
      clear k_x0 k_x1 k_x2 k_y0 k_y1 k_y2
      have L52_X0 := Lib.hid (Lst.q L51_X0.out hq)
      clear L51_X0
      have L52_R0 := Lib.hid (Lst.q L51_R0.out hq)
      clear L51_R0
      have B52_x := Lib.hid ((Q.block hq (lt_of_block B51_x.out)).trans B51_x.out)
      clear B51_x
      have B52_y := Lib.hid ((Q.block hq (lt_of_block B51_y.out)).trans B51_y.out)
      clear B51_y
      have Q52 := Lib.hid (Q.trans Q51.out hq)
      clear Q51
      have L52_A5 := Lib.hid hx.lst
      clear hx
      clear hq
      have hq := (Q.refl z52).alloc (.cells #[.bool gr5, .slice a5 r5 c5x, .int .i64 sr5] 27)
      have hb := heap_alloc_new z52 (.cells #[.bool gr5, .slice a5 r5 c5x, .int .i64 sr5] 27)
      have L53_X0 := Lib.hid (Lst.q L52_X0.out hq)
      clear L52_X0
      have L53_R0 := Lib.hid (Lst.q L52_R0.out hq)
      clear L52_R0
      have L53_A5 := Lib.hid (Lst.q L52_A5.out hq)
      clear L52_A5
      have B53_x := Lib.hid ((Q.block hq (lt_of_block B52_x.out)).trans B52_x.out)
      clear B52_x
      have B53_y := Lib.hid ((Q.block hq (lt_of_block B52_y.out)).trans B52_y.out)
      clear B52_y
      have Q53 := Lib.hid (Q.trans Q52.out hq)
      clear Q52
      have B53_a := Lib.hid hb
      clear hb hq
      obtain ⟨k_x0, k_x1, k_x2, _, _, _⟩ := Er.block_cells B53_x.out
      obtain ⟨k_y0, k_y1, k_y2, _, _, _⟩ := Er.block_cells B53_y.out
      obtain ⟨k_a0, k_a1, k_a2, _, _, _⟩ := Er.block_cells B53_a.out
      go_wp2_with fail
      refine (K5.out _ _ L53_R0.out).mono ?_
      rintro e z54 ⟨a6, c6x, rfl, hx, hq⟩
      clear k_x0 k_x1 k_x2 k_y0 k_y1 k_y2 k_a0 k_a1 k_a2
      have L54_X0 := Lib.hid (Lst.q L53_X0.out hq)
      clear L53_X0
      have L54_R0 := Lib.hid (Lst.q L53_R0.out hq)
      clear L53_R0
      have L54_A5 := Lib.hid (Lst.q L53_A5.out hq)
      clear L53_A5
      have B54_x := Lib.hid ((Q.block hq (lt_of_block B53_x.out)).trans B53_x.out)
      clear B53_x
      have B54_y := Lib.hid ((Q.block hq (lt_of_block B53_y.out)).trans B53_y.out)
      clear B53_y
      have B54_a := Lib.hid ((Q.block hq (lt_of_block B53_a.out)).trans B53_a.out)
      clear B53_a
      have Q54 := Lib.hid (Q.trans Q53.out hq)
      clear Q53
      have L54_B5 := Lib.hid hx.lst
      clear hx
      clear hq
      have hq := (Q.refl z54).alloc (.cells #[.bool gr5, .slice a6 r5 c6x, .int .i64 sr5] 24)
      have hb := heap_alloc_new z54 (.cells #[.bool gr5, .slice a6 r5 c6x, .int .i64 sr5] 24)
      have L55_X0 := Lib.hid (Lst.q L54_X0.out hq)
      clear L54_X0
      have L55_R0 := Lib.hid (Lst.q L54_R0.out hq)
      clear L54_R0
      have L55_A5 := Lib.hid (Lst.q L54_A5.out hq)
      clear L54_A5
      have L55_B5 := Lib.hid (Lst.q L54_B5.out hq)
      clear L54_B5
      have B55_x := Lib.hid ((Q.block hq (lt_of_block B54_x.out)).trans B54_x.out)
      clear B54_x
      have B55_y := Lib.hid ((Q.block hq (lt_of_block B54_y.out)).trans B54_y.out)
      clear B54_y
      have B55_a := Lib.hid ((Q.block hq (lt_of_block B54_a.out)).trans B54_a.out)
      clear B54_a
      have Q55 := Lib.hid (Q.trans Q54.out hq)
      clear Q54
      have B55_b := Lib.hid hb
      clear hb hq
      obtain ⟨k_x0, k_x1, k_x2, _, _, _⟩ := Er.block_cells B55_x.out
      obtain ⟨k_y0, k_y1, k_y2, _, _, _⟩ := Er.block_cells B55_y.out
      obtain ⟨k_a0, k_a1, k_a2, _, _, _⟩ := Er.block_cells B55_a.out
      obtain ⟨k_b0, k_b1, k_b2, _, _, _⟩ := Er.block_cells B55_b.out
      go_wp2_with fail
      refine (Rl.of_sh _ _ _ _ _ _).mono ?_
      rintro e z56 ⟨rfl, hq⟩
      clear k_x0 k_x1 k_x2 k_y0 k_y1 k_y2 k_a0 k_a1 k_a2 k_b0 k_b1 k_b2
      have L56_X0 := Lib.hid (Lst.q L55_X0.out hq)
      clear L55_X0
      have L56_R0 := Lib.hid (Lst.q L55_R0.out hq)
      clear L55_R0
      have L56_A5 := Lib.hid (Lst.q L55_A5.out hq)
      clear L55_A5
      have L56_B5 := Lib.hid (Lst.q L55_B5.out hq)
      clear L55_B5
      have B56_x := Lib.hid ((Q.block hq (lt_of_block B55_x.out)).trans B55_x.out)
      clear B55_x
      have B56_y := Lib.hid ((Q.block hq (lt_of_block B55_y.out)).trans B55_y.out)
      clear B55_y
      have B56_a := Lib.hid ((Q.block hq (lt_of_block B55_a.out)).trans B55_a.out)
      clear B55_a
      have B56_b := Lib.hid ((Q.block hq (lt_of_block B55_b.out)).trans B55_b.out)
      clear B55_b
      have Q56 := Lib.hid (Q.trans Q55.out hq)
      clear Q55
      clear hq
      obtain ⟨k_x0, k_x1, k_x2, _, _, _⟩ := Er.block_cells B56_x.out
      obtain ⟨k_y0, k_y1, k_y2, _, _, _⟩ := Er.block_cells B56_y.out
      obtain ⟨k_a0, k_a1, k_a2, _, _, _⟩ := Er.block_cells B56_a.out
      obtain ⟨k_b0, k_b1, k_b2, _, _, _⟩ := Er.block_cells B56_b.out
      go_wp2_with fail
      refine (AR2.out _).mono ?_
      rintro e y ⟨rfl, rfl⟩
      clear k_x0 k_x1 k_x2 k_y0 k_y1 k_y2 k_a0 k_a1 k_a2 k_b0 k_b1 k_b2
      obtain ⟨k_x0, k_x1, k_x2, _, _, _⟩ := Er.block_cells B56_x.out
      obtain ⟨k_y0, k_y1, k_y2, _, _, _⟩ := Er.block_cells B56_y.out
      obtain ⟨k_a0, k_a1, k_a2, _, _, _⟩ := Er.block_cells B56_a.out
      obtain ⟨k_b0, k_b1, k_b2, _, _, _⟩ := Er.block_cells B56_b.out
      go_wp2_with fail
      refine (F9.out _ _ L56_X0.out).mono ?_
      rintro e z57 ⟨a7, c7x, rfl, hx, hq⟩
      clear k_x0 k_x1 k_x2 k_y0 k_y1 k_y2 k_a0 k_a1 k_a2 k_b0 k_b1 k_b2
      have L57_X0 := Lib.hid (Lst.q L56_X0.out hq)
      clear L56_X0
      have L57_R0 := Lib.hid (Lst.q L56_R0.out hq)
      clear L56_R0
      have L57_A5 := Lib.hid (Lst.q L56_A5.out hq)
      clear L56_A5
      have L57_B5 := Lib.hid (Lst.q L56_B5.out hq)
      clear L56_B5
      have B57_x := Lib.hid ((Q.block hq (lt_of_block B56_x.out)).trans B56_x.out)
      clear B56_x
      have B57_y := Lib.hid ((Q.block hq (lt_of_block B56_y.out)).trans B56_y.out)
      clear B56_y
      have B57_a := Lib.hid ((Q.block hq (lt_of_block B56_a.out)).trans B56_a.out)
      clear B56_a
      have B57_b := Lib.hid ((Q.block hq (lt_of_block B56_b.out)).trans B56_b.out)
      clear B56_b
      have Q57 := Lib.hid (Q.trans Q56.out hq)
      clear Q56
      have L57_A9 := Lib.hid hx.lst
      clear hx
      clear hq
      have hq := (Q.refl z57).alloc (.cells #[.bool gr9, .slice a7 r9 c7x, .int .i64 sr9] 27)
      have hb := heap_alloc_new z57 (.cells #[.bool gr9, .slice a7 r9 c7x, .int .i64 sr9] 27)
      have L58_X0 := Lib.hid (Lst.q L57_X0.out hq)
      clear L57_X0
      have L58_R0 := Lib.hid (Lst.q L57_R0.out hq)
      clear L57_R0
      have L58_A5 := Lib.hid (Lst.q L57_A5.out hq)
      clear L57_A5
      have L58_B5 := Lib.hid (Lst.q L57_B5.out hq)
      clear L57_B5
      have L58_A9 := Lib.hid (Lst.q L57_A9.out hq)
      clear L57_A9
      have B58_x := Lib.hid ((Q.block hq (lt_of_block B57_x.out)).trans B57_x.out)
      clear B57_x
      have B58_y := Lib.hid ((Q.block hq (lt_of_block B57_y.out)).trans B57_y.out)
      clear B57_y
      have B58_a := Lib.hid ((Q.block hq (lt_of_block B57_a.out)).trans B57_a.out)
      clear B57_a
      have B58_b := Lib.hid ((Q.block hq (lt_of_block B57_b.out)).trans B57_b.out)
      clear B57_b
      have Q58 := Lib.hid (Q.trans Q57.out hq)
      clear Q57
      have B58_c := Lib.hid hb
      clear hb hq
      have SQ := Lib.hid (fun u (q : Q ((z57.alloc (.cells #[.bool gr9, .slice a7 r9 c7x, .int .i64 sr9] 27))) u) => (Ep.SB1.of B58_x.out q : Ep.SB1 ((z57.alloc (.cells #[.bool gr9, .slice a7 r9 c7x, .int .i64 sr9] 27))) (z1.heap.size) g0 (.slice a1x p0 c1x) (t0) u))
      obtain ⟨k_x0, k_x1, k_x2, _, _, _⟩ := Er.block_cells B58_x.out
      obtain ⟨k_y0, k_y1, k_y2, _, _, _⟩ := Er.block_cells B58_y.out
      obtain ⟨k_a0, k_a1, k_a2, _, _, _⟩ := Er.block_cells B58_a.out
      obtain ⟨k_b0, k_b1, k_b2, _, _, _⟩ := Er.block_cells B58_b.out
      obtain ⟨k_c0, k_c1, k_c2, _, _, _⟩ := Er.block_cells B58_c.out
      go_upto_region 14 with fail
      go_cut [21, 22] (fun p e wx => ∃ b9 a9 c9, p = .pointer (some ⟨b9, 0, none⟩) ∧ e = .int .i64 er9 ∧ wx.heap[b9]? = some (.cells #[.bool gr9, .slice a9 r9 c9, .int .i64 sr9] 24) ∧ Lst wx (.slice a9 r9 c9) Z9 ∧ Q (z57.alloc (.cells #[.bool gr9, .slice a7 r9 c7x, .int .i64 sr9] 27)) wx)
      case first =>
        refine wp_region_held_drew (S := fun u => Ep.SB1 ((z57.alloc (.cells #[.bool gr9, .slice a7 r9 c7x, .int .i64 sr9] 27))) (z1.heap.size) g0 (.slice a1x p0 c1x) (t0) u) (by kernel_rfl) (by exact SQ.out _ ((Q.refl (z57.alloc (.cells #[.bool gr9, .slice a7 r9 c7x, .int .i64 sr9] 27))).drew)) (fun hHeld => ?_)
        have hS : Ep.SB1 ((z57.alloc (.cells #[.bool gr9, .slice a7 r9 c7x, .int .i64 sr9] 27))) (z1.heap.size) g0 (.slice a1x p0 c1x) (t0) (z57.alloc (.cells #[.bool gr9, .slice a7 r9 c7x, .int .i64 sr9] 27)).drew := hHeld
        clear hHeld
        generalize (z57.alloc (.cells #[.bool gr9, .slice a7 r9 c7x, .int .i64 sr9] 27)).drew = yT2x0 at hS ⊢
        refine wpAnyH_take (i := 0) (oi := { dst := some 83, op := Op.load 24 (Operand.tmp 7), type := 24, pos := "law.go:41", after := #[], guard := none }) (v := ?vT2x1) rfl (by kernel_rfl) (by kernel_rfl) (by kernel_rfl) (fun _ _ _ h => h) (Or.inl ⟨by rfl, ?hyT2x1⟩) (by exact hS) ?rsT2x1
        case hyT2x1 => (intro w hSw; (try dsimp only at hSw); unfold Ep.SB1 at hSw; go_simp; try with_reducible rfl)
        try simp only [Act.put, List.setIfInBounds_toArray, List.set_cons_zero, List.set_cons_succ]
        refine wpAnyH_take (i := 1) (oi := { dst := some 84, op := Op.move (Operand.tmp 1), type := 3, pos := "law.go:41", after := #[], guard := none }) (v := ?vT2x2) rfl (by kernel_rfl) (by kernel_rfl) (by kernel_rfl) (fun _ _ _ h => h) (Or.inl ⟨by rfl, ?hyT2x2⟩) (by exact hS) ?rsT2x2
        case hyT2x2 => (intro w hSw; (try dsimp only at hSw); unfold Ep.SB1 at hSw; go_simp; try with_reducible rfl)
        try simp only [Act.put, List.setIfInBounds_toArray, List.set_cons_zero, List.set_cons_succ]
        refine wpAnyH_take (i := 2) (oi := { dst := some 85, op := Op.move (Operand.tmp 2), type := 3, pos := "law.go:41", after := #[], guard := none }) (v := ?vT2x3) rfl (by kernel_rfl) (by kernel_rfl) (by kernel_rfl) (fun _ _ _ h => h) (Or.inl ⟨by rfl, ?hyT2x3⟩) (by exact hS) ?rsT2x3
        case hyT2x3 => (intro w hSw; (try dsimp only at hSw); unfold Ep.SB1 at hSw; go_simp; try with_reducible rfl)
        try simp only [Act.put, List.setIfInBounds_toArray, List.set_cons_zero, List.set_cons_succ]
        refine wpAnyH_ready (rs := [3, 8]) (by kernel_rfl) (by simp) ?_
        refine (AllReadyH.cons (o := { dst := some 86, op := Op.call { callee := Callee.value (Operand.func 12), args := #[Operand.tmp 85, Operand.const (Value.int IntKind.i64 7)], argTypes := #[3, 3] }, type := 3, pos := "law.go:41", after := #[{ on := 2, ground := Ground.data }], guard := none }) rfl (fun K hK => ?_) (AllReadyH.cons (o := { dst := some 21, op := Op.alloc 24, type := 0, pos := "law.go:41", after := #[], guard := none }) rfl (fun K hK => ?_) AllReadyH.nil))
        · go_simp
          refine (AQ2.out _).mono ?_
          rintro e yT2x4 ⟨rfl, hq⟩
          try (go_wp2_with fail)
          have hS2 := SQ.out _ (Q.trans (Ep.SB1.here hS) hq)
          refine hK.out _ _ (by exact hS2) (fun hHeld => ?_)
          clear hK K hHeld hS hq
          have hS := hS2
          clear hS2
          try simp only [Act.put, List.setIfInBounds_toArray, List.set_cons_zero, List.set_cons_succ]
          refine wpAnyH_ready (rs := [4, 8]) (by kernel_rfl) (by simp) ?_
          refine (AllReadyH.cons (o := { dst := some 87, op := Op.call { callee := Callee.value (Operand.func 15), args := #[Operand.tmp 83, Operand.tmp 84, Operand.tmp 86], argTypes := #[24, 3, 3] }, type := 32, pos := "law.go:41", after := #[{ on := 0, ground := Ground.data }, { on := 1, ground := Ground.data }, { on := 3, ground := Ground.data }, { on := 3, ground := Ground.chain }], guard := none }) rfl (fun K hK => ?_) (AllReadyH.cons (o := { dst := some 21, op := Op.alloc 24, type := 0, pos := "law.go:41", after := #[], guard := none }) rfl (fun K hK => ?_) AllReadyH.nil))
          · go_simp
            refine (K9.out _ _ (L58_X0.out.q (Ep.SB1.here hS))).mono ?_
            rintro e yT2x5 ⟨a9, c9, rfl, hx9, hq⟩
            try (go_wp2_with fail)
            have hlf := hx9
            have hx9 := Rr.lf_lst hlf
            clear hlf
            have hS2 := SQ.out _ (Q.trans (Ep.SB1.here hS) hq)
            refine hK.out _ _ (by exact hS2) (fun hHeld => ?_)
            clear hK K hHeld hS hq
            have hS := hS2
            clear hS2
            try simp only [Act.put, List.setIfInBounds_toArray, List.set_cons_zero, List.set_cons_succ]
            refine wpAnyH_take (i := 5) (oi := { dst := some 82, op := Op.move (Operand.tmp 87), type := 32, pos := "law.go:41", after := #[{ on := 4, ground := Ground.data }], guard := none }) (v := ?vT2x6) rfl (by kernel_rfl) (by kernel_rfl) (by kernel_rfl) (fun _ _ _ h => h) (Or.inl ⟨by rfl, ?hyT2x6⟩) (by exact hS) ?rsT2x6
            case hyT2x6 => (intro w hSw; (try dsimp only at hSw); unfold Ep.SB1 at hSw; go_simp; try with_reducible rfl)
            try simp only [Act.put, List.setIfInBounds_toArray, List.set_cons_zero, List.set_cons_succ]
            refine wpAnyH_take (i := 6) (oi := { dst := some 88, op := Op.extract (Operand.tmp 82) 0, type := 24, pos := "law.go:41", after := #[{ on := 5, ground := Ground.data }], guard := none }) (v := ?vT2x7) rfl (by kernel_rfl) (by kernel_rfl) (by kernel_rfl) (fun _ _ _ h => h) (Or.inl ⟨by rfl, ?hyT2x7⟩) (by exact hS) ?rsT2x7
            case hyT2x7 => (intro w hSw; (try dsimp only at hSw); unfold Ep.SB1 at hSw; go_simp; try with_reducible rfl)
            try simp only [Act.put, List.setIfInBounds_toArray, List.set_cons_zero, List.set_cons_succ]
            refine wpAnyH_take (i := 7) (oi := { dst := some 89, op := Op.extract (Operand.tmp 82) 1, type := 28, pos := "law.go:41", after := #[{ on := 5, ground := Ground.data }, { on := 9, ground := Ground.gcOnly Departure.lateStores }], guard := none }) (v := ?vT2x8) rfl (by kernel_rfl) (by kernel_rfl) (by kernel_rfl) (fun _ _ _ h => h) (Or.inl ⟨by rfl, ?hyT2x8⟩) (by exact hS) ?rsT2x8
            case hyT2x8 => (intro w hSw; (try dsimp only at hSw); unfold Ep.SB1 at hSw; go_simp; try with_reducible rfl)
            try simp only [Act.put, List.setIfInBounds_toArray, List.set_cons_zero, List.set_cons_succ]
            refine wpAnyH_ready (rs := [8]) (by kernel_rfl) (by simp) ?_
            refine (AllReadyH.cons (o := { dst := some 21, op := Op.alloc 24, type := 0, pos := "law.go:41", after := #[], guard := none }) rfl (fun K hK => ?_) AllReadyH.nil)
            go_simp
            have hq := (Q.refl yT2x5).alloc (.cells #[.bool false, .slice none 0 0, .int .i64 0] 24)
            have hB := heap_alloc_new yT2x5 (.cells #[.bool false, .slice none 0 0, .int .i64 0] 24)
            have hbu : yT2x5.heap.size < (yT2x5.alloc (.cells #[.bool false, .slice none 0 0, .int .i64 0] 24)).heap.size := by rw [World.size_alloc]; omega
            have hWb := (Ep.SB1.here hS).le
            have hne_hx9 : ∀ (a : Addr) (n c : Nat), (.slice a9 r9 c9 : Value) = .slice (some a) n c → n ≠ 0 → a.block ≠ yT2x5.heap.size := fun a n c h1 h2 => Nat.ne_of_lt (Lst.old hx9 a n c h1 h2)
            have hx9 := Lst.q hx9 hq
            have hS2 := SQ.out _ (Q.trans (Ep.SB1.here hS) hq)
            refine hK.out _ _ (by exact hS2) (fun hHeld => ?_)
            clear hK K hHeld hS hq
            have hS := hS2
            clear hS2
            generalize yT2x5.alloc (.cells #[.bool false, .slice none 0 0, .int .i64 0] 24) = yT2x9 at *
            generalize yT2x5.heap.size = b9 at *
            have hne := hne_hx9
            try simp only [Act.put, List.setIfInBounds_toArray, List.set_cons_zero, List.set_cons_succ]
            refine wpAnyH_ready (rs := [9]) (by kernel_rfl) (by simp) ?_
            refine (AllReadyH.cons (o := { dst := none, op := Op.store 24 (Operand.tmp 21) (Operand.tmp 88), type := 0, pos := "law.go:41", after := #[{ on := 8, ground := Ground.data }, { on := 6, ground := Ground.data }, { on := 4, ground := Ground.chain }, { on := 0, ground := Ground.phase }, { on := 1, ground := Ground.phase }, { on := 2, ground := Ground.phase }, { on := 3, ground := Ground.phase }, { on := 4, ground := Ground.phase }, { on := 5, ground := Ground.phase }, { on := 6, ground := Ground.phase }, { on := 7, ground := Ground.textOnly Departure.lateStores }, { on := 8, ground := Ground.phase }], guard := none }) rfl (fun K hK => ?_) AllReadyH.nil)
            obtain ⟨f0, f1, f2, f3, f4, f5⟩ := Er.block_cells hB
            have hset := Er.block_set (x' := .bool gr9) (y' := .slice a9 r9 c9) (z' := .int .i64 sr9) hB
            have hqW := ((Q.setCell (Q.setCell (Q.setCell (Ep.SB1.here hS) (ad := ⟨b9, 0, none⟩) hWb (.bool gr9)) (ad := ⟨b9, 1, none⟩) hWb (.slice a9 r9 c9)) (ad := ⟨b9, 2, none⟩) hWb (.int .i64 sr9)))
            have hl := Lst.setCell (Lst.setCell (Lst.setCell hx9 (ad := ⟨b9, 0, none⟩) (.bool gr9) hne) (ad := ⟨b9, 1, none⟩) (.slice a9 r9 c9) hne) (ad := ⟨b9, 2, none⟩) (.int .i64 sr9) hne
            go_simp
            have hS2 := SQ.out _ hqW
            refine hK.out _ _ (by exact hS2) (fun hHeld => ?_)
            clear hK K hHeld hS
            have hS := hS2
            clear hS2 f0 f1 f2 f3 f4 f5
            try simp only [Act.put, List.setIfInBounds_toArray, List.set_cons_zero, List.set_cons_succ]
            refine wpAnyH_take (i := 10) (oi := { dst := some 22, op := Op.assign (Operand.tmp 89), type := 28, pos := "law.go:41", after := #[{ on := 7, ground := Ground.data }, { on := 9, ground := Ground.chain }, { on := 0, ground := Ground.phase }, { on := 1, ground := Ground.phase }, { on := 2, ground := Ground.phase }, { on := 3, ground := Ground.phase }, { on := 4, ground := Ground.phase }, { on := 5, ground := Ground.phase }, { on := 6, ground := Ground.phase }, { on := 7, ground := Ground.phase }, { on := 8, ground := Ground.phase }, { on := 9, ground := Ground.phase }], guard := none }) (v := ?vT2x11) rfl (by kernel_rfl) (by kernel_rfl) (by kernel_rfl) (fun _ _ _ h => h) (Or.inl ⟨by rfl, ?hyT2x11⟩) (by exact hS) ?rsT2x11
            case hyT2x11 => (intro w hSw; (try dsimp only at hSw); unfold Ep.SB1 at hSw; go_simp; try with_reducible rfl)
            try simp only [Act.put, List.setIfInBounds_toArray, List.set_cons_zero, List.set_cons_succ]
            refine wpAnyH_done (by kernel_rfl) ?_ _
            go_wp2_with fail
            go_meet
            exact ⟨b9, a9, c9, rfl, rfl, hset, hl, hqW⟩
          · go_simp
            have hq := (Q.refl yT2x4).alloc (.cells #[.bool false, .slice none 0 0, .int .i64 0] 24)
            have hB := heap_alloc_new yT2x4 (.cells #[.bool false, .slice none 0 0, .int .i64 0] 24)
            have hbu : yT2x4.heap.size < (yT2x4.alloc (.cells #[.bool false, .slice none 0 0, .int .i64 0] 24)).heap.size := by rw [World.size_alloc]; omega
            have hWb := (Ep.SB1.here hS).le
            have hS2 := SQ.out _ (Q.trans (Ep.SB1.here hS) hq)
            refine hK.out _ _ (by exact hS2) (fun hHeld => ?_)
            clear hK K hHeld hS hq
            have hS := hS2
            clear hS2
            generalize yT2x4.alloc (.cells #[.bool false, .slice none 0 0, .int .i64 0] 24) = yT2x12 at *
            generalize yT2x4.heap.size = b9 at *
            try simp only [Act.put, List.setIfInBounds_toArray, List.set_cons_zero, List.set_cons_succ]
            refine wpAnyH_ready (rs := [4]) (by kernel_rfl) (by simp) ?_
            refine (AllReadyH.cons (o := { dst := some 87, op := Op.call { callee := Callee.value (Operand.func 15), args := #[Operand.tmp 83, Operand.tmp 84, Operand.tmp 86], argTypes := #[24, 3, 3] }, type := 32, pos := "law.go:41", after := #[{ on := 0, ground := Ground.data }, { on := 1, ground := Ground.data }, { on := 3, ground := Ground.data }, { on := 3, ground := Ground.chain }], guard := none }) rfl (fun K hK => ?_) AllReadyH.nil)
            go_simp
            refine (K9.out _ _ (L58_X0.out.q (Ep.SB1.here hS))).mono ?_
            rintro e yT2x13 ⟨a9, c9, rfl, hx9, hq⟩
            try (go_wp2_with fail)
            have hB := (Q.block hq (lt_of_block hB)).trans hB
            have hlf := hx9
            have hx9 := Rr.lf_lst hlf
            have hne : ∀ (a : Addr) (n c : Nat), (.slice a9 r9 c9 : Value) = .slice (some a) n c → n ≠ 0 → a.block ≠ b9 := Rr.lf_ne hlf hbu
            clear hlf
            have hS2 := SQ.out _ (Q.trans (Ep.SB1.here hS) hq)
            have hbu := Nat.lt_of_lt_of_le hbu hq.le
            refine hK.out _ _ (by exact hS2) (fun hHeld => ?_)
            clear hK K hHeld hS hq
            have hS := hS2
            clear hS2
            try simp only [Act.put, List.setIfInBounds_toArray, List.set_cons_zero, List.set_cons_succ]
            refine wpAnyH_take (i := 5) (oi := { dst := some 82, op := Op.move (Operand.tmp 87), type := 32, pos := "law.go:41", after := #[{ on := 4, ground := Ground.data }], guard := none }) (v := ?vT2x14) rfl (by kernel_rfl) (by kernel_rfl) (by kernel_rfl) (fun _ _ _ h => h) (Or.inl ⟨by rfl, ?hyT2x14⟩) (by exact hS) ?rsT2x14
            case hyT2x14 => (intro w hSw; (try dsimp only at hSw); unfold Ep.SB1 at hSw; go_simp; try with_reducible rfl)
            try simp only [Act.put, List.setIfInBounds_toArray, List.set_cons_zero, List.set_cons_succ]
            refine wpAnyH_take (i := 6) (oi := { dst := some 88, op := Op.extract (Operand.tmp 82) 0, type := 24, pos := "law.go:41", after := #[{ on := 5, ground := Ground.data }], guard := none }) (v := ?vT2x15) rfl (by kernel_rfl) (by kernel_rfl) (by kernel_rfl) (fun _ _ _ h => h) (Or.inl ⟨by rfl, ?hyT2x15⟩) (by exact hS) ?rsT2x15
            case hyT2x15 => (intro w hSw; (try dsimp only at hSw); unfold Ep.SB1 at hSw; go_simp; try with_reducible rfl)
            try simp only [Act.put, List.setIfInBounds_toArray, List.set_cons_zero, List.set_cons_succ]
            refine wpAnyH_take (i := 7) (oi := { dst := some 89, op := Op.extract (Operand.tmp 82) 1, type := 28, pos := "law.go:41", after := #[{ on := 5, ground := Ground.data }, { on := 9, ground := Ground.gcOnly Departure.lateStores }], guard := none }) (v := ?vT2x16) rfl (by kernel_rfl) (by kernel_rfl) (by kernel_rfl) (fun _ _ _ h => h) (Or.inl ⟨by rfl, ?hyT2x16⟩) (by exact hS) ?rsT2x16
            case hyT2x16 => (intro w hSw; (try dsimp only at hSw); unfold Ep.SB1 at hSw; go_simp; try with_reducible rfl)
            try simp only [Act.put, List.setIfInBounds_toArray, List.set_cons_zero, List.set_cons_succ]
            refine wpAnyH_ready (rs := [9]) (by kernel_rfl) (by simp) ?_
            refine (AllReadyH.cons (o := { dst := none, op := Op.store 24 (Operand.tmp 21) (Operand.tmp 88), type := 0, pos := "law.go:41", after := #[{ on := 8, ground := Ground.data }, { on := 6, ground := Ground.data }, { on := 4, ground := Ground.chain }, { on := 0, ground := Ground.phase }, { on := 1, ground := Ground.phase }, { on := 2, ground := Ground.phase }, { on := 3, ground := Ground.phase }, { on := 4, ground := Ground.phase }, { on := 5, ground := Ground.phase }, { on := 6, ground := Ground.phase }, { on := 7, ground := Ground.textOnly Departure.lateStores }, { on := 8, ground := Ground.phase }], guard := none }) rfl (fun K hK => ?_) AllReadyH.nil)
            obtain ⟨f0, f1, f2, f3, f4, f5⟩ := Er.block_cells hB
            have hset := Er.block_set (x' := .bool gr9) (y' := .slice a9 r9 c9) (z' := .int .i64 sr9) hB
            have hqW := ((Q.setCell (Q.setCell (Q.setCell (Ep.SB1.here hS) (ad := ⟨b9, 0, none⟩) hWb (.bool gr9)) (ad := ⟨b9, 1, none⟩) hWb (.slice a9 r9 c9)) (ad := ⟨b9, 2, none⟩) hWb (.int .i64 sr9)))
            have hl := Lst.setCell (Lst.setCell (Lst.setCell hx9 (ad := ⟨b9, 0, none⟩) (.bool gr9) hne) (ad := ⟨b9, 1, none⟩) (.slice a9 r9 c9) hne) (ad := ⟨b9, 2, none⟩) (.int .i64 sr9) hne
            go_simp
            have hS2 := SQ.out _ hqW
            refine hK.out _ _ (by exact hS2) (fun hHeld => ?_)
            clear hK K hHeld hS
            have hS := hS2
            clear hS2 f0 f1 f2 f3 f4 f5
            try simp only [Act.put, List.setIfInBounds_toArray, List.set_cons_zero, List.set_cons_succ]
            refine wpAnyH_take (i := 10) (oi := { dst := some 22, op := Op.assign (Operand.tmp 89), type := 28, pos := "law.go:41", after := #[{ on := 7, ground := Ground.data }, { on := 9, ground := Ground.chain }, { on := 0, ground := Ground.phase }, { on := 1, ground := Ground.phase }, { on := 2, ground := Ground.phase }, { on := 3, ground := Ground.phase }, { on := 4, ground := Ground.phase }, { on := 5, ground := Ground.phase }, { on := 6, ground := Ground.phase }, { on := 7, ground := Ground.phase }, { on := 8, ground := Ground.phase }, { on := 9, ground := Ground.phase }], guard := none }) (v := ?vT2x18) rfl (by kernel_rfl) (by kernel_rfl) (by kernel_rfl) (fun _ _ _ h => h) (Or.inl ⟨by rfl, ?hyT2x18⟩) (by exact hS) ?rsT2x18
            case hyT2x18 => (intro w hSw; (try dsimp only at hSw); unfold Ep.SB1 at hSw; go_simp; try with_reducible rfl)
            try simp only [Act.put, List.setIfInBounds_toArray, List.set_cons_zero, List.set_cons_succ]
            refine wpAnyH_done (by kernel_rfl) ?_ _
            go_wp2_with fail
            go_meet
            exact ⟨b9, a9, c9, rfl, rfl, hset, hl, hqW⟩
        · go_simp
          have hq := (Q.refl yT2x0).alloc (.cells #[.bool false, .slice none 0 0, .int .i64 0] 24)
          have hB := heap_alloc_new yT2x0 (.cells #[.bool false, .slice none 0 0, .int .i64 0] 24)
          have hbu : yT2x0.heap.size < (yT2x0.alloc (.cells #[.bool false, .slice none 0 0, .int .i64 0] 24)).heap.size := by rw [World.size_alloc]; omega
          have hWb := (Ep.SB1.here hS).le
          have hS2 := SQ.out _ (Q.trans (Ep.SB1.here hS) hq)
          refine hK.out _ _ (by exact hS2) (fun hHeld => ?_)
          clear hK K hHeld hS hq
          have hS := hS2
          clear hS2
          generalize yT2x0.alloc (.cells #[.bool false, .slice none 0 0, .int .i64 0] 24) = yT2x19 at *
          generalize yT2x0.heap.size = b9 at *
          try simp only [Act.put, List.setIfInBounds_toArray, List.set_cons_zero, List.set_cons_succ]
          refine wpAnyH_ready (rs := [3]) (by kernel_rfl) (by simp) ?_
          refine (AllReadyH.cons (o := { dst := some 86, op := Op.call { callee := Callee.value (Operand.func 12), args := #[Operand.tmp 85, Operand.const (Value.int IntKind.i64 7)], argTypes := #[3, 3] }, type := 3, pos := "law.go:41", after := #[{ on := 2, ground := Ground.data }], guard := none }) rfl (fun K hK => ?_) AllReadyH.nil)
          go_simp
          refine (AQ2.out _).mono ?_
          rintro e yT2x20 ⟨rfl, hq⟩
          try (go_wp2_with fail)
          have hB := (Q.block hq (lt_of_block hB)).trans hB
          have hS2 := SQ.out _ (Q.trans (Ep.SB1.here hS) hq)
          have hbu := Nat.lt_of_lt_of_le hbu hq.le
          refine hK.out _ _ (by exact hS2) (fun hHeld => ?_)
          clear hK K hHeld hS hq
          have hS := hS2
          clear hS2
          try simp only [Act.put, List.setIfInBounds_toArray, List.set_cons_zero, List.set_cons_succ]
          refine wpAnyH_ready (rs := [4]) (by kernel_rfl) (by simp) ?_
          refine (AllReadyH.cons (o := { dst := some 87, op := Op.call { callee := Callee.value (Operand.func 15), args := #[Operand.tmp 83, Operand.tmp 84, Operand.tmp 86], argTypes := #[24, 3, 3] }, type := 32, pos := "law.go:41", after := #[{ on := 0, ground := Ground.data }, { on := 1, ground := Ground.data }, { on := 3, ground := Ground.data }, { on := 3, ground := Ground.chain }], guard := none }) rfl (fun K hK => ?_) AllReadyH.nil)
          go_simp
          refine (K9.out _ _ (L58_X0.out.q (Ep.SB1.here hS))).mono ?_
          rintro e yT2x21 ⟨a9, c9, rfl, hx9, hq⟩
          try (go_wp2_with fail)
          have hB := (Q.block hq (lt_of_block hB)).trans hB
          have hlf := hx9
          have hx9 := Rr.lf_lst hlf
          have hne : ∀ (a : Addr) (n c : Nat), (.slice a9 r9 c9 : Value) = .slice (some a) n c → n ≠ 0 → a.block ≠ b9 := Rr.lf_ne hlf hbu
          clear hlf
          have hS2 := SQ.out _ (Q.trans (Ep.SB1.here hS) hq)
          have hbu := Nat.lt_of_lt_of_le hbu hq.le
          refine hK.out _ _ (by exact hS2) (fun hHeld => ?_)
          clear hK K hHeld hS hq
          have hS := hS2
          clear hS2
          try simp only [Act.put, List.setIfInBounds_toArray, List.set_cons_zero, List.set_cons_succ]
          refine wpAnyH_take (i := 5) (oi := { dst := some 82, op := Op.move (Operand.tmp 87), type := 32, pos := "law.go:41", after := #[{ on := 4, ground := Ground.data }], guard := none }) (v := ?vT2x22) rfl (by kernel_rfl) (by kernel_rfl) (by kernel_rfl) (fun _ _ _ h => h) (Or.inl ⟨by rfl, ?hyT2x22⟩) (by exact hS) ?rsT2x22
          case hyT2x22 => (intro w hSw; (try dsimp only at hSw); unfold Ep.SB1 at hSw; go_simp; try with_reducible rfl)
          try simp only [Act.put, List.setIfInBounds_toArray, List.set_cons_zero, List.set_cons_succ]
          refine wpAnyH_take (i := 6) (oi := { dst := some 88, op := Op.extract (Operand.tmp 82) 0, type := 24, pos := "law.go:41", after := #[{ on := 5, ground := Ground.data }], guard := none }) (v := ?vT2x23) rfl (by kernel_rfl) (by kernel_rfl) (by kernel_rfl) (fun _ _ _ h => h) (Or.inl ⟨by rfl, ?hyT2x23⟩) (by exact hS) ?rsT2x23
          case hyT2x23 => (intro w hSw; (try dsimp only at hSw); unfold Ep.SB1 at hSw; go_simp; try with_reducible rfl)
          try simp only [Act.put, List.setIfInBounds_toArray, List.set_cons_zero, List.set_cons_succ]
          refine wpAnyH_take (i := 7) (oi := { dst := some 89, op := Op.extract (Operand.tmp 82) 1, type := 28, pos := "law.go:41", after := #[{ on := 5, ground := Ground.data }, { on := 9, ground := Ground.gcOnly Departure.lateStores }], guard := none }) (v := ?vT2x24) rfl (by kernel_rfl) (by kernel_rfl) (by kernel_rfl) (fun _ _ _ h => h) (Or.inl ⟨by rfl, ?hyT2x24⟩) (by exact hS) ?rsT2x24
          case hyT2x24 => (intro w hSw; (try dsimp only at hSw); unfold Ep.SB1 at hSw; go_simp; try with_reducible rfl)
          try simp only [Act.put, List.setIfInBounds_toArray, List.set_cons_zero, List.set_cons_succ]
          refine wpAnyH_ready (rs := [9]) (by kernel_rfl) (by simp) ?_
          refine (AllReadyH.cons (o := { dst := none, op := Op.store 24 (Operand.tmp 21) (Operand.tmp 88), type := 0, pos := "law.go:41", after := #[{ on := 8, ground := Ground.data }, { on := 6, ground := Ground.data }, { on := 4, ground := Ground.chain }, { on := 0, ground := Ground.phase }, { on := 1, ground := Ground.phase }, { on := 2, ground := Ground.phase }, { on := 3, ground := Ground.phase }, { on := 4, ground := Ground.phase }, { on := 5, ground := Ground.phase }, { on := 6, ground := Ground.phase }, { on := 7, ground := Ground.textOnly Departure.lateStores }, { on := 8, ground := Ground.phase }], guard := none }) rfl (fun K hK => ?_) AllReadyH.nil)
          obtain ⟨f0, f1, f2, f3, f4, f5⟩ := Er.block_cells hB
          have hset := Er.block_set (x' := .bool gr9) (y' := .slice a9 r9 c9) (z' := .int .i64 sr9) hB
          have hqW := ((Q.setCell (Q.setCell (Q.setCell (Ep.SB1.here hS) (ad := ⟨b9, 0, none⟩) hWb (.bool gr9)) (ad := ⟨b9, 1, none⟩) hWb (.slice a9 r9 c9)) (ad := ⟨b9, 2, none⟩) hWb (.int .i64 sr9)))
          have hl := Lst.setCell (Lst.setCell (Lst.setCell hx9 (ad := ⟨b9, 0, none⟩) (.bool gr9) hne) (ad := ⟨b9, 1, none⟩) (.slice a9 r9 c9) hne) (ad := ⟨b9, 2, none⟩) (.int .i64 sr9) hne
          go_simp
          have hS2 := SQ.out _ hqW
          refine hK.out _ _ (by exact hS2) (fun hHeld => ?_)
          clear hK K hHeld hS
          have hS := hS2
          clear hS2 f0 f1 f2 f3 f4 f5
          try simp only [Act.put, List.setIfInBounds_toArray, List.set_cons_zero, List.set_cons_succ]
          refine wpAnyH_take (i := 10) (oi := { dst := some 22, op := Op.assign (Operand.tmp 89), type := 28, pos := "law.go:41", after := #[{ on := 7, ground := Ground.data }, { on := 9, ground := Ground.chain }, { on := 0, ground := Ground.phase }, { on := 1, ground := Ground.phase }, { on := 2, ground := Ground.phase }, { on := 3, ground := Ground.phase }, { on := 4, ground := Ground.phase }, { on := 5, ground := Ground.phase }, { on := 6, ground := Ground.phase }, { on := 7, ground := Ground.phase }, { on := 8, ground := Ground.phase }, { on := 9, ground := Ground.phase }], guard := none }) (v := ?vT2x26) rfl (by kernel_rfl) (by kernel_rfl) (by kernel_rfl) (fun _ _ _ h => h) (Or.inl ⟨by rfl, ?hyT2x26⟩) (by exact hS) ?rsT2x26
          case hyT2x26 => (intro w hSw; (try dsimp only at hSw); unfold Ep.SB1 at hSw; go_simp; try with_reducible rfl)
          try simp only [Act.put, List.setIfInBounds_toArray, List.set_cons_zero, List.set_cons_succ]
          refine wpAnyH_done (by kernel_rfl) ?_ _
          go_wp2_with fail
          go_meet
          exact ⟨b9, a9, c9, rfl, rfl, hset, hl, hqW⟩
      case rest =>
        obtain ⟨b21, a21, c21, rfl, rfl, hb21, hl21, hqc⟩ := hcut
        obtain ⟨w21, hw21⟩ : ∃ x, x = wc := ⟨_, rfl⟩
        subst hw21
        have HB21 := Lib.hid hb21
        have LZ21 := Lib.hid hl21
        clear SQ hb21 hl21 k_x0 k_x1 k_x2 k_y0 k_y1 k_y2 k_a0 k_a1 k_a2 k_b0 k_b1 k_b2 k_c0 k_c1 k_c2
        have L59_X0 := Lib.hid (Lst.q L58_X0.out hqc)
        clear L58_X0
        have L59_R0 := Lib.hid (Lst.q L58_R0.out hqc)
        clear L58_R0
        have L59_A5 := Lib.hid (Lst.q L58_A5.out hqc)
        clear L58_A5
        have L59_B5 := Lib.hid (Lst.q L58_B5.out hqc)
        clear L58_B5
        have L59_A9 := Lib.hid (Lst.q L58_A9.out hqc)
        clear L58_A9
        have B59_x := Lib.hid ((Q.block hqc (lt_of_block B58_x.out)).trans B58_x.out)
        clear B58_x
        have B59_y := Lib.hid ((Q.block hqc (lt_of_block B58_y.out)).trans B58_y.out)
        clear B58_y
        have B59_a := Lib.hid ((Q.block hqc (lt_of_block B58_a.out)).trans B58_a.out)
        clear B58_a
        have B59_b := Lib.hid ((Q.block hqc (lt_of_block B58_b.out)).trans B58_b.out)
        clear B58_b
        have B59_c := Lib.hid ((Q.block hqc (lt_of_block B58_c.out)).trans B58_c.out)
        clear B58_c
        have Q59 := Lib.hid (Q.trans Q58.out hqc)
        clear Q58
        clear hqc
        have SQ := Lib.hid (fun u (q : Q (w21) u) => (Rl.SB4.of B59_a.out B59_b.out B59_c.out HB21.out q : Rl.SB4 (w21) (z52.heap.size) gr5 (.slice a5 r5 c5x) (sr5) (z54.heap.size) gr5 (.slice a6 r5 c6x) (sr5) (z57.heap.size) gr9 (.slice a7 r9 c7x) (sr9) (b21) gr9 (.slice a21 r9 c21) (sr9) u))
        obtain ⟨k_x0, k_x1, k_x2, _, _, _⟩ := Er.block_cells B59_x.out
        obtain ⟨k_y0, k_y1, k_y2, _, _, _⟩ := Er.block_cells B59_y.out
        obtain ⟨k_a0, k_a1, k_a2, _, _, _⟩ := Er.block_cells B59_a.out
        obtain ⟨k_b0, k_b1, k_b2, _, _, _⟩ := Er.block_cells B59_b.out
        obtain ⟨k_c0, k_c1, k_c2, _, _, _⟩ := Er.block_cells B59_c.out
        obtain ⟨k_b210, k_b211, k_b212, _, _, _⟩ := Er.block_cells HB21.out
        go_wp2_with fail
        clear k_x0 k_x1 k_x2 k_y0 k_y1 k_y2 k_a0 k_a1 k_a2 k_b0 k_b1 k_b2 k_c0 k_c1 k_c2 k_b210 k_b211 k_b212
        refine wp_region_held_drew (S := fun u => Rl.SB4 (w21) (z52.heap.size) gr5 (.slice a5 r5 c5x) (sr5) (z54.heap.size) gr5 (.slice a6 r5 c6x) (sr5) (z57.heap.size) gr9 (.slice a7 r9 c7x) (sr9) (b21) gr9 (.slice a21 r9 c21) (sr9) u) (by kernel_rfl) (by exact SQ.out _ ((Q.refl w21).drew)) (fun hHeld => ?_)
        have hS : Rl.SB4 (w21) (z52.heap.size) gr5 (.slice a5 r5 c5x) (sr5) (z54.heap.size) gr5 (.slice a6 r5 c6x) (sr5) (z57.heap.size) gr9 (.slice a7 r9 c7x) (sr9) (b21) gr9 (.slice a21 r9 c21) (sr9) w21.drew := hHeld
        clear hHeld
        generalize w21.drew = yT3x0 at hS ⊢
        refine wpAnyH_take (i := 0) (oi := { dst := some 90, op := Op.move (Operand.tmp 16), type := 28, pos := "law.go:42", after := #[], guard := none }) (v := ?vT3x1) rfl (by kernel_rfl) (by kernel_rfl) (by kernel_rfl) (fun _ _ _ h => h) (Or.inl ⟨by rfl, ?hyT3x1⟩) (by exact hS) ?rsT3x1
        case hyT3x1 => (intro w hSw; (try dsimp only at hSw); unfold Rl.SB4 at hSw; go_simp; try with_reducible rfl)
        try simp only [Act.put, List.setIfInBounds_toArray, List.set_cons_zero, List.set_cons_succ]
        refine wpAnyH_take (i := 1) (oi := { dst := some 91, op := Op.move (Operand.tmp 18), type := 28, pos := "law.go:42", after := #[], guard := none }) (v := ?vT3x2) rfl (by kernel_rfl) (by kernel_rfl) (by kernel_rfl) (fun _ _ _ h => h) (Or.inl ⟨by rfl, ?hyT3x2⟩) (by exact hS) ?rsT3x2
        case hyT3x2 => (intro w hSw; (try dsimp only at hSw); unfold Rl.SB4 at hSw; go_simp; try with_reducible rfl)
        try simp only [Act.put, List.setIfInBounds_toArray, List.set_cons_zero, List.set_cons_succ]
        refine wpAnyH_take (i := 2) (oi := { dst := some 92, op := Op.binOp BinOp.eql 28 (Operand.tmp 90) (Operand.tmp 91) 28, type := 4, pos := "law.go:42", after := #[{ on := 0, ground := Ground.data }, { on := 1, ground := Ground.data }], guard := none }) (v := ?vT3x3) rfl (by kernel_rfl) (by kernel_rfl) (by kernel_rfl) (fun _ _ _ h => h) (Or.inl ⟨by rfl, ?hyT3x3⟩) (by exact hS) ?rsT3x3
        case hyT3x3 => (intro w hSw; (try dsimp only at hSw); unfold Rl.SB4 at hSw; go_simp; try with_reducible rfl)
        try simp only [Act.put, List.setIfInBounds_toArray, List.set_cons_zero, List.set_cons_succ]
        refine wpAnyH_take (i := 3) (oi := { dst := some 93, op := Op.move (Operand.tmp 92), type := 4, pos := "law.go:42", after := #[{ on := 2, ground := Ground.data }], guard := none }) (v := ?vT3x4) rfl (by kernel_rfl) (by kernel_rfl) (by kernel_rfl) (fun _ _ _ h => h) (Or.inl ⟨by rfl, ?hyT3x4⟩) (by exact hS) ?rsT3x4
        case hyT3x4 => (intro w hSw; (try dsimp only at hSw); unfold Rl.SB4 at hSw; go_simp; try with_reducible rfl)
        try simp only [Act.put, List.setIfInBounds_toArray, List.set_cons_zero, List.set_cons_succ]
        refine wpAnyH_take (i := 4) (oi := { dst := some 94, op := Op.load 27 (Operand.tmp 15), type := 27, pos := "law.go:42", after := #[{ on := 3, ground := Ground.guard }], guard := some (3, true) }) (v := ?vT3x5) rfl (by kernel_rfl) (by kernel_rfl) (by kernel_rfl) (fun _ _ _ h => h) (Or.inl ⟨by rfl, ?hyT3x5⟩) (by exact hS) ?rsT3x5
        case hyT3x5 => (intro w hSw; (try dsimp only at hSw); unfold Rl.SB4 at hSw; go_simp; try with_reducible rfl)
        try simp only [Act.put, List.setIfInBounds_toArray, List.set_cons_zero, List.set_cons_succ]
        refine wpAnyH_take (i := 6) (oi := { dst := some 96, op := Op.load 24 (Operand.tmp 17), type := 24, pos := "law.go:42", after := #[{ on := 3, ground := Ground.guard }], guard := some (3, true) }) (v := ?vT3x6) rfl (by kernel_rfl) (by kernel_rfl) (by kernel_rfl) (fun _ _ _ h => h) (Or.inl ⟨by rfl, ?hyT3x6⟩) (by exact hS) ?rsT3x6
        case hyT3x6 => (intro w hSw; (try dsimp only at hSw); unfold Rl.SB4 at hSw; go_simp; try with_reducible rfl)
        try simp only [Act.put, List.setIfInBounds_toArray, List.set_cons_zero, List.set_cons_succ]
        refine wpAnyH_ready (rs := [5]) (by kernel_rfl) (by simp) ?_
        refine (AllReadyH.cons (o := { dst := some 95, op := Op.call { callee := Callee.value (Operand.func 17), args := #[Operand.tmp 94], argTypes := #[27] }, type := 24, pos := "law.go:42", after := #[{ on := 4, ground := Ground.data }, { on := 3, ground := Ground.chain }, { on := 3, ground := Ground.guard }], guard := some (3, true) }) rfl (fun K hK => ?_) AllReadyH.nil)
        go_simp
        refine (Rl.as_sh _ _ _ _ _ _).mono ?_
        rintro e yT3x7 ⟨rfl, hq⟩
        try (go_wp2_with fail)
        have hS2 := SQ.out _ (Q.trans (Rl.SB4.here hS) hq)
        refine hK.out _ _ (by exact hS2) (fun hHeld => ?_)
        clear hK K hHeld hS hq
        have hS := hS2
        clear hS2
        try simp only [Act.put, List.setIfInBounds_toArray, List.set_cons_zero, List.set_cons_succ]
        refine wpAnyH_ready (rs := [7]) (by kernel_rfl) (by simp) ?_
        refine (AllReadyH.cons (o := { dst := some 97, op := Op.call { callee := Callee.value (Operand.func 16), args := #[Operand.tmp 95, Operand.tmp 96], argTypes := #[24, 24] }, type := 4, pos := "law.go:42", after := #[{ on := 5, ground := Ground.data }, { on := 6, ground := Ground.data }, { on := 5, ground := Ground.chain }, { on := 3, ground := Ground.guard }], guard := some (3, true) }) rfl (fun K hK => ?_) AllReadyH.nil)
        go_simp
        refine (HS5.out _ _ _ _ _ (L59_A5.out.q (Rl.SB4.here hS)) (L59_B5.out.q (Rl.SB4.here hS))).mono ?_
        rintro e yT3x8 ⟨rfl, hq⟩
        try (go_wp2_with fail)
        have hS2 := SQ.out _ (Q.trans (Rl.SB4.here hS) hq)
        refine hK.out _ _ (by exact hS2) (fun hHeld => ?_)
        clear hK K hHeld hS hq
        have hS := hS2
        clear hS2
        try simp only [Act.put, List.setIfInBounds_toArray, List.set_cons_zero, List.set_cons_succ]
        refine wpAnyH_take (i := 8) (oi := { dst := some 98, op := Op.pick (Operand.tmp 93) (Operand.tmp 97) (Operand.const (Value.bool false)), type := 4, pos := "law.go:42", after := #[{ on := 3, ground := Ground.data }, { on := 7, ground := Ground.data }], guard := none }) (v := ?vT3x9) rfl (by kernel_rfl) (by kernel_rfl) (by kernel_rfl) (fun _ _ _ h => h) (Or.inl ⟨by rfl, ?hyT3x9⟩) (by exact hS) ?rsT3x9
        case hyT3x9 => (intro w hSw; (try dsimp only at hSw); unfold Rl.SB4 at hSw; go_simp; try with_reducible rfl)
        try simp only [Act.put, List.setIfInBounds_toArray, List.set_cons_zero, List.set_cons_succ]
        refine wpAnyH_take (i := 9) (oi := { dst := some 99, op := Op.move (Operand.tmp 98), type := 4, pos := "law.go:42", after := #[{ on := 8, ground := Ground.data }, { on := 7, ground := Ground.chain }], guard := none }) (v := ?vT3x10) rfl (by kernel_rfl) (by kernel_rfl) (by kernel_rfl) (fun _ _ _ h => h) (Or.inl ⟨by rfl, ?hyT3x10⟩) (by exact hS) ?rsT3x10
        case hyT3x10 => (intro w hSw; (try dsimp only at hSw); unfold Rl.SB4 at hSw; go_simp; try with_reducible rfl)
        try simp only [Act.put, List.setIfInBounds_toArray, List.set_cons_zero, List.set_cons_succ]
        refine wpAnyH_take (i := 10) (oi := { dst := some 100, op := Op.move (Operand.tmp 20), type := 28, pos := "law.go:42", after := #[{ on := 9, ground := Ground.guard }], guard := some (9, true) }) (v := ?vT3x11) rfl (by kernel_rfl) (by kernel_rfl) (by kernel_rfl) (fun _ _ _ h => h) (Or.inl ⟨by rfl, ?hyT3x11⟩) (by exact hS) ?rsT3x11
        case hyT3x11 => (intro w hSw; (try dsimp only at hSw); unfold Rl.SB4 at hSw; go_simp; try with_reducible rfl)
        try simp only [Act.put, List.setIfInBounds_toArray, List.set_cons_zero, List.set_cons_succ]
        refine wpAnyH_take (i := 11) (oi := { dst := some 101, op := Op.move (Operand.tmp 22), type := 28, pos := "law.go:42", after := #[{ on := 9, ground := Ground.guard }], guard := some (9, true) }) (v := ?vT3x12) rfl (by kernel_rfl) (by kernel_rfl) (by kernel_rfl) (fun _ _ _ h => h) (Or.inl ⟨by rfl, ?hyT3x12⟩) (by exact hS) ?rsT3x12
        case hyT3x12 => (intro w hSw; (try dsimp only at hSw); unfold Rl.SB4 at hSw; go_simp; try with_reducible rfl)
        try simp only [Act.put, List.setIfInBounds_toArray, List.set_cons_zero, List.set_cons_succ]
        refine wpAnyH_take (i := 12) (oi := { dst := some 102, op := Op.binOp BinOp.eql 28 (Operand.tmp 100) (Operand.tmp 101) 28, type := 4, pos := "law.go:42", after := #[{ on := 10, ground := Ground.data }, { on := 11, ground := Ground.data }, { on := 9, ground := Ground.guard }], guard := some (9, true) }) (v := ?vT3x13) rfl (by kernel_rfl) (by kernel_rfl) (by kernel_rfl) (fun _ _ _ h => h) (Or.inl ⟨by rfl, ?hyT3x13⟩) (by exact hS) ?rsT3x13
        case hyT3x13 => (intro w hSw; (try dsimp only at hSw); unfold Rl.SB4 at hSw; go_simp; try with_reducible rfl)
        try simp only [Act.put, List.setIfInBounds_toArray, List.set_cons_zero, List.set_cons_succ]
        refine wpAnyH_take (i := 13) (oi := { dst := some 103, op := Op.pick (Operand.tmp 99) (Operand.tmp 102) (Operand.const (Value.bool false)), type := 4, pos := "law.go:42", after := #[{ on := 9, ground := Ground.data }, { on := 12, ground := Ground.data }], guard := none }) (v := ?vT3x14) rfl (by kernel_rfl) (by kernel_rfl) (by kernel_rfl) (fun _ _ _ h => h) (Or.inl ⟨by rfl, ?hyT3x14⟩) (by exact hS) ?rsT3x14
        case hyT3x14 => (intro w hSw; (try dsimp only at hSw); unfold Rl.SB4 at hSw; go_simp; try with_reducible rfl)
        try simp only [Act.put, List.setIfInBounds_toArray, List.set_cons_zero, List.set_cons_succ]
        refine wpAnyH_take (i := 14) (oi := { dst := some 104, op := Op.move (Operand.tmp 103), type := 4, pos := "law.go:42", after := #[{ on := 13, ground := Ground.data }, { on := 9, ground := Ground.chain }], guard := none }) (v := ?vT3x15) rfl (by kernel_rfl) (by kernel_rfl) (by kernel_rfl) (fun _ _ _ h => h) (Or.inl ⟨by rfl, ?hyT3x15⟩) (by exact hS) ?rsT3x15
        case hyT3x15 => (intro w hSw; (try dsimp only at hSw); unfold Rl.SB4 at hSw; go_simp; try with_reducible rfl)
        try simp only [Act.put, List.setIfInBounds_toArray, List.set_cons_zero, List.set_cons_succ]
        refine wpAnyH_take (i := 15) (oi := { dst := some 105, op := Op.load 27 (Operand.tmp 19), type := 27, pos := "law.go:42", after := #[{ on := 14, ground := Ground.guard }], guard := some (14, true) }) (v := ?vT3x16) rfl (by kernel_rfl) (by kernel_rfl) (by kernel_rfl) (fun _ _ _ h => h) (Or.inl ⟨by rfl, ?hyT3x16⟩) (by exact hS) ?rsT3x16
        case hyT3x16 => (intro w hSw; (try dsimp only at hSw); unfold Rl.SB4 at hSw; go_simp; try with_reducible rfl)
        try simp only [Act.put, List.setIfInBounds_toArray, List.set_cons_zero, List.set_cons_succ]
        refine wpAnyH_take (i := 17) (oi := { dst := some 107, op := Op.load 24 (Operand.tmp 21), type := 24, pos := "law.go:42", after := #[{ on := 14, ground := Ground.guard }], guard := some (14, true) }) (v := ?vT3x17) rfl (by kernel_rfl) (by kernel_rfl) (by kernel_rfl) (fun _ _ _ h => h) (Or.inl ⟨by rfl, ?hyT3x17⟩) (by exact hS) ?rsT3x17
        case hyT3x17 => (intro w hSw; (try dsimp only at hSw); unfold Rl.SB4 at hSw; go_simp; try with_reducible rfl)
        try simp only [Act.put, List.setIfInBounds_toArray, List.set_cons_zero, List.set_cons_succ]
        refine wpAnyH_ready (rs := [16]) (by kernel_rfl) (by simp) ?_
        refine (AllReadyH.cons (o := { dst := some 106, op := Op.call { callee := Callee.value (Operand.func 17), args := #[Operand.tmp 105], argTypes := #[27] }, type := 24, pos := "law.go:42", after := #[{ on := 15, ground := Ground.data }, { on := 14, ground := Ground.chain }, { on := 14, ground := Ground.guard }], guard := some (14, true) }) rfl (fun K hK => ?_) AllReadyH.nil)
        go_simp
        refine (Rl.as_sh _ _ _ _ _ _).mono ?_
        rintro e yT3x18 ⟨rfl, hq⟩
        try (go_wp2_with fail)
        have hS2 := SQ.out _ (Q.trans (Rl.SB4.here hS) hq)
        refine hK.out _ _ (by exact hS2) (fun hHeld => ?_)
        clear hK K hHeld hS hq
        have hS := hS2
        clear hS2
        try simp only [Act.put, List.setIfInBounds_toArray, List.set_cons_zero, List.set_cons_succ]
        refine wpAnyH_ready (rs := [18]) (by kernel_rfl) (by simp) ?_
        refine (AllReadyH.cons (o := { dst := some 108, op := Op.call { callee := Callee.value (Operand.func 16), args := #[Operand.tmp 106, Operand.tmp 107], argTypes := #[24, 24] }, type := 4, pos := "law.go:42", after := #[{ on := 16, ground := Ground.data }, { on := 17, ground := Ground.data }, { on := 16, ground := Ground.chain }, { on := 14, ground := Ground.guard }], guard := some (14, true) }) rfl (fun K hK => ?_) AllReadyH.nil)
        go_simp
        refine (HS9.out _ _ _ _ _ (L59_A9.out.q (Rl.SB4.here hS)) (LZ21.out.q (Rl.SB4.here hS))).mono ?_
        rintro e yT3x19 ⟨rfl, hq⟩
        try (go_wp2_with fail)
        have hS2 := SQ.out _ (Q.trans (Rl.SB4.here hS) hq)
        refine hK.out _ _ (by exact hS2) (fun hHeld => ?_)
        clear hK K hHeld hS hq
        have hS := hS2
        clear hS2
        try simp only [Act.put, List.setIfInBounds_toArray, List.set_cons_zero, List.set_cons_succ]
        refine wpAnyH_take (i := 19) (oi := { dst := some 109, op := Op.pick (Operand.tmp 104) (Operand.tmp 108) (Operand.const (Value.bool false)), type := 4, pos := "law.go:42", after := #[{ on := 14, ground := Ground.data }, { on := 18, ground := Ground.data }], guard := none }) (v := ?vT3x20) rfl (by kernel_rfl) (by kernel_rfl) (by kernel_rfl) (fun _ _ _ h => h) (Or.inl ⟨by rfl, ?hyT3x20⟩) (by exact hS) ?rsT3x20
        case hyT3x20 => (intro w hSw; (try dsimp only at hSw); unfold Rl.SB4 at hSw; go_simp; try with_reducible rfl)
        try simp only [Act.put, List.setIfInBounds_toArray, List.set_cons_zero, List.set_cons_succ]
        refine wpAnyH_take (i := 20) (oi := { dst := some 110, op := Op.move (Operand.tmp 109), type := 4, pos := "law.go:42", after := #[{ on := 19, ground := Ground.data }, { on := 18, ground := Ground.chain }], guard := none }) (v := ?vT3x21) rfl (by kernel_rfl) (by kernel_rfl) (by kernel_rfl) (fun _ _ _ h => h) (Or.inl ⟨by rfl, ?hyT3x21⟩) (by exact hS) ?rsT3x21
        case hyT3x21 => (intro w hSw; (try dsimp only at hSw); unfold Rl.SB4 at hSw; go_simp; try with_reducible rfl)
        try simp only [Act.put, List.setIfInBounds_toArray, List.set_cons_zero, List.set_cons_succ]
        refine wpAnyH_ready (rs := [21]) (by kernel_rfl) (by simp) ?_
        refine (AllReadyH.cons (o := { dst := some 111, op := Op.call { callee := Callee.value (Operand.func 18), args := #[], argTypes := #[] }, type := 4, pos := "law.go:42", after := #[{ on := 20, ground := Ground.chain }, { on := 20, ground := Ground.guard }], guard := some (20, true) }) rfl (fun K hK => ?_) AllReadyH.nil)
        go_simp
        refine (LV.out _).mono ?_
        rintro e yT3x22 ⟨rfl, hq⟩
        try (go_wp2_with fail)
        have hS2 := SQ.out _ (Q.trans (Rl.SB4.here hS) hq)
        refine hK.out _ _ (by exact hS2) (fun hHeld => ?_)
        clear hK K hHeld hS hq
        have hS := hS2
        clear hS2
        try simp only [Act.put, List.setIfInBounds_toArray, List.set_cons_zero, List.set_cons_succ]
        refine wpAnyH_take (i := 22) (oi := { dst := some 112, op := Op.pick (Operand.tmp 110) (Operand.tmp 111) (Operand.const (Value.bool false)), type := 4, pos := "law.go:42", after := #[{ on := 20, ground := Ground.data }, { on := 21, ground := Ground.data }], guard := none }) (v := ?vT3x23) rfl (by kernel_rfl) (by kernel_rfl) (by kernel_rfl) (fun _ _ _ h => h) (Or.inl ⟨by rfl, ?hyT3x23⟩) (by exact hS) ?rsT3x23
        case hyT3x23 => (intro w hSw; (try dsimp only at hSw); unfold Rl.SB4 at hSw; go_simp; try with_reducible rfl)
        try simp only [Act.put, List.setIfInBounds_toArray, List.set_cons_zero, List.set_cons_succ]
        refine wpAnyH_take (i := 23) (oi := { dst := some 6, op := Op.assign (Operand.tmp 112), type := 4, pos := "law.go:42", after := #[{ on := 22, ground := Ground.data }, { on := 21, ground := Ground.chain }, { on := 0, ground := Ground.phase }, { on := 1, ground := Ground.phase }, { on := 2, ground := Ground.phase }, { on := 3, ground := Ground.phase }, { on := 4, ground := Ground.phase }, { on := 5, ground := Ground.phase }, { on := 6, ground := Ground.phase }, { on := 7, ground := Ground.phase }, { on := 8, ground := Ground.phase }, { on := 9, ground := Ground.phase }, { on := 10, ground := Ground.phase }, { on := 11, ground := Ground.phase }, { on := 12, ground := Ground.phase }, { on := 13, ground := Ground.phase }, { on := 14, ground := Ground.phase }, { on := 15, ground := Ground.phase }, { on := 16, ground := Ground.phase }, { on := 17, ground := Ground.phase }, { on := 18, ground := Ground.phase }, { on := 19, ground := Ground.phase }, { on := 20, ground := Ground.phase }, { on := 21, ground := Ground.phase }, { on := 22, ground := Ground.phase }], guard := none }) (v := ?vT3x24) rfl (by kernel_rfl) (by kernel_rfl) (by kernel_rfl) (fun _ _ _ h => h) (Or.inl ⟨by rfl, ?hyT3x24⟩) (by exact hS) ?rsT3x24
        case hyT3x24 => (intro w hSw; (try dsimp only at hSw); unfold Rl.SB4 at hSw; go_simp; try with_reducible rfl)
        try simp only [Act.put, List.setIfInBounds_toArray, List.set_cons_zero, List.set_cons_succ]
        refine wpAnyH_done (by kernel_rfl) ?_ _
        have HQE := Lib.hid (Q59.out.trans (Rl.SB4.here hS))
        clear hS SQ
        go_wp2_with fail
        go_ret
        exact ⟨rfl, HQE.out⟩

set_option maxRecDepth 100000 in
theorem lifted (os : Os) (started : os.Started) (H : Type) (enc : TypeId × Value → H) :
    ReturnsInHanded {} Try.checked os 3 .any (Rows.roundToSpec.pre6 enc Try.prog Try.f3 Rows.roundToRow.domain false) (Rows.roundToSpec.post enc Try.prog Try.f3 false true false false) := by
  refine returnsInHanded_of_change (C := Try.checked) own started (by kernel_rfl) Try.func3
    (ChangeSpec.witness6 (enc := enc) (C := Try.checked) false ⟨#[], #[.agg #[.bool false, .slice none 0 0, .int .i64 0], .int .i64 0, .int .i64 0], []⟩ 8 (by kernel_rfl) (by kernel_rfl) (by kernel_rfl) (by kernel_rfl)) ?_
  intro W base args ds gs before hval0 hW hcnd _
  have hval : ∀ (j : Nat) t v, Try.f3.params[j]? = some t → args[j]? = some v → Value.okWide Try.prog W .any base t v := hval0
  have hW' := hW
  obtain ⟨p, q, hA0, hV, rfl, hfz, hnd⟩ := hW
  have hA : DataW.TrodAll enc Try.prog W 0 (fun _ => true) true Try.f3.params.toList args.toList ds p := hA0
  rw [Try.params3] at hA hval
  obtain ⟨v0, vs0, d0, ds0, p0, q0, hargs, rfl, rfl, h0, r0⟩ := trodAll_cons hA
  obtain ⟨v1, vs1, d1, ds1, p1, q1, rfl, rfl, rfl, h1, r1⟩ := trodAll_cons r0
  obtain ⟨v2, vs2, d2, ds2, p2, q2, rfl, rfl, rfl, h2, r2⟩ := trodAll_cons r1
  obtain ⟨rfl, rfl, rfl⟩ := trodAll_nil r2
  obtain rfl : args = #[v0, v1, v2] := by cases args; simp_all
  obtain ⟨rfl, rfl⟩ := trodVars_none hV
  have k0 := h0
  have lt0 : ∀ x ∈ p0, x.block < W.heap.size := by obtain ⟨m, hm⟩ := k0; exact DataW.trod_lt m _ _ _ hm
  obtain ⟨c00, c01, c02, y00, y01, y02, m0, rfl, _, _, hy00, hy01, hy02⟩ := Joins.open_agg3 Try.underlying24 (by kernel_rfl) (by kernel_rfl) (hval 0 24 v0 rfl rfl) h0
  obtain ⟨g0, rfl⟩ : ∃ b, c00 = .bool b := by
    obtain ⟨b, h, _⟩ := DataW.trod_bool Try.underlying4 hy00
    exact ⟨b, by simpa using h⟩
  obtain ⟨s0, rfl, ws0⟩ : ∃ n, c02 = .int .i64 n ∧ (Lit.int .i64 n).wf = true := by
    obtain ⟨n, h, _, hw⟩ := DataW.trod_int Try.underlying3 hy02
    exact ⟨n, by simpa using h, hw⟩
  obtain ⟨a0, len0, cap0, z0, rfl, w0⟩ : ∃ a len cap zs, c01 = .slice a len cap ∧ IsRow .i64 W a len cap zs := by
    rcases open_ints Try.underlying22 Try.underlying3 (by kernel_rfl) hy01 with ⟨hcs, _⟩ | ⟨x, l, c, zs, hcs, _, hl, hm, hz, _, hcell, hwz⟩
    · exact ⟨none, 0, 0, [], by simpa using hcs, .inl ⟨rfl, rfl, rfl, rfl⟩⟩
    · exact ⟨some x, l, c, zs, by simpa using hcs, .inr ⟨_, rfl, hl, hm, by simpa using hz, hcell, hwz⟩⟩
  obtain ⟨xs0, l0, _, b0⟩ := w0.lst
  obtain ⟨a1, rfl, rfl, rfl, w1⟩ := open_int Try.underlying3 (hval 1 3 v1 rfl rfl) h1
  obtain ⟨a2, rfl, rfl, rfl, w2⟩ := open_int Try.underlying3 (hval 2 3 v2 rfl rfl) h2
  clear hA0 hval0
  refine (walk W g0 (.slice a0 len0 cap0) xs0 l0 b0 s0 (bounds_i64 ws0) a1 (bounds_i64 w1) a2 (bounds_i64 w2)).mono fun e W' ⟨he, bel⟩ => ?_
  subst he
  exact ⟨_, rfl, _, _, _, [], _, [], hW', trodAll_mk1 (shut_bool Try.underlying4 _), (trodAll_cons_mk (Below.trod laidOut (by kernel_rfl) (of_decide_eq_true (by kernel_rfl)) k0 bel lt0) (trodAll_cons_mk (shut_int Try.underlying3 w1) (trodAll_cons_mk (shut_int Try.underlying3 w2) trodAll_mk0))), rfl, bel.below.frame _, fun h => by cases h⟩

/-- The statement. -/
theorem proved : Rows.RoundToSaid :=
  OpenClaim.holds_of_wide 3 Try.f3 rfl rfl rfl rfl rfl rfl rfl ⟨rfl, rfl, rfl, rfl, rfl⟩ rfl rfl rfl rfl rfl (by kernel_rfl) Try.func3 (by kernel_rfl)
    (of_decide_eq_true (by kernel_rfl)) (by unfold Func.isWrapper; first | (rw [if_pos (by decide +kernel)]; kernel_rfl) | (rw [if_neg (by decide +kernel)]; exact ⟨rfl, rfl⟩))
    (fun os started H enc _ => lifted os started H enc)
#print axioms proved
end Go.Proofs.Ytebcgpoemppljaa.roundTo
