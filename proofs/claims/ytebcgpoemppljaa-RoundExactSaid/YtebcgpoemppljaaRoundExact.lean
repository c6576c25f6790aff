/- RoundExact: of whatever decimal (its first 12 numbers made digits, its scale made 0 to 9), a scale (made 0 to 9) and two modes (made such) a decimal of the scale stays, and rounded again each one stays; no conditions. -/
import Derived.Test.YtebcgpoemppljaaRows
import Derived.WalkKit
import Derived.ProofKit
import Derived.OpenShut
import Derived.ShutString
import Derived.ChangeOld
import Derived.Below
import Derived.Lib.SmallJoins
import Derived.Test.YtebcgpoemppljaaInts
import Derived.Test.YtebcgpoemppljaaUtfM
import Derived.Test.YtebcgpoemppljaaUtfG
import Derived.Test.YtebcgpoemppljaaUtfR
import Derived.Test.YtebcgpoemppljaaDigM
import Derived.Test.YtebcgpoemppljaaDigL
import Derived.Test.YtebcgpoemppljaaDigR
import Derived.Test.YtebcgpoemppljaaDecM
import Derived.Test.YtebcgpoemppljaaDecR
import Derived.Test.YtebcgpoemppljaaDecS
import Derived.Test.YtebcgpoemppljaaDecC
import Derived.Test.YtebcgpoemppljaaDecZ
import Derived.Test.YtebcgpoemppljaaDecY
import Derived.Test.YtebcgpoemppljaaRndM
import Derived.Test.YtebcgpoemppljaaRndN
import Derived.Test.YtebcgpoemppljaaRndU
import Derived.Test.YtebcgpoemppljaaRndP
import Derived.Test.YtebcgpoemppljaaRndZ
import Derived.Test.YtebcgpoemppljaaRndT
set_option linter.unusedVariables false
set_option linter.unusedSimpArgs false
namespace Go.Proofs.Ytebcgpoemppljaa.roundExact
open Go.ChangeShapes Go.WideShapes Go.ChangeAt Go.RowKit
open Go.ChangeMaps (open_string shut_string)

theorem own : ownKnob Try.prog.godebug = none := by kernel_rfl
theorem laidOut : laidOutB Try.prog = true := by kernel_rfl


set_option maxHeartbeats 8000000 in
set_option maxRecDepth 100000 in
theorem walk (w : World) (g0 : Bool) (v0 : Value) (xs0 : List Int) (w0 : Lst w v0 xs0) (b0 : ∀ n ∈ xs0, -9223372036854775808 ≤ n ∧ n ≤ 9223372036854775807) (s0 : Int) (ws0 : -9223372036854775808 ≤ s0 ∧ s0 ≤ 9223372036854775807) (a1 : Int) (w1 : -9223372036854775808 ≤ a1 ∧ a1 ≤ 9223372036854775807) (a2 : Int) (w2 : -9223372036854775808 ≤ a2 ∧ a2 ≤ 9223372036854775807) (a3 : Int) (w3 : -9223372036854775808 ≤ a3 ∧ a3 ≤ 9223372036854775807) :
    Calls Try.prog 4 #[.agg #[.bool g0, v0, .int .i64 s0], .int .i64 a1, .int .i64 a2, .int .i64 a3] w fun e w' => e = .returned (.bool true) ∧ Q w w' := by
  obtain ⟨A0, C0, rfl, _, _⟩ := w0.shape2
  have hgl0 := Dm.gdL_len xs0 12
  have kX0 := Dm.gdL_ok xs0 12
  have hab0 := Um.around_bd s0 10 (by omega)
  obtain ⟨t0, ht0⟩ : ∃ t : Nat, Um.around s0 10 = (t : Int) := ⟨(Um.around s0 10).toNat, by omega⟩
  rw [ht0] at hab0
  have hs0 : t0 ≤ 9 := by omega
  obtain ⟨p0, hp0⟩ : ∃ p, (Dm.gdL xs0 12).length = p := ⟨_, rfl⟩
  have hpm0 : p0 ≤ 12 := by omega
  have G0 := Lib.hid (fun u (q : Q w u) => Ep.good_sh u g0 A0 xs0.length C0 s0 xs0 12 (w0.q q) rfl ws0 (by omega) b0 t0 p0 ht0 hp0)
  generalize Dm.gdL xs0 12 = X0 at *
  generalize hn0 : xs0.length = n0 at *
  have HP0 := Lib.hid hp0
  clear hgl0 hab0 ht0 hp0
  have A1 := fun w => Ur.around_any a1 10 w w1.1 w1.2 (by omega) (by omega)
  have hab1 := Um.around_bd a1 10 (by omega)
  obtain ⟨n, hn⟩ : ∃ t : Nat, Um.around a1 10 = (t : Int) := ⟨(Um.around a1 10).toNat, by omega⟩
  rw [hn] at A1 hab1
  have nlt : n < 10 := by omega
  have AR1 := Lib.hid A1
  clear A1 hab1 hn
  have A2 := fun w => Ur.around_any a2 7 w w2.1 w2.2 (by omega) (by omega)
  have hab2 := Um.around_bd a2 7 (by omega)
  generalize Um.around a2 7 = m at *
  have AR2 := Lib.hid A2
  clear A2
  have A3 := fun w => Ur.around_any a3 7 w w3.1 w3.2 (by omega) (by omega)
  have hab3 := Um.around_bd a3 7 (by omega)
  generalize Um.around a3 7 = k at *
  have AR3 := Lib.hid A3
  clear A3
  have hp0 := HP0.out
  have P0 := Rl.to_prog g0 t0 n m X0 (by omega) kX0 (by omega) (by omega) (by omega)
  have zl0 := Rl.rk_len g0 t0 n m X0 (by omega) kX0 (by omega)
  have hex := Rm.rk_exact g0 (Dm.num X0) t0 n m
  have hzs := Dm.st_le (Dm.num X0) t0
  have TR := fun u v h => Er.trim_any g0 v t0 X0 u h (by omega) kX0 (by omega)
  have EX0 := fun u v h => Rq.exact_any g0 v t0 n X0 u h (by omega) kX0 (by omega) (by omega)
  unfold Rl.R3 at P0
  generalize Rm.rk g0 (Dm.st (Dm.num X0) t0).1 (Dm.st (Dm.num X0) t0).2 n m = R0 at *
  have P1 := Rl.to_prog (Dm.cg g0 R0) n n k (Dm.dg R0) (by omega) (Dm.okD_dg _) (by omega) (by omega) (by omega)
  have hag := Rm.rk_again (Dm.cg g0 R0) R0 n k
  rw [Dm.num_dg, hag.2, Dm.cg_cg] at P1
  unfold Rl.R3 at P1
  have EXn := fun u v h => Rq.exact_any (Dm.cg g0 R0) v n n (Dm.dg R0) u h (by omega) (Dm.okD_dg _) (by omega) (by omega)
  have EXm := fun u v h => Rq.exact_any (Dm.cg g0 R0) v n (-1) (Dm.dg R0) u h (by omega) (Dm.okD_dg _) (by omega) (by omega)
  have EXp := fun u v h => Rq.exact_any (Dm.cg g0 R0) v n 1001 (Dm.dg R0) u h (by omega) (Dm.okD_dg _) (by omega) (by omega)
  rw [Dm.num_dg, show decide (0 ≤ (n : Int)) = true from by simp, show decide ((n : Int) ≤ 1000) = true from by simp; omega, show decide (((Dm.st R0 n).2 : Nat) ≤ (n : Int)) = true from by simp; exact hag.1] at EXn
  rw [show decide ((0 : Int) ≤ -1) = false from by decide, Bool.false_and, Bool.false_and] at EXm
  rw [show decide ((1001 : Int) ≤ 1000) = false from by decide, Bool.and_false, Bool.false_and] at EXp
  rw [show decide (0 ≤ (n : Int)) = true from by simp, show decide ((n : Int) ≤ 1000) = true from by simp; omega, Bool.true_and, Bool.true_and] at EX0
  rw [Bool.true_and, Bool.true_and] at EXn
  have CM := fun u a b c d h1 h2 => Rl.cmp_sh (Dm.cg g0 R0) g0 n t0 (Dm.dg R0) X0 (by omega) (by omega) (Dm.okD_dg _) kX0 (by omega) (by omega) u a b _ p0 c d rfl hp0 h1 h2
  rw [Dm.num_dg] at CM
  have SM := fun u a b c d h1 h2 => Ep.same_sh u (Dm.cg g0 R0) a b (Dm.dg R0).length c d n (Dm.dg R0) h1 h2 (by omega)
  generalize Dm.cmpD (Dm.cg g0 R0) R0 n g0 (Dm.num X0) t0 = kk at *
  generalize Dm.cg g0 R0 = c0 at *
  generalize Dm.dg R0 = Z0 at *
  generalize Z0.length = r0 at *
  have TT := fun u v h => (by
    refine (TR u v h).mono ?_
    rintro e w' ⟨x, rfl, hx, hq⟩
    obtain ⟨a, c, rfl⟩ := hx.shape
    exact ⟨a, c, rfl, hq⟩ : Calls Try.prog 19 #[.agg #[.bool g0, v, .int .i64 t0]] u fun e w' => ∃ a c, e = .returned (.agg #[.bool (Dm.cg g0 (Dm.num X0)), .slice a (Dm.dg (Dm.st (Dm.num X0) t0).1).length c, .int .i64 ((Dm.st (Dm.num X0) t0).2 : Nat)]) ∧ Q u w')
  generalize (Dm.st (Dm.num X0) t0).2 = zs at *
  generalize Dm.cg g0 (Dm.num X0) = cs at *
  generalize (Dm.dg (Dm.st (Dm.num X0) t0).1).length = zl at *
  unfold Er.dv at EX0 EXn EXm EXp
  have PP0 := Lib.hid P0
  have PP1 := Lib.hid P1
  have HX0 := Lib.hid EX0
  have HXn := Lib.hid EXn
  have HXm := Lib.hid EXm
  have HXp := Lib.hid EXp
  have HTT := Lib.hid TT
  have HSM := Lib.hid SM
  have HCM := Lib.hid CM
  have HEX := Lib.hid hex
  have AQ3 := Lib.hid (fun u => Calls.mono (AR3.out u) (fun e w' h => (show e = .returned (.int .i64 k) ∧ Q u w' from ⟨h.1, by rw [← h.2]; exact Q.refl _⟩)))
  have LV := Lib.hid Rl.lives_any
  clear P0 P1 EX0 EXn EXm EXp TR TT SM CM hex hag hzs zl0 hp0 w0 b0 kX0 hn0 AR3
  go_enter Try.func4, Try.ntmps4
  have Q0 := Lib.hid (show Q w (w.alloc (.cells #[.bool g0, .slice A0 n0 C0, .int .i64 s0] 24)) from ((Q.refl w).alloc (.cells #[.bool g0, .slice A0 n0 C0, .int .i64 s0] 24)))
  have B0_i0 := Lib.hid (show (w.alloc (.cells #[.bool g0, .slice A0 n0 C0, .int .i64 s0] 24)).heap[w.heap.size]? = some (.cells #[.bool g0, .slice A0 n0 C0, .int .i64 s0] 24) from by exact heap_alloc_new _ _)
  obtain ⟨k_i00, k_i01, k_i02, _, _, _⟩ := Er.block_cells B0_i0.out
  go_wp2_with fail
  refine (G0.out _ Q0.out).mono ?_
  rintro e z1 ⟨a1, c1x, rfl, hx, hq⟩
  clear k_i00 k_i01 k_i02
  have B1_i0 := Lib.hid ((Q.block hq (lt_of_block B0_i0.out)).trans B0_i0.out)
  clear B0_i0
  have Q1 := Lib.hid (Q.trans Q0.out hq)
  clear Q0
  have L1_X0 := Lib.hid hx
  clear hx
  clear hq
  have hq := (Q.refl z1).alloc (.cells #[.bool g0, .slice a1 p0 c1x, .int .i64 t0] 24)
  have hb := heap_alloc_new z1 (.cells #[.bool g0, .slice a1 p0 c1x, .int .i64 t0] 24)
  have L2_X0 := Lib.hid (Lst.q L1_X0.out hq)
  clear L1_X0
  have B2_i0 := Lib.hid ((Q.block hq (lt_of_block B1_i0.out)).trans B1_i0.out)
  clear B1_i0
  have Q2 := Lib.hid (Q.trans Q1.out hq)
  clear Q1
  have B2_x := Lib.hid hb
  clear hb hq
  obtain ⟨k_i00, k_i01, k_i02, _, _, _⟩ := Er.block_cells B2_i0.out
  obtain ⟨k_x0, k_x1, k_x2, _, _, _⟩ := Er.block_cells B2_x.out
  go_wp2_with fail
  refine (AR1.out _).mono ?_
  rintro e y ⟨rfl, rfl⟩
  clear k_i00 k_i01 k_i02 k_x0 k_x1 k_x2
  obtain ⟨k_i00, k_i01, k_i02, _, _, _⟩ := Er.block_cells B2_i0.out
  obtain ⟨k_x0, k_x1, k_x2, _, _, _⟩ := Er.block_cells B2_x.out
  go_wp2_with fail
  refine (Rl.of_sh _ _ _ _ _ _).mono ?_
  rintro e z3 ⟨rfl, hq⟩
  clear k_i00 k_i01 k_i02 k_x0 k_x1 k_x2
  have L3_X0 := Lib.hid (Lst.q L2_X0.out hq)
  clear L2_X0
  have B3_i0 := Lib.hid ((Q.block hq (lt_of_block B2_i0.out)).trans B2_i0.out)
  clear B2_i0
  have B3_x := Lib.hid ((Q.block hq (lt_of_block B2_x.out)).trans B2_x.out)
  clear B2_x
  have Q3 := Lib.hid (Q.trans Q2.out hq)
  clear Q2
  clear hq
  obtain ⟨k_i00, k_i01, k_i02, _, _, _⟩ := Er.block_cells B3_i0.out
  obtain ⟨k_x0, k_x1, k_x2, _, _, _⟩ := Er.block_cells B3_x.out
  go_wp2_with fail
  refine (AR2.out _).mono ?_
  rintro e y ⟨rfl, rfl⟩
  clear k_i00 k_i01 k_i02 k_x0 k_x1 k_x2
  obtain ⟨k_i00, k_i01, k_i02, _, _, _⟩ := Er.block_cells B3_i0.out
  obtain ⟨k_x0, k_x1, k_x2, _, _, _⟩ := Er.block_cells B3_x.out
  go_wp2_with fail
  refine (PP0.out _ _ L3_X0.out).mono ?_
  rintro e z4 ⟨a3, c3x, rfl, hx, hq⟩
  clear k_i00 k_i01 k_i02 k_x0 k_x1 k_x2
  have L4_X0 := Lib.hid (Lst.q L3_X0.out hq)
  clear L3_X0
  have B4_i0 := Lib.hid ((Q.block hq (lt_of_block B3_i0.out)).trans B3_i0.out)
  clear B3_i0
  have B4_x := Lib.hid ((Q.block hq (lt_of_block B3_x.out)).trans B3_x.out)
  clear B3_x
  have Q4 := Lib.hid (Q.trans Q3.out hq)
  clear Q3
  have L4_Z0 := Lib.hid hx.lst
  clear hx
  clear hq
  have hq := (Q.refl z4).alloc (.cells #[.bool c0, .slice a3 r0 c3x, .int .i64 n] 27)
  have hb := heap_alloc_new z4 (.cells #[.bool c0, .slice a3 r0 c3x, .int .i64 n] 27)
  have L5_X0 := Lib.hid (Lst.q L4_X0.out hq)
  clear L4_X0
  have L5_Z0 := Lib.hid (Lst.q L4_Z0.out hq)
  clear L4_Z0
  have B5_i0 := Lib.hid ((Q.block hq (lt_of_block B4_i0.out)).trans B4_i0.out)
  clear B4_i0
  have B5_x := Lib.hid ((Q.block hq (lt_of_block B4_x.out)).trans B4_x.out)
  clear B4_x
  have Q5 := Lib.hid (Q.trans Q4.out hq)
  clear Q4
  have B5_p := Lib.hid hb
  clear hb hq
  have SQ := Lib.hid (fun u (q : Q ((z4.alloc (.cells #[.bool c0, .slice a3 r0 c3x, .int .i64 n] 27))) u) => (Ep.SB1.of B5_p.out q : Ep.SB1 ((z4.alloc (.cells #[.bool c0, .slice a3 r0 c3x, .int .i64 n] 27))) (z4.heap.size) c0 (.slice a3 r0 c3x) (n) u))
  obtain ⟨k_i00, k_i01, k_i02, _, _, _⟩ := Er.block_cells B5_i0.out
  obtain ⟨k_x0, k_x1, k_x2, _, _, _⟩ := Er.block_cells B5_x.out
  obtain ⟨k_p0, k_p1, k_p2, _, _, _⟩ := Er.block_cells B5_p.out
  go_upto_region 4 with fail
  go_cut [13, 14] (fun p e wx => ∃ b9 a9 c9, p = .pointer (some ⟨b9, 0, none⟩) ∧ e = .int .i64 0 ∧ wx.heap[b9]? = some (.cells #[.bool c0, .slice a9 r0 c9, .int .i64 n] 27) ∧ Lst wx (.slice a9 r0 c9) Z0 ∧ Q (z4.alloc (.cells #[.bool c0, .slice a3 r0 c3x, .int .i64 n] 27)) wx)
  case first =>
    refine wp_region_held_drew (S := fun u => Ep.SB1 ((z4.alloc (.cells #[.bool c0, .slice a3 r0 c3x, .int .i64 n] 27))) (z4.heap.size) c0 (.slice a3 r0 c3x) (n) u) (by kernel_rfl) (by exact SQ.out _ ((Q.refl (z4.alloc (.cells #[.bool c0, .slice a3 r0 c3x, .int .i64 n] 27))).drew)) (fun hHeld => ?_)
    have hS : Ep.SB1 ((z4.alloc (.cells #[.bool c0, .slice a3 r0 c3x, .int .i64 n] 27))) (z4.heap.size) c0 (.slice a3 r0 c3x) (n) (z4.alloc (.cells #[.bool c0, .slice a3 r0 c3x, .int .i64 n] 27)).drew := hHeld
    clear hHeld
    generalize (z4.alloc (.cells #[.bool c0, .slice a3 r0 c3x, .int .i64 n] 27)).drew = yT4x0 at hS ⊢
    refine wpAnyH_take (i := 0) (oi := { dst := some 30, op := Op.load 27 (Operand.tmp 11), type := 27, pos := "law.go:50", after := #[], guard := none }) (v := ?vT4x1) rfl (by kernel_rfl) (by kernel_rfl) (by kernel_rfl) (fun _ _ _ h => h) (Or.inl ⟨by rfl, ?hyT4x1⟩) (by exact hS) ?rsT4x1
    case hyT4x1 => (intro w hSw; (try dsimp only at hSw); unfold Ep.SB1 at hSw; go_simp; try with_reducible rfl)
    try simp only [Act.put, List.setIfInBounds_toArray, List.set_cons_zero, List.set_cons_succ]
    refine wpAnyH_take (i := 1) (oi := { dst := some 31, op := Op.move (Operand.tmp 10), type := 3, pos := "law.go:50", after := #[], guard := none }) (v := ?vT4x2) rfl (by kernel_rfl) (by kernel_rfl) (by kernel_rfl) (fun _ _ _ h => h) (Or.inl ⟨by rfl, ?hyT4x2⟩) (by exact hS) ?rsT4x2
    case hyT4x2 => (intro w hSw; (try dsimp only at hSw); unfold Ep.SB1 at hSw; go_simp; try with_reducible rfl)
    try simp only [Act.put, List.setIfInBounds_toArray, List.set_cons_zero, List.set_cons_succ]
    refine wpAnyH_take (i := 2) (oi := { dst := some 32, op := Op.move (Operand.tmp 3), type := 3, pos := "law.go:50", after := #[], guard := none }) (v := ?vT4x3) rfl (by kernel_rfl) (by kernel_rfl) (by kernel_rfl) (fun _ _ _ h => h) (Or.inl ⟨by rfl, ?hyT4x3⟩) (by exact hS) ?rsT4x3
    case hyT4x3 => (intro w hSw; (try dsimp only at hSw); unfold Ep.SB1 at hSw; go_simp; try with_reducible rfl)
    try simp only [Act.put, List.setIfInBounds_toArray, List.set_cons_zero, List.set_cons_succ]
    refine wpAnyH_ready (rs := [3, 8]) (by kernel_rfl) (by simp) ?_
    refine (AllReadyH.cons (o := { dst := some 33, op := Op.call { callee := Callee.value (Operand.func 12), args := #[Operand.tmp 32, Operand.const (Value.int IntKind.i64 7)], argTypes := #[3, 3] }, type := 3, pos := "law.go:50", after := #[{ on := 2, ground := Ground.data }], guard := none }) rfl (fun K hK => ?_) (AllReadyH.cons (o := { dst := some 13, op := Op.alloc 27, type := 0, pos := "law.go:50", after := #[], guard := none }) rfl (fun K hK => ?_) AllReadyH.nil))
    · go_simp
      refine (AQ3.out _).mono ?_
      rintro e yT4x4 ⟨rfl, hq⟩
      try (go_wp2_with fail)
      have hS2 := SQ.out _ (Q.trans (Ep.SB1.here hS) hq)
      refine hK.out _ _ (by exact hS2) (fun hHeld => ?_)
      clear hK K hHeld hS hq
      have hS := hS2
      clear hS2
      try simp only [Act.put, List.setIfInBounds_toArray, List.set_cons_zero, List.set_cons_succ]
      refine wpAnyH_ready (rs := [4, 8]) (by kernel_rfl) (by simp) ?_
      refine (AllReadyH.cons (o := { dst := some 34, op := Op.call { callee := Callee.value (Operand.func 13), args := #[Operand.tmp 30, Operand.tmp 31, Operand.tmp 33], argTypes := #[27, 3, 3] }, type := 29, pos := "law.go:50", after := #[{ on := 0, ground := Ground.data }, { on := 1, ground := Ground.data }, { on := 3, ground := Ground.data }, { on := 3, ground := Ground.chain }], guard := none }) rfl (fun K hK => ?_) (AllReadyH.cons (o := { dst := some 13, op := Op.alloc 27, type := 0, pos := "law.go:50", after := #[], guard := none }) rfl (fun K hK => ?_) AllReadyH.nil))
      · go_simp
        refine (PP1.out _ _ (L5_Z0.out.q (Ep.SB1.here hS))).mono ?_
        rintro e yT4x5 ⟨a9, c9, rfl, hx9, hq⟩
        try (go_wp2_with fail)
        have hlf := hx9
        have hx9 := Rr.lf_lst hlf
        clear hlf
        have hS2 := SQ.out _ (Q.trans (Ep.SB1.here hS) hq)
        refine hK.out _ _ (by exact hS2) (fun hHeld => ?_)
        clear hK K hHeld hS hq
        have hS := hS2
        clear hS2
        try simp only [Act.put, List.setIfInBounds_toArray, List.set_cons_zero, List.set_cons_succ]
        refine wpAnyH_take (i := 5) (oi := { dst := some 29, op := Op.move (Operand.tmp 34), type := 29, pos := "law.go:50", after := #[{ on := 4, ground := Ground.data }], guard := none }) (v := ?vT4x6) rfl (by kernel_rfl) (by kernel_rfl) (by kernel_rfl) (fun _ _ _ h => h) (Or.inl ⟨by rfl, ?hyT4x6⟩) (by exact hS) ?rsT4x6
        case hyT4x6 => (intro w hSw; (try dsimp only at hSw); unfold Ep.SB1 at hSw; go_simp; try with_reducible rfl)
        try simp only [Act.put, List.setIfInBounds_toArray, List.set_cons_zero, List.set_cons_succ]
        refine wpAnyH_take (i := 6) (oi := { dst := some 35, op := Op.extract (Operand.tmp 29) 0, type := 27, pos := "law.go:50", after := #[{ on := 5, ground := Ground.data }], guard := none }) (v := ?vT4x7) rfl (by kernel_rfl) (by kernel_rfl) (by kernel_rfl) (fun _ _ _ h => h) (Or.inl ⟨by rfl, ?hyT4x7⟩) (by exact hS) ?rsT4x7
        case hyT4x7 => (intro w hSw; (try dsimp only at hSw); unfold Ep.SB1 at hSw; go_simp; try with_reducible rfl)
        try simp only [Act.put, List.setIfInBounds_toArray, List.set_cons_zero, List.set_cons_succ]
        refine wpAnyH_take (i := 7) (oi := { dst := some 36, op := Op.extract (Operand.tmp 29) 1, type := 28, pos := "law.go:50", after := #[{ on := 5, ground := Ground.data }, { on := 9, ground := Ground.gcOnly Departure.lateStores }], guard := none }) (v := ?vT4x8) rfl (by kernel_rfl) (by kernel_rfl) (by kernel_rfl) (fun _ _ _ h => h) (Or.inl ⟨by rfl, ?hyT4x8⟩) (by exact hS) ?rsT4x8
        case hyT4x8 => (intro w hSw; (try dsimp only at hSw); unfold Ep.SB1 at hSw; go_simp; try with_reducible rfl)
        try simp only [Act.put, List.setIfInBounds_toArray, List.set_cons_zero, List.set_cons_succ]
        refine wpAnyH_ready (rs := [8]) (by kernel_rfl) (by simp) ?_
        refine (AllReadyH.cons (o := { dst := some 13, op := Op.alloc 27, type := 0, pos := "law.go:50", after := #[], guard := none }) rfl (fun K hK => ?_) AllReadyH.nil)
        go_simp
        have hq := (Q.refl yT4x5).alloc (.cells #[.bool false, .slice none 0 0, .int .i64 0] 27)
        have hB := heap_alloc_new yT4x5 (.cells #[.bool false, .slice none 0 0, .int .i64 0] 27)
        have hbu : yT4x5.heap.size < (yT4x5.alloc (.cells #[.bool false, .slice none 0 0, .int .i64 0] 27)).heap.size := by rw [World.size_alloc]; omega
        have hWb := (Ep.SB1.here hS).le
        have hne_hx9 : ∀ (a : Addr) (n c : Nat), (.slice a9 r0 c9 : Value) = .slice (some a) n c → n ≠ 0 → a.block ≠ yT4x5.heap.size := fun a n c h1 h2 => Nat.ne_of_lt (Lst.old hx9 a n c h1 h2)
        have hx9 := Lst.q hx9 hq
        have hS2 := SQ.out _ (Q.trans (Ep.SB1.here hS) hq)
        refine hK.out _ _ (by exact hS2) (fun hHeld => ?_)
        clear hK K hHeld hS hq
        have hS := hS2
        clear hS2
        generalize yT4x5.alloc (.cells #[.bool false, .slice none 0 0, .int .i64 0] 27) = yT4x9 at *
        generalize yT4x5.heap.size = b9 at *
        have hne := hne_hx9
        try simp only [Act.put, List.setIfInBounds_toArray, List.set_cons_zero, List.set_cons_succ]
        refine wpAnyH_ready (rs := [9]) (by kernel_rfl) (by simp) ?_
        refine (AllReadyH.cons (o := { dst := none, op := Op.store 27 (Operand.tmp 13) (Operand.tmp 35), type := 0, pos := "law.go:50", after := #[{ on := 8, ground := Ground.data }, { on := 6, ground := Ground.data }, { on := 4, ground := Ground.chain }, { on := 0, ground := Ground.phase }, { on := 1, ground := Ground.phase }, { on := 2, ground := Ground.phase }, { on := 3, ground := Ground.phase }, { on := 4, ground := Ground.phase }, { on := 5, ground := Ground.phase }, { on := 6, ground := Ground.phase }, { on := 7, ground := Ground.textOnly Departure.lateStores }, { on := 8, ground := Ground.phase }], guard := none }) rfl (fun K hK => ?_) AllReadyH.nil)
        obtain ⟨f0, f1, f2, f3, f4, f5⟩ := Er.block_cells hB
        have hset := Er.block_set (x' := .bool c0) (y' := .slice a9 r0 c9) (z' := .int .i64 n) hB
        have hqW := ((Q.setCell (Q.setCell (Q.setCell (Ep.SB1.here hS) (ad := ⟨b9, 0, none⟩) hWb (.bool c0)) (ad := ⟨b9, 1, none⟩) hWb (.slice a9 r0 c9)) (ad := ⟨b9, 2, none⟩) hWb (.int .i64 n)))
        have hl := Lst.setCell (Lst.setCell (Lst.setCell hx9 (ad := ⟨b9, 0, none⟩) (.bool c0) hne) (ad := ⟨b9, 1, none⟩) (.slice a9 r0 c9) hne) (ad := ⟨b9, 2, none⟩) (.int .i64 n) hne
        go_simp
        have hS2 := SQ.out _ hqW
        refine hK.out _ _ (by exact hS2) (fun hHeld => ?_)
        clear hK K hHeld hS
        have hS := hS2
        clear hS2 f0 f1 f2 f3 f4 f5
        try simp only [Act.put, List.setIfInBounds_toArray, List.set_cons_zero, List.set_cons_succ]
        refine wpAnyH_take (i := 10) (oi := { dst := some 14, op := Op.assign (Operand.tmp 36), type := 28, pos := "law.go:50", after := #[{ on := 7, ground := Ground.data }, { on := 9, ground := Ground.chain }, { on := 0, ground := Ground.phase }, { on := 1, ground := Ground.phase }, { on := 2, ground := Ground.phase }, { on := 3, ground := Ground.phase }, { on := 4, ground := Ground.phase }, { on := 5, ground := Ground.phase }, { on := 6, ground := Ground.phase }, { on := 7, ground := Ground.phase }, { on := 8, ground := Ground.phase }, { on := 9, ground := Ground.phase }], guard := none }) (v := ?vT4x11) rfl (by kernel_rfl) (by kernel_rfl) (by kernel_rfl) (fun _ _ _ h => h) (Or.inl ⟨by rfl, ?hyT4x11⟩) (by exact hS) ?rsT4x11
        case hyT4x11 => (intro w hSw; (try dsimp only at hSw); unfold Ep.SB1 at hSw; go_simp; try with_reducible rfl)
        try simp only [Act.put, List.setIfInBounds_toArray, List.set_cons_zero, List.set_cons_succ]
        refine wpAnyH_done (by kernel_rfl) ?_ _
        go_wp2_with fail
        go_meet
        exact ⟨b9, a9, c9, rfl, rfl, hset, hl, hqW⟩
      · go_simp
        have hq := (Q.refl yT4x4).alloc (.cells #[.bool false, .slice none 0 0, .int .i64 0] 27)
        have hB := heap_alloc_new yT4x4 (.cells #[.bool false, .slice none 0 0, .int .i64 0] 27)
        have hbu : yT4x4.heap.size < (yT4x4.alloc (.cells #[.bool false, .slice none 0 0, .int .i64 0] 27)).heap.size := by rw [World.size_alloc]; omega
        have hWb := (Ep.SB1.here hS).le
        have hS2 := SQ.out _ (Q.trans (Ep.SB1.here hS) hq)
        refine hK.out _ _ (by exact hS2) (fun hHeld => ?_)
        clear hK K hHeld hS hq
        have hS := hS2
        clear hS2
        generalize yT4x4.alloc (.cells #[.bool false, .slice none 0 0, .int .i64 0] 27) = yT4x12 at *
        generalize yT4x4.heap.size = b9 at *
        try simp only [Act.put, List.setIfInBounds_toArray, List.set_cons_zero, List.set_cons_succ]
        refine wpAnyH_ready (rs := [4]) (by kernel_rfl) (by simp) ?_
        refine (AllReadyH.cons (o := { dst := some 34, op := Op.call { callee := Callee.value (Operand.func 13), args := #[Operand.tmp 30, Operand.tmp 31, Operand.tmp 33], argTypes := #[27, 3, 3] }, type := 29, pos := "law.go:50", after := #[{ on := 0, ground := Ground.data }, { on := 1, ground := Ground.data }, { on := 3, ground := Ground.data }, { on := 3, ground := Ground.chain }], guard := none }) rfl (fun K hK => ?_) AllReadyH.nil)
        go_simp
        refine (PP1.out _ _ (L5_Z0.out.q (Ep.SB1.here hS))).mono ?_
        rintro e yT4x13 ⟨a9, c9, rfl, hx9, hq⟩
        try (go_wp2_with fail)
        have hB := (Q.block hq (lt_of_block hB)).trans hB
        have hlf := hx9
        have hx9 := Rr.lf_lst hlf
        have hne : ∀ (a : Addr) (n c : Nat), (.slice a9 r0 c9 : Value) = .slice (some a) n c → n ≠ 0 → a.block ≠ b9 := Rr.lf_ne hlf hbu
        clear hlf
        have hS2 := SQ.out _ (Q.trans (Ep.SB1.here hS) hq)
        have hbu := Nat.lt_of_lt_of_le hbu hq.le
        refine hK.out _ _ (by exact hS2) (fun hHeld => ?_)
        clear hK K hHeld hS hq
        have hS := hS2
        clear hS2
        try simp only [Act.put, List.setIfInBounds_toArray, List.set_cons_zero, List.set_cons_succ]
        refine wpAnyH_take (i := 5) (oi := { dst := some 29, op := Op.move (Operand.tmp 34), type := 29, pos := "law.go:50", after := #[{ on := 4, ground := Ground.data }], guard := none }) (v := ?vT4x14) rfl (by kernel_rfl) (by kernel_rfl) (by kernel_rfl) (fun _ _ _ h => h) (Or.inl ⟨by rfl, ?hyT4x14⟩) (by exact hS) ?rsT4x14
        case hyT4x14 => (intro w hSw; (try dsimp only at hSw); unfold Ep.SB1 at hSw; go_simp; try with_reducible rfl)
        try simp only [Act.put, List.setIfInBounds_toArray, List.set_cons_zero, List.set_cons_succ]
        refine wpAnyH_take (i := 6) (oi := { dst := some 35, op := Op.extract (Operand.tmp 29) 0, type := 27, pos := "law.go:50", after := #[{ on := 5, ground := Ground.data }], guard := none }) (v := ?vT4x15) rfl (by kernel_rfl) (by kernel_rfl) (by kernel_rfl) (fun _ _ _ h => h) (Or.inl ⟨by rfl, ?hyT4x15⟩) (by exact hS) ?rsT4x15
        case hyT4x15 => (intro w hSw; (try dsimp only at hSw); unfold Ep.SB1 at hSw; go_simp; try with_reducible rfl)
        try simp only [Act.put, List.setIfInBounds_toArray, List.set_cons_zero, List.set_cons_succ]
        refine wpAnyH_take (i := 7) (oi := { dst := some 36, op := Op.extract (Operand.tmp 29) 1, type := 28, pos := "law.go:50", after := #[{ on := 5, ground := Ground.data }, { on := 9, ground := Ground.gcOnly Departure.lateStores }], guard := none }) (v := ?vT4x16) rfl (by kernel_rfl) (by kernel_rfl) (by kernel_rfl) (fun _ _ _ h => h) (Or.inl ⟨by rfl, ?hyT4x16⟩) (by exact hS) ?rsT4x16
        case hyT4x16 => (intro w hSw; (try dsimp only at hSw); unfold Ep.SB1 at hSw; go_simp; try with_reducible rfl)
        try simp only [Act.put, List.setIfInBounds_toArray, List.set_cons_zero, List.set_cons_succ]
        refine wpAnyH_ready (rs := [9]) (by kernel_rfl) (by simp) ?_
        refine (AllReadyH.cons (o := { dst := none, op := Op.store 27 (Operand.tmp 13) (Operand.tmp 35), type := 0, pos := "law.go:50", after := #[{ on := 8, ground := Ground.data }, { on := 6, ground := Ground.data }, { on := 4, ground := Ground.chain }, { on := 0, ground := Ground.phase }, { on := 1, ground := Ground.phase }, { on := 2, ground := Ground.phase }, { on := 3, ground := Ground.phase }, { on := 4, ground := Ground.phase }, { on := 5, ground := Ground.phase }, { on := 6, ground := Ground.phase }, { on := 7, ground := Ground.textOnly Departure.lateStores }, { on := 8, ground := Ground.phase }], guard := none }) rfl (fun K hK => ?_) AllReadyH.nil)
        obtain ⟨f0, f1, f2, f3, f4, f5⟩ := Er.block_cells hB
        have hset := Er.block_set (x' := .bool c0) (y' := .slice a9 r0 c9) (z' := .int .i64 n) hB
        have hqW := ((Q.setCell (Q.setCell (Q.setCell (Ep.SB1.here hS) (ad := ⟨b9, 0, none⟩) hWb (.bool c0)) (ad := ⟨b9, 1, none⟩) hWb (.slice a9 r0 c9)) (ad := ⟨b9, 2, none⟩) hWb (.int .i64 n)))
        have hl := Lst.setCell (Lst.setCell (Lst.setCell hx9 (ad := ⟨b9, 0, none⟩) (.bool c0) hne) (ad := ⟨b9, 1, none⟩) (.slice a9 r0 c9) hne) (ad := ⟨b9, 2, none⟩) (.int .i64 n) hne
        go_simp
        have hS2 := SQ.out _ hqW
        refine hK.out _ _ (by exact hS2) (fun hHeld => ?_)
        clear hK K hHeld hS
        have hS := hS2
        clear hS2 f0 f1 f2 f3 f4 f5
        try simp only [Act.put, List.setIfInBounds_toArray, List.set_cons_zero, List.set_cons_succ]
        refine wpAnyH_take (i := 10) (oi := { dst := some 14, op := Op.assign (Operand.tmp 36), type := 28, pos := "law.go:50", after := #[{ on := 7, ground := Ground.data }, { on := 9, ground := Ground.chain }, { on := 0, ground := Ground.phase }, { on := 1, ground := Ground.phase }, { on := 2, ground := Ground.phase }, { on := 3, ground := Ground.phase }, { on := 4, ground := Ground.phase }, { on := 5, ground := Ground.phase }, { on := 6, ground := Ground.phase }, { on := 7, ground := Ground.phase }, { on := 8, ground := Ground.phase }, { on := 9, ground := Ground.phase }], guard := none }) (v := ?vT4x18) rfl (by kernel_rfl) (by kernel_rfl) (by kernel_rfl) (fun _ _ _ h => h) (Or.inl ⟨by rfl, ?hyT4x18⟩) (by exact hS) ?rsT4x18
        case hyT4x18 => (intro w hSw; (try dsimp only at hSw); unfold Ep.SB1 at hSw; go_simp; try with_reducible rfl)
        try simp only [Act.put, List.setIfInBounds_toArray, List.set_cons_zero, List.set_cons_succ]
        refine wpAnyH_done (by kernel_rfl) ?_ _
        go_wp2_with fail
        go_meet
        exact ⟨b9, a9, c9, rfl, rfl, hset, hl, hqW⟩
    · go_simp
      have hq := (Q.refl yT4x0).alloc (.cells #[.bool false, .slice none 0 0, .int .i64 0] 27)
      have hB := heap_alloc_new yT4x0 (.cells #[.bool false, .slice none 0 0, .int .i64 0] 27)
      have hbu : yT4x0.heap.size < (yT4x0.alloc (.cells #[.bool false, .slice none 0 0, .int .i64 0] 27)).heap.size := by rw [World.size_alloc]; omega
      have hWb := (Ep.SB1.here hS).le
      have hS2 := SQ.out _ (Q.trans (Ep.SB1.here hS) hq)
      refine hK.out _ _ (by exact hS2) (fun hHeld => ?_)
      clear hK K hHeld hS hq
      have hS := hS2
      clear hS2
      generalize yT4x0.alloc (.cells #[.bool false, .slice none 0 0, .int .i64 0] 27) = yT4x19 at *
      generalize yT4x0.heap.size = b9 at *
      try simp only [Act.put, List.setIfInBounds_toArray, List.set_cons_zero, List.set_cons_succ]
      refine wpAnyH_ready (rs := [3]) (by kernel_rfl) (by simp) ?_
      refine (AllReadyH.cons (o := { dst := some 33, op := Op.call { callee := Callee.value (Operand.func 12), args := #[Operand.tmp 32, Operand.const (Value.int IntKind.i64 7)], argTypes := #[3, 3] }, type := 3, pos := "law.go:50", after := #[{ on := 2, ground := Ground.data }], guard := none }) rfl (fun K hK => ?_) AllReadyH.nil)
      go_simp
      refine (AQ3.out _).mono ?_
      rintro e yT4x20 ⟨rfl, hq⟩
      try (go_wp2_with fail)
      have hB := (Q.block hq (lt_of_block hB)).trans hB
      have hS2 := SQ.out _ (Q.trans (Ep.SB1.here hS) hq)
      have hbu := Nat.lt_of_lt_of_le hbu hq.le
      refine hK.out _ _ (by exact hS2) (fun hHeld => ?_)
      clear hK K hHeld hS hq
      have hS := hS2
      clear hS2
      try simp only [Act.put, List.setIfInBounds_toArray, List.set_cons_zero, List.set_cons_succ]
      refine wpAnyH_ready (rs := [4]) (by kernel_rfl) (by simp) ?_
      refine (AllReadyH.cons (o := { dst := some 34, op := Op.call { callee := Callee.value (Operand.func 13), args := #[Operand.tmp 30, Operand.tmp 31, Operand.tmp 33], argTypes := #[27, 3, 3] }, type := 29, pos := "law.go:50", after := #[{ on := 0, ground := Ground.data }, { on := 1, ground := Ground.data }, { on := 3, ground := Ground.data }, { on := 3, ground := Ground.chain }], guard := none }) rfl (fun K hK => ?_) AllReadyH.nil)
      go_simp
      refine (PP1.out _ _ (L5_Z0.out.q (Ep.SB1.here hS))).mono ?_
      rintro e yT4x21 ⟨a9, c9, rfl, hx9, hq⟩
      try (go_wp2_with fail)
      have hB := (Q.block hq (lt_of_block hB)).trans hB
      have hlf := hx9
      have hx9 := Rr.lf_lst hlf
      have hne : ∀ (a : Addr) (n c : Nat), (.slice a9 r0 c9 : Value) = .slice (some a) n c → n ≠ 0 → a.block ≠ b9 := Rr.lf_ne hlf hbu
      clear hlf
      have hS2 := SQ.out _ (Q.trans (Ep.SB1.here hS) hq)
      have hbu := Nat.lt_of_lt_of_le hbu hq.le
      refine hK.out _ _ (by exact hS2) (fun hHeld => ?_)
      clear hK K hHeld hS hq
      have hS := hS2
      clear hS2
      try simp only [Act.put, List.setIfInBounds_toArray, List.set_cons_zero, List.set_cons_succ]
      refine wpAnyH_take (i := 5) (oi := { dst := some 29, op := Op.move (Operand.tmp 34), type := 29, pos := "law.go:50", after := #[{ on := 4, ground := Ground.data }], guard := none }) (v := ?vT4x22) rfl (by kernel_rfl) (by kernel_rfl) (by kernel_rfl) (fun _ _ _ h => h) (Or.inl ⟨by rfl, ?hyT4x22⟩) (by exact hS) ?rsT4x22
      case hyT4x22 => (intro w hSw; (try dsimp only at hSw); unfold Ep.SB1 at hSw; go_simp; try with_reducible rfl)
      try simp only [Act.put, List.setIfInBounds_toArray, List.set_cons_zero, List.set_cons_succ]
      refine wpAnyH_take (i := 6) (oi := { dst := some 35, op := Op.extract (Operand.tmp 29) 0, type := 27, pos := "law.go:50", after := #[{ on := 5, ground := Ground.data }], guard := none }) (v := ?vT4x23) rfl (by kernel_rfl) (by kernel_rfl) (by kernel_rfl) (fun _ _ _ h => h) (Or.inl ⟨by rfl, ?hyT4x23⟩) (by exact hS) ?rsT4x23
      case hyT4x23 => (intro w hSw; (try dsimp only at hSw); unfold Ep.SB1 at hSw; go_simp; try with_reducible rfl)
      try simp only [Act.put, List.setIfInBounds_toArray, List.set_cons_zero, List.set_cons_succ]
      refine wpAnyH_take (i := 7) (oi := { dst := some 36, op := Op.extract (Operand.tmp 29) 1, type := 28, pos := "law.go:50", after := #[{ on := 5, ground := Ground.data }, { on := 9, ground := Ground.gcOnly Departure.lateStores }], guard := none }) (v := ?vT4x24) rfl (by kernel_rfl) (by kernel_rfl) (by kernel_rfl) (fun _ _ _ h => h) (Or.inl ⟨by rfl, ?hyT4x24⟩) (by exact hS) ?rsT4x24
      case hyT4x24 => (intro w hSw; (try dsimp only at hSw); unfold Ep.SB1 at hSw; go_simp; try with_reducible rfl)
      try simp only [Act.put, List.setIfInBounds_toArray, List.set_cons_zero, List.set_cons_succ]
      refine wpAnyH_ready (rs := [9]) (by kernel_rfl) (by simp) ?_
      refine (AllReadyH.cons (o := { dst := none, op := Op.store 27 (Operand.tmp 13) (Operand.tmp 35), type := 0, pos := "law.go:50", after := #[{ on := 8, ground := Ground.data }, { on := 6, ground := Ground.data }, { on := 4, ground := Ground.chain }, { on := 0, ground := Ground.phase }, { on := 1, ground := Ground.phase }, { on := 2, ground := Ground.phase }, { on := 3, ground := Ground.phase }, { on := 4, ground := Ground.phase }, { on := 5, ground := Ground.phase }, { on := 6, ground := Ground.phase }, { on := 7, ground := Ground.textOnly Departure.lateStores }, { on := 8, ground := Ground.phase }], guard := none }) rfl (fun K hK => ?_) AllReadyH.nil)
      obtain ⟨f0, f1, f2, f3, f4, f5⟩ := Er.block_cells hB
      have hset := Er.block_set (x' := .bool c0) (y' := .slice a9 r0 c9) (z' := .int .i64 n) hB
      have hqW := ((Q.setCell (Q.setCell (Q.setCell (Ep.SB1.here hS) (ad := ⟨b9, 0, none⟩) hWb (.bool c0)) (ad := ⟨b9, 1, none⟩) hWb (.slice a9 r0 c9)) (ad := ⟨b9, 2, none⟩) hWb (.int .i64 n)))
      have hl := Lst.setCell (Lst.setCell (Lst.setCell hx9 (ad := ⟨b9, 0, none⟩) (.bool c0) hne) (ad := ⟨b9, 1, none⟩) (.slice a9 r0 c9) hne) (ad := ⟨b9, 2, none⟩) (.int .i64 n) hne
      go_simp
      have hS2 := SQ.out _ hqW
      refine hK.out _ _ (by exact hS2) (fun hHeld => ?_)
      clear hK K hHeld hS
      have hS := hS2
      clear hS2 f0 f1 f2 f3 f4 f5
      try simp only [Act.put, List.setIfInBounds_toArray, List.set_cons_zero, List.set_cons_succ]
      refine wpAnyH_take (i := 10) (oi := { dst := some 14, op := Op.assign (Operand.tmp 36), type := 28, pos := "law.go:50", after := #[{ on := 7, ground := Ground.data }, { on := 9, ground := Ground.chain }, { on := 0, ground := Ground.phase }, { on := 1, ground := Ground.phase }, { on := 2, ground := Ground.phase }, { on := 3, ground := Ground.phase }, { on := 4, ground := Ground.phase }, { on := 5, ground := Ground.phase }, { on := 6, ground := Ground.phase }, { on := 7, ground := Ground.phase }, { on := 8, ground := Ground.phase }, { on := 9, ground := Ground.phase }], guard := none }) (v := ?vT4x26) rfl (by kernel_rfl) (by kernel_rfl) (by kernel_rfl) (fun _ _ _ h => h) (Or.inl ⟨by rfl, ?hyT4x26⟩) (by exact hS) ?rsT4x26
      case hyT4x26 => (intro w hSw; (try dsimp only at hSw); unfold Ep.SB1 at hSw; go_simp; try with_reducible rfl)
      try simp only [Act.put, List.setIfInBounds_toArray, List.set_cons_zero, List.set_cons_succ]
      refine wpAnyH_done (by kernel_rfl) ?_ _
      go_wp2_with fail
      go_meet
      exact ⟨b9, a9, c9, rfl, rfl, hset, hl, hqW⟩
  case rest =>
    obtain ⟨b13, a13, c13, rfl, rfl, hb13, hl13, hqc⟩ := hcut
    obtain ⟨w13, hw13⟩ : ∃ x, x = wc := ⟨_, rfl⟩
    subst hw13
    have HB13 := Lib.hid hb13
    have LZ13 := Lib.hid hl13
    clear SQ hb13 hl13 k_i00 k_i01 k_i02 k_x0 k_x1 k_x2 k_p0 k_p1 k_p2
    have L6_X0 := Lib.hid (Lst.q L5_X0.out hqc)
    clear L5_X0
    have L6_Z0 := Lib.hid (Lst.q L5_Z0.out hqc)
    clear L5_Z0
    have B6_i0 := Lib.hid ((Q.block hqc (lt_of_block B5_i0.out)).trans B5_i0.out)
    clear B5_i0
    have B6_x := Lib.hid ((Q.block hqc (lt_of_block B5_x.out)).trans B5_x.out)
    clear B5_x
    have B6_p := Lib.hid ((Q.block hqc (lt_of_block B5_p.out)).trans B5_p.out)
    clear B5_p
    have Q6 := Lib.hid (Q.trans Q5.out hqc)
    clear Q5
    clear hqc
    obtain ⟨k_i00, k_i01, k_i02, _, _, _⟩ := Er.block_cells B6_i0.out
    obtain ⟨k_x0, k_x1, k_x2, _, _, _⟩ := Er.block_cells B6_x.out
    obtain ⟨k_p0, k_p1, k_p2, _, _, _⟩ := Er.block_cells B6_p.out
    obtain ⟨k_b130, k_b131, k_b132, _, _, _⟩ := Er.block_cells HB13.out
    go_wp2_with fail
    refine (HTT.out _ _ L6_X0.out).mono ?_
    rintro e z7 ⟨a5, c5x, rfl, hq⟩
    clear k_i00 k_i01 k_i02 k_x0 k_x1 k_x2 k_p0 k_p1 k_p2 k_b130 k_b131 k_b132
    have L7_X0 := Lib.hid (Lst.q L6_X0.out hq)
    clear L6_X0
    have L7_Z0 := Lib.hid (Lst.q L6_Z0.out hq)
    clear L6_Z0
    have L7_Z13 := Lib.hid (Lst.q LZ13.out hq)
    clear LZ13
    have B7_i0 := Lib.hid ((Q.block hq (lt_of_block B6_i0.out)).trans B6_i0.out)
    clear B6_i0
    have B7_x := Lib.hid ((Q.block hq (lt_of_block B6_x.out)).trans B6_x.out)
    clear B6_x
    have B7_p := Lib.hid ((Q.block hq (lt_of_block B6_p.out)).trans B6_p.out)
    clear B6_p
    have B7_b13 := Lib.hid ((Q.block hq (lt_of_block HB13.out)).trans HB13.out)
    clear HB13
    have Q7 := Lib.hid (Q.trans Q6.out hq)
    clear Q6
    clear hq
    have hfd : ∀ u : World, (Instr.field 24 (.agg #[.bool cs, .slice a5 zl c5x, .int .i64 zs]) 2).run Try.prog u = .ok (.int .i64 zs) u := fun _ => by kernel_rfl
    by_cases hz : zs ≤ n
    · have hz1 : decide ((zs : Int) ≤ (n : Int)) = true := by simp; exact hz
      have hk0 : kk = 0 := HEX.out hz
      subst hk0
      have HX := HX0.out
      rw [hz1] at HX
      have HXX := Lib.hid HX
      clear HX
      have SQ := Lib.hid (fun u (q : Q (z7) u) => (Ep.SB3.of B7_x.out B7_p.out B7_b13.out q : Ep.SB3 (z7) (z1.heap.size) g0 (.slice a1 p0 c1x) (t0) (z4.heap.size) c0 (.slice a3 r0 c3x) (n) (b13) c0 (.slice a13 r0 c13) (n) u))
      obtain ⟨k_i00, k_i01, k_i02, _, _, _⟩ := Er.block_cells B7_i0.out
      obtain ⟨k_x0, k_x1, k_x2, _, _, _⟩ := Er.block_cells B7_x.out
      obtain ⟨k_p0, k_p1, k_p2, _, _, _⟩ := Er.block_cells B7_p.out
      obtain ⟨k_b130, k_b131, k_b132, _, _, _⟩ := Er.block_cells B7_b13.out
      go_wp2_with fail
      clear k_i00 k_i01 k_i02 k_x0 k_x1 k_x2 k_p0 k_p1 k_p2 k_b130 k_b131 k_b132
      refine wp_region_held_drew (S := fun u => Ep.SB3 (z7) (z1.heap.size) g0 (.slice a1 p0 c1x) (t0) (z4.heap.size) c0 (.slice a3 r0 c3x) (n) (b13) c0 (.slice a13 r0 c13) (n) u) (by kernel_rfl) (by exact SQ.out _ ((Q.refl z7).drew)) (fun hHeld => ?_)
      have hS : Ep.SB3 (z7) (z1.heap.size) g0 (.slice a1 p0 c1x) (t0) (z4.heap.size) c0 (.slice a3 r0 c3x) (n) (b13) c0 (.slice a13 r0 c13) (n) z7.drew := hHeld
      clear hHeld
      generalize z7.drew = yT5x0 at hS ⊢
      refine wpAnyH_take (i := 0) (oi := { dst := some 42, op := Op.move (Operand.tmp 12), type := 28, pos := "law.go:52", after := #[], guard := none }) (v := ?vT5x1) rfl (by kernel_rfl) (by kernel_rfl) (by kernel_rfl) (fun _ _ _ h => h) (Or.inl ⟨by rfl, ?hyT5x1⟩) (by exact hS) ?rsT5x1
      case hyT5x1 => (intro w hSw; (try dsimp only at hSw); unfold Ep.SB3 at hSw; go_simp; try with_reducible rfl)
      try simp only [Act.put, List.setIfInBounds_toArray, List.set_cons_zero, List.set_cons_succ]
      refine wpAnyH_take (i := 1) (oi := { dst := some 43, op := Op.binOp BinOp.eql 28 (Operand.tmp 42) (Operand.const (Value.int IntKind.i64 0)) 28, type := 4, pos := "law.go:52", after := #[{ on := 0, ground := Ground.data }], guard := none }) (v := ?vT5x2) rfl (by kernel_rfl) (by kernel_rfl) (by kernel_rfl) (fun _ _ _ h => h) (Or.inl ⟨by rfl, ?hyT5x2⟩) (by exact hS) ?rsT5x2
      case hyT5x2 => (intro w hSw; (try dsimp only at hSw); unfold Ep.SB3 at hSw; go_simp; try with_reducible rfl)
      try simp only [Act.put, List.setIfInBounds_toArray, List.set_cons_zero, List.set_cons_succ]
      refine wpAnyH_take (i := 2) (oi := { dst := some 44, op := Op.move (Operand.tmp 43), type := 4, pos := "law.go:52", after := #[{ on := 1, ground := Ground.data }], guard := none }) (v := ?vT5x3) rfl (by kernel_rfl) (by kernel_rfl) (by kernel_rfl) (fun _ _ _ h => h) (Or.inl ⟨by rfl, ?hyT5x3⟩) (by exact hS) ?rsT5x3
      case hyT5x3 => (intro w hSw; (try dsimp only at hSw); unfold Ep.SB3 at hSw; go_simp; try with_reducible rfl)
      try simp only [Act.put, List.setIfInBounds_toArray, List.set_cons_zero, List.set_cons_succ]
      refine wpAnyH_take (i := 3) (oi := { dst := some 45, op := Op.move (Operand.tmp 14), type := 28, pos := "law.go:52", after := #[{ on := 2, ground := Ground.guard }], guard := some (2, true) }) (v := ?vT5x4) rfl (by kernel_rfl) (by kernel_rfl) (by kernel_rfl) (fun _ _ _ h => h) (Or.inl ⟨by rfl, ?hyT5x4⟩) (by exact hS) ?rsT5x4
      case hyT5x4 => (intro w hSw; (try dsimp only at hSw); unfold Ep.SB3 at hSw; go_simp; try with_reducible rfl)
      try simp only [Act.put, List.setIfInBounds_toArray, List.set_cons_zero, List.set_cons_succ]
      refine wpAnyH_take (i := 4) (oi := { dst := some 46, op := Op.binOp BinOp.eql 28 (Operand.tmp 45) (Operand.const (Value.int IntKind.i64 0)) 28, type := 4, pos := "law.go:52", after := #[{ on := 3, ground := Ground.data }, { on := 2, ground := Ground.guard }], guard := some (2, true) }) (v := ?vT5x5) rfl (by kernel_rfl) (by kernel_rfl) (by kernel_rfl) (fun _ _ _ h => h) (Or.inl ⟨by rfl, ?hyT5x5⟩) (by exact hS) ?rsT5x5
      case hyT5x5 => (intro w hSw; (try dsimp only at hSw); unfold Ep.SB3 at hSw; go_simp; try with_reducible rfl)
      try simp only [Act.put, List.setIfInBounds_toArray, List.set_cons_zero, List.set_cons_succ]
      refine wpAnyH_take (i := 5) (oi := { dst := some 47, op := Op.pick (Operand.tmp 44) (Operand.tmp 46) (Operand.const (Value.bool false)), type := 4, pos := "law.go:52", after := #[{ on := 2, ground := Ground.data }, { on := 4, ground := Ground.data }], guard := none }) (v := ?vT5x6) rfl (by kernel_rfl) (by kernel_rfl) (by kernel_rfl) (fun _ _ _ h => h) (Or.inl ⟨by rfl, ?hyT5x6⟩) (by exact hS) ?rsT5x6
      case hyT5x6 => (intro w hSw; (try dsimp only at hSw); unfold Ep.SB3 at hSw; go_simp; try with_reducible rfl)
      try simp only [Act.put, List.setIfInBounds_toArray, List.set_cons_zero, List.set_cons_succ]
      refine wpAnyH_take (i := 6) (oi := { dst := some 48, op := Op.move (Operand.tmp 47), type := 4, pos := "law.go:52", after := #[{ on := 5, ground := Ground.data }, { on := 2, ground := Ground.chain }], guard := none }) (v := ?vT5x7) rfl (by kernel_rfl) (by kernel_rfl) (by kernel_rfl) (fun _ _ _ h => h) (Or.inl ⟨by rfl, ?hyT5x7⟩) (by exact hS) ?rsT5x7
      case hyT5x7 => (intro w hSw; (try dsimp only at hSw); unfold Ep.SB3 at hSw; go_simp; try with_reducible rfl)
      try simp only [Act.put, List.setIfInBounds_toArray, List.set_cons_zero, List.set_cons_succ]
      refine wpAnyH_take (i := 7) (oi := { dst := some 49, op := Op.load 27 (Operand.tmp 11), type := 27, pos := "law.go:52", after := #[{ on := 6, ground := Ground.guard }], guard := some (6, true) }) (v := ?vT5x8) rfl (by kernel_rfl) (by kernel_rfl) (by kernel_rfl) (fun _ _ _ h => h) (Or.inl ⟨by rfl, ?hyT5x8⟩) (by exact hS) ?rsT5x8
      case hyT5x8 => (intro w hSw; (try dsimp only at hSw); unfold Ep.SB3 at hSw; go_simp; try with_reducible rfl)
      try simp only [Act.put, List.setIfInBounds_toArray, List.set_cons_zero, List.set_cons_succ]
      refine wpAnyH_take (i := 9) (oi := { dst := some 51, op := Op.load 27 (Operand.tmp 13), type := 27, pos := "law.go:52", after := #[{ on := 6, ground := Ground.guard }], guard := some (6, true) }) (v := ?vT5x9) rfl (by kernel_rfl) (by kernel_rfl) (by kernel_rfl) (fun _ _ _ h => h) (Or.inl ⟨by rfl, ?hyT5x9⟩) (by exact hS) ?rsT5x9
      case hyT5x9 => (intro w hSw; (try dsimp only at hSw); unfold Ep.SB3 at hSw; go_simp; try with_reducible rfl)
      try simp only [Act.put, List.setIfInBounds_toArray, List.set_cons_zero, List.set_cons_succ]
      refine wpAnyH_ready (rs := [8]) (by kernel_rfl) (by simp) ?_
      refine (AllReadyH.cons (o := { dst := some 50, op := Op.call { callee := Callee.value (Operand.func 17), args := #[Operand.tmp 49], argTypes := #[27] }, type := 24, pos := "law.go:52", after := #[{ on := 7, ground := Ground.data }, { on := 6, ground := Ground.chain }, { on := 6, ground := Ground.guard }], guard := some (6, true) }) rfl (fun K hK => ?_) AllReadyH.nil)
      go_simp
      refine (Rl.as_sh _ _ _ _ _ _).mono ?_
      rintro e yT5x10 ⟨rfl, hq⟩
      try (go_wp2_with fail)
      have hS2 := SQ.out _ (Q.trans (Ep.SB3.here hS) hq)
      refine hK.out _ _ (by exact hS2) (fun hHeld => ?_)
      clear hK K hHeld hS hq
      have hS := hS2
      clear hS2
      try simp only [Act.put, List.setIfInBounds_toArray, List.set_cons_zero, List.set_cons_succ]
      refine wpAnyH_ready (rs := [10]) (by kernel_rfl) (by simp) ?_
      refine (AllReadyH.cons (o := { dst := some 52, op := Op.call { callee := Callee.value (Operand.func 17), args := #[Operand.tmp 51], argTypes := #[27] }, type := 24, pos := "law.go:52", after := #[{ on := 9, ground := Ground.data }, { on := 8, ground := Ground.chain }, { on := 6, ground := Ground.guard }], guard := some (6, true) }) rfl (fun K hK => ?_) AllReadyH.nil)
      go_simp
      refine (Rl.as_sh _ _ _ _ _ _).mono ?_
      rintro e yT5x11 ⟨rfl, hq⟩
      try (go_wp2_with fail)
      have hS2 := SQ.out _ (Q.trans (Ep.SB3.here hS) hq)
      refine hK.out _ _ (by exact hS2) (fun hHeld => ?_)
      clear hK K hHeld hS hq
      have hS := hS2
      clear hS2
      try simp only [Act.put, List.setIfInBounds_toArray, List.set_cons_zero, List.set_cons_succ]
      refine wpAnyH_ready (rs := [11]) (by kernel_rfl) (by simp) ?_
      refine (AllReadyH.cons (o := { dst := some 53, op := Op.call { callee := Callee.value (Operand.func 16), args := #[Operand.tmp 50, Operand.tmp 52], argTypes := #[24, 24] }, type := 4, pos := "law.go:52", after := #[{ on := 8, ground := Ground.data }, { on := 10, ground := Ground.data }, { on := 10, ground := Ground.chain }, { on := 6, ground := Ground.guard }], guard := some (6, true) }) rfl (fun K hK => ?_) AllReadyH.nil)
      go_simp
      refine (HSM.out _ _ _ _ _ (L7_Z0.out.q (Ep.SB3.here hS)) (L7_Z13.out.q (Ep.SB3.here hS))).mono ?_
      rintro e yT5x12 ⟨rfl, hq⟩
      try (go_wp2_with fail)
      have hS2 := SQ.out _ (Q.trans (Ep.SB3.here hS) hq)
      refine hK.out _ _ (by exact hS2) (fun hHeld => ?_)
      clear hK K hHeld hS hq
      have hS := hS2
      clear hS2
      try simp only [Act.put, List.setIfInBounds_toArray, List.set_cons_zero, List.set_cons_succ]
      refine wpAnyH_take (i := 12) (oi := { dst := some 54, op := Op.pick (Operand.tmp 48) (Operand.tmp 53) (Operand.const (Value.bool false)), type := 4, pos := "law.go:52", after := #[{ on := 6, ground := Ground.data }, { on := 11, ground := Ground.data }], guard := none }) (v := ?vT5x13) rfl (by kernel_rfl) (by kernel_rfl) (by kernel_rfl) (fun _ _ _ h => h) (Or.inl ⟨by rfl, ?hyT5x13⟩) (by exact hS) ?rsT5x13
      case hyT5x13 => (intro w hSw; (try dsimp only at hSw); unfold Ep.SB3 at hSw; go_simp; try with_reducible rfl)
      try simp only [Act.put, List.setIfInBounds_toArray, List.set_cons_zero, List.set_cons_succ]
      refine wpAnyH_take (i := 13) (oi := { dst := some 55, op := Op.move (Operand.tmp 54), type := 4, pos := "law.go:52", after := #[{ on := 12, ground := Ground.data }, { on := 11, ground := Ground.chain }], guard := none }) (v := ?vT5x14) rfl (by kernel_rfl) (by kernel_rfl) (by kernel_rfl) (fun _ _ _ h => h) (Or.inl ⟨by rfl, ?hyT5x14⟩) (by exact hS) ?rsT5x14
      case hyT5x14 => (intro w hSw; (try dsimp only at hSw); unfold Ep.SB3 at hSw; go_simp; try with_reducible rfl)
      try simp only [Act.put, List.setIfInBounds_toArray, List.set_cons_zero, List.set_cons_succ]
      refine wpAnyH_take (i := 14) (oi := { dst := some 56, op := Op.fieldAddr 27 (Operand.tmp 11) 2, type := 0, pos := "law.go:52", after := #[{ on := 13, ground := Ground.guard }], guard := some (13, true) }) (v := ?vT5x15) rfl (by kernel_rfl) (by kernel_rfl) (by kernel_rfl) (fun _ _ _ h => h) (Or.inl ⟨by rfl, ?hyT5x15⟩) (by exact hS) ?rsT5x15
      case hyT5x15 => (intro w hSw; (try dsimp only at hSw); unfold Ep.SB3 at hSw; go_simp; try with_reducible rfl)
      try simp only [Act.put, List.setIfInBounds_toArray, List.set_cons_zero, List.set_cons_succ]
      refine wpAnyH_take (i := 15) (oi := { dst := some 57, op := Op.load 3 (Operand.tmp 56), type := 3, pos := "law.go:52", after := #[{ on := 14, ground := Ground.data }, { on := 13, ground := Ground.guard }], guard := some (13, true) }) (v := ?vT5x16) rfl (by kernel_rfl) (by kernel_rfl) (by kernel_rfl) (fun _ _ _ h => h) (Or.inl ⟨by rfl, ?hyT5x16⟩) (by exact hS) ?rsT5x16
      case hyT5x16 => (intro w hSw; (try dsimp only at hSw); unfold Ep.SB3 at hSw; go_simp; try with_reducible rfl)
      try simp only [Act.put, List.setIfInBounds_toArray, List.set_cons_zero, List.set_cons_succ]
      refine wpAnyH_take (i := 16) (oi := { dst := some 58, op := Op.move (Operand.tmp 10), type := 3, pos := "law.go:52", after := #[{ on := 13, ground := Ground.guard }], guard := some (13, true) }) (v := ?vT5x17) rfl (by kernel_rfl) (by kernel_rfl) (by kernel_rfl) (fun _ _ _ h => h) (Or.inl ⟨by rfl, ?hyT5x17⟩) (by exact hS) ?rsT5x17
      case hyT5x17 => (intro w hSw; (try dsimp only at hSw); unfold Ep.SB3 at hSw; go_simp; try with_reducible rfl)
      try simp only [Act.put, List.setIfInBounds_toArray, List.set_cons_zero, List.set_cons_succ]
      refine wpAnyH_take (i := 17) (oi := { dst := some 59, op := Op.binOp BinOp.eql 3 (Operand.tmp 57) (Operand.tmp 58) 3, type := 4, pos := "law.go:52", after := #[{ on := 15, ground := Ground.data }, { on := 16, ground := Ground.data }, { on := 13, ground := Ground.guard }], guard := some (13, true) }) (v := ?vT5x18) rfl (by kernel_rfl) (by kernel_rfl) (by kernel_rfl) (fun _ _ _ h => h) (Or.inl ⟨by rfl, ?hyT5x18⟩) (by exact hS) ?rsT5x18
      case hyT5x18 => (intro w hSw; (try dsimp only at hSw); unfold Ep.SB3 at hSw; go_simp; try with_reducible rfl)
      try simp only [Act.put, List.setIfInBounds_toArray, List.set_cons_zero, List.set_cons_succ]
      refine wpAnyH_take (i := 18) (oi := { dst := some 60, op := Op.pick (Operand.tmp 55) (Operand.tmp 59) (Operand.const (Value.bool false)), type := 4, pos := "law.go:52", after := #[{ on := 13, ground := Ground.data }, { on := 17, ground := Ground.data }], guard := none }) (v := ?vT5x19) rfl (by kernel_rfl) (by kernel_rfl) (by kernel_rfl) (fun _ _ _ h => h) (Or.inl ⟨by rfl, ?hyT5x19⟩) (by exact hS) ?rsT5x19
      case hyT5x19 => (intro w hSw; (try dsimp only at hSw); unfold Ep.SB3 at hSw; go_simp; try with_reducible rfl)
      try simp only [Act.put, List.setIfInBounds_toArray, List.set_cons_zero, List.set_cons_succ]
      refine wpAnyH_take (i := 19) (oi := { dst := some 61, op := Op.move (Operand.tmp 60), type := 4, pos := "law.go:52", after := #[{ on := 18, ground := Ground.data }, { on := 13, ground := Ground.chain }], guard := none }) (v := ?vT5x20) rfl (by kernel_rfl) (by kernel_rfl) (by kernel_rfl) (fun _ _ _ h => h) (Or.inl ⟨by rfl, ?hyT5x20⟩) (by exact hS) ?rsT5x20
      case hyT5x20 => (intro w hSw; (try dsimp only at hSw); unfold Ep.SB3 at hSw; go_simp; try with_reducible rfl)
      try simp only [Act.put, List.setIfInBounds_toArray, List.set_cons_zero, List.set_cons_succ]
      refine wpAnyH_take (i := 20) (oi := { dst := some 62, op := Op.load 27 (Operand.tmp 11), type := 27, pos := "law.go:52", after := #[{ on := 19, ground := Ground.guard }], guard := some (19, true) }) (v := ?vT5x21) rfl (by kernel_rfl) (by kernel_rfl) (by kernel_rfl) (fun _ _ _ h => h) (Or.inl ⟨by rfl, ?hyT5x21⟩) (by exact hS) ?rsT5x21
      case hyT5x21 => (intro w hSw; (try dsimp only at hSw); unfold Ep.SB3 at hSw; go_simp; try with_reducible rfl)
      try simp only [Act.put, List.setIfInBounds_toArray, List.set_cons_zero, List.set_cons_succ]
      refine wpAnyH_take (i := 21) (oi := { dst := some 63, op := Op.move (Operand.tmp 10), type := 3, pos := "law.go:52", after := #[{ on := 19, ground := Ground.guard }], guard := some (19, true) }) (v := ?vT5x22) rfl (by kernel_rfl) (by kernel_rfl) (by kernel_rfl) (fun _ _ _ h => h) (Or.inl ⟨by rfl, ?hyT5x22⟩) (by exact hS) ?rsT5x22
      case hyT5x22 => (intro w hSw; (try dsimp only at hSw); unfold Ep.SB3 at hSw; go_simp; try with_reducible rfl)
      try simp only [Act.put, List.setIfInBounds_toArray, List.set_cons_zero, List.set_cons_succ]
      refine wpAnyH_ready (rs := [22]) (by kernel_rfl) (by simp) ?_
      refine (AllReadyH.cons (o := { dst := some 64, op := Op.call { callee := Callee.value (Operand.func 20), args := #[Operand.tmp 62, Operand.tmp 63], argTypes := #[27, 3] }, type := 4, pos := "law.go:52", after := #[{ on := 20, ground := Ground.data }, { on := 21, ground := Ground.data }, { on := 19, ground := Ground.chain }, { on := 19, ground := Ground.guard }], guard := some (19, true) }) rfl (fun K hK => ?_) AllReadyH.nil)
      go_simp
      refine (HXn.out _ _ (L7_Z0.out.q (Ep.SB3.here hS))).mono ?_
      rintro e yT5x23 ⟨rfl, hq⟩
      try (go_wp2_with fail)
      have hS2 := SQ.out _ (Q.trans (Ep.SB3.here hS) hq)
      refine hK.out _ _ (by exact hS2) (fun hHeld => ?_)
      clear hK K hHeld hS hq
      have hS := hS2
      clear hS2
      try simp only [Act.put, List.setIfInBounds_toArray, List.set_cons_zero, List.set_cons_succ]
      refine wpAnyH_take (i := 23) (oi := { dst := some 65, op := Op.pick (Operand.tmp 61) (Operand.tmp 64) (Operand.const (Value.bool false)), type := 4, pos := "law.go:52", after := #[{ on := 19, ground := Ground.data }, { on := 22, ground := Ground.data }], guard := none }) (v := ?vT5x24) rfl (by kernel_rfl) (by kernel_rfl) (by kernel_rfl) (fun _ _ _ h => h) (Or.inl ⟨by rfl, ?hyT5x24⟩) (by exact hS) ?rsT5x24
      case hyT5x24 => (intro w hSw; (try dsimp only at hSw); unfold Ep.SB3 at hSw; go_simp; try with_reducible rfl)
      try simp only [Act.put, List.setIfInBounds_toArray, List.set_cons_zero, List.set_cons_succ]
      refine wpAnyH_take (i := 24) (oi := { dst := some 66, op := Op.move (Operand.tmp 65), type := 4, pos := "law.go:52", after := #[{ on := 23, ground := Ground.data }, { on := 22, ground := Ground.chain }], guard := none }) (v := ?vT5x25) rfl (by kernel_rfl) (by kernel_rfl) (by kernel_rfl) (fun _ _ _ h => h) (Or.inl ⟨by rfl, ?hyT5x25⟩) (by exact hS) ?rsT5x25
      case hyT5x25 => (intro w hSw; (try dsimp only at hSw); unfold Ep.SB3 at hSw; go_simp; try with_reducible rfl)
      try simp only [Act.put, List.setIfInBounds_toArray, List.set_cons_zero, List.set_cons_succ]
      refine wpAnyH_take (i := 25) (oi := { dst := some 67, op := Op.load 24 (Operand.tmp 9), type := 24, pos := "law.go:52", after := #[{ on := 24, ground := Ground.guard }], guard := some (24, true) }) (v := ?vT5x26) rfl (by kernel_rfl) (by kernel_rfl) (by kernel_rfl) (fun _ _ _ h => h) (Or.inl ⟨by rfl, ?hyT5x26⟩) (by exact hS) ?rsT5x26
      case hyT5x26 => (intro w hSw; (try dsimp only at hSw); unfold Ep.SB3 at hSw; go_simp; try with_reducible rfl)
      try simp only [Act.put, List.setIfInBounds_toArray, List.set_cons_zero, List.set_cons_succ]
      refine wpAnyH_take (i := 27) (oi := { dst := some 69, op := Op.move (Operand.tmp 10), type := 3, pos := "law.go:52", after := #[{ on := 24, ground := Ground.guard }], guard := some (24, true) }) (v := ?vT5x27) rfl (by kernel_rfl) (by kernel_rfl) (by kernel_rfl) (fun _ _ _ h => h) (Or.inl ⟨by rfl, ?hyT5x27⟩) (by exact hS) ?rsT5x27
      case hyT5x27 => (intro w hSw; (try dsimp only at hSw); unfold Ep.SB3 at hSw; go_simp; try with_reducible rfl)
      try simp only [Act.put, List.setIfInBounds_toArray, List.set_cons_zero, List.set_cons_succ]
      refine wpAnyH_take (i := 29) (oi := { dst := some 71, op := Op.move (Operand.tmp 15), type := 4, pos := "law.go:52", after := #[{ on := 24, ground := Ground.guard }], guard := some (24, true) }) (v := ?vT5x28) rfl (by kernel_rfl) (by kernel_rfl) (by kernel_rfl) (fun _ _ _ h => h) (Or.inl ⟨by rfl, ?hyT5x28⟩) (by exact hS) ?rsT5x28
      case hyT5x28 => (intro w hSw; (try dsimp only at hSw); unfold Ep.SB3 at hSw; go_simp; try with_reducible rfl)
      try simp only [Act.put, List.setIfInBounds_toArray, List.set_cons_zero, List.set_cons_succ]
      refine wpAnyH_ready (rs := [26]) (by kernel_rfl) (by simp) ?_
      refine (AllReadyH.cons (o := { dst := some 68, op := Op.call { callee := Callee.value (Operand.func 14), args := #[Operand.tmp 67], argTypes := #[24] }, type := 27, pos := "law.go:52", after := #[{ on := 25, ground := Ground.data }, { on := 24, ground := Ground.chain }, { on := 24, ground := Ground.guard }], guard := some (24, true) }) rfl (fun K hK => ?_) AllReadyH.nil)
      go_simp
      refine (Rl.of_sh _ _ _ _ _ _).mono ?_
      rintro e yT5x29 ⟨rfl, hq⟩
      try (go_wp2_with fail)
      have hS2 := SQ.out _ (Q.trans (Ep.SB3.here hS) hq)
      refine hK.out _ _ (by exact hS2) (fun hHeld => ?_)
      clear hK K hHeld hS hq
      have hS := hS2
      clear hS2
      try simp only [Act.put, List.setIfInBounds_toArray, List.set_cons_zero, List.set_cons_succ]
      refine wpAnyH_ready (rs := [28]) (by kernel_rfl) (by simp) ?_
      refine (AllReadyH.cons (o := { dst := some 70, op := Op.call { callee := Callee.value (Operand.func 20), args := #[Operand.tmp 68, Operand.tmp 69], argTypes := #[27, 3] }, type := 4, pos := "law.go:52", after := #[{ on := 26, ground := Ground.data }, { on := 27, ground := Ground.data }, { on := 26, ground := Ground.chain }, { on := 24, ground := Ground.guard }], guard := some (24, true) }) rfl (fun K hK => ?_) AllReadyH.nil)
      go_simp
      refine (HXX.out _ _ (L7_X0.out.q (Ep.SB3.here hS))).mono ?_
      rintro e yT5x30 ⟨rfl, hq⟩
      try (go_wp2_with fail)
      have hS2 := SQ.out _ (Q.trans (Ep.SB3.here hS) hq)
      refine hK.out _ _ (by exact hS2) (fun hHeld => ?_)
      clear hK K hHeld hS hq
      have hS := hS2
      clear hS2
      try simp only [Act.put, List.setIfInBounds_toArray, List.set_cons_zero, List.set_cons_succ]
      refine wpAnyH_take (i := 30) (oi := { dst := some 72, op := Op.binOp BinOp.eql 4 (Operand.tmp 70) (Operand.tmp 71) 4, type := 4, pos := "law.go:52", after := #[{ on := 28, ground := Ground.data }, { on := 29, ground := Ground.data }, { on := 24, ground := Ground.guard }], guard := some (24, true) }) (v := ?vT5x31) rfl (by kernel_rfl) (by kernel_rfl) (by kernel_rfl) (fun _ _ _ h => h) (Or.inl ⟨by rfl, ?hyT5x31⟩) (by exact hS) ?rsT5x31
      case hyT5x31 => (intro w hSw; (try dsimp only at hSw); unfold Ep.SB3 at hSw; go_simp; try with_reducible rfl)
      try simp only [Act.put, List.setIfInBounds_toArray, List.set_cons_zero, List.set_cons_succ]
      refine wpAnyH_take (i := 31) (oi := { dst := some 73, op := Op.pick (Operand.tmp 66) (Operand.tmp 72) (Operand.const (Value.bool false)), type := 4, pos := "law.go:52", after := #[{ on := 24, ground := Ground.data }, { on := 30, ground := Ground.data }], guard := none }) (v := ?vT5x32) rfl (by kernel_rfl) (by kernel_rfl) (by kernel_rfl) (fun _ _ _ h => h) (Or.inl ⟨by rfl, ?hyT5x32⟩) (by exact hS) ?rsT5x32
      case hyT5x32 => (intro w hSw; (try dsimp only at hSw); unfold Ep.SB3 at hSw; go_simp; try with_reducible rfl)
      try simp only [Act.put, List.setIfInBounds_toArray, List.set_cons_zero, List.set_cons_succ]
      refine wpAnyH_take (i := 32) (oi := { dst := some 74, op := Op.move (Operand.tmp 73), type := 4, pos := "law.go:52", after := #[{ on := 31, ground := Ground.data }, { on := 28, ground := Ground.chain }], guard := none }) (v := ?vT5x33) rfl (by kernel_rfl) (by kernel_rfl) (by kernel_rfl) (fun _ _ _ h => h) (Or.inl ⟨by rfl, ?hyT5x33⟩) (by exact hS) ?rsT5x33
      case hyT5x33 => (intro w hSw; (try dsimp only at hSw); unfold Ep.SB3 at hSw; go_simp; try with_reducible rfl)
      try simp only [Act.put, List.setIfInBounds_toArray, List.set_cons_zero, List.set_cons_succ]
      refine wpAnyH_take (i := 33) (oi := { dst := some 75, op := Op.move (Operand.tmp 15), type := 4, pos := "law.go:52", after := #[{ on := 32, ground := Ground.guard }], guard := some (32, true) }) (v := ?vT5x34) rfl (by kernel_rfl) (by kernel_rfl) (by kernel_rfl) (fun _ _ _ h => h) (Or.inl ⟨by rfl, ?hyT5x34⟩) (by exact hS) ?rsT5x34
      case hyT5x34 => (intro w hSw; (try dsimp only at hSw); unfold Ep.SB3 at hSw; go_simp; try with_reducible rfl)
      try simp only [Act.put, List.setIfInBounds_toArray, List.set_cons_zero, List.set_cons_succ]
      refine wpAnyH_take (i := 34) (oi := { dst := some 76, op := Op.unOp UnOp.not 4 (Operand.tmp 75), type := 4, pos := "law.go:52", after := #[{ on := 33, ground := Ground.data }, { on := 32, ground := Ground.guard }], guard := some (32, true) }) (v := ?vT5x35) rfl (by kernel_rfl) (by kernel_rfl) (by kernel_rfl) (fun _ _ _ h => h) (Or.inl ⟨by rfl, ?hyT5x35⟩) (by exact hS) ?rsT5x35
      case hyT5x35 => (intro w hSw; (try dsimp only at hSw); unfold Ep.SB3 at hSw; go_simp; try with_reducible rfl)
      try simp only [Act.put, List.setIfInBounds_toArray, List.set_cons_zero, List.set_cons_succ]
      refine wpAnyH_take (i := 35) (oi := { dst := some 77, op := Op.move (Operand.tmp 76), type := 4, pos := "law.go:52", after := #[{ on := 34, ground := Ground.data }, { on := 32, ground := Ground.chain }, { on := 32, ground := Ground.guard }], guard := some (32, true) }) (v := ?vT5x36) rfl (by kernel_rfl) (by kernel_rfl) (by kernel_rfl) (fun _ _ _ h => h) (Or.inl ⟨by rfl, ?hyT5x36⟩) (by exact hS) ?rsT5x36
      case hyT5x36 => (intro w hSw; (try dsimp only at hSw); unfold Ep.SB3 at hSw; go_simp; try with_reducible rfl)
      try simp only [Act.put, List.setIfInBounds_toArray, List.set_cons_zero, List.set_cons_succ]
      refine wpAnyH_take (i := 36) (oi := { dst := some 78, op := Op.load 27 (Operand.tmp 11), type := 27, pos := "law.go:52", after := #[{ on := 35, ground := Ground.guard }], guard := some (35, false) }) (v := ?vT5x37) rfl (by kernel_rfl) (by kernel_rfl) (by kernel_rfl) (fun _ _ _ h => h) (Or.inl ⟨by rfl, ?hyT5x37⟩) (by exact hS) ?rsT5x37
      case hyT5x37 => (intro w hSw; (try dsimp only at hSw); unfold Ep.SB3 at hSw; go_simp; try with_reducible rfl)
      try simp only [Act.put, List.setIfInBounds_toArray, List.set_cons_zero, List.set_cons_succ]
      refine wpAnyH_take (i := 38) (oi := { dst := some 80, op := Op.load 24 (Operand.tmp 9), type := 24, pos := "law.go:52", after := #[{ on := 35, ground := Ground.guard }], guard := some (35, false) }) (v := ?vT5x38) rfl (by kernel_rfl) (by kernel_rfl) (by kernel_rfl) (fun _ _ _ h => h) (Or.inl ⟨by rfl, ?hyT5x38⟩) (by exact hS) ?rsT5x38
      case hyT5x38 => (intro w hSw; (try dsimp only at hSw); unfold Ep.SB3 at hSw; go_simp; try with_reducible rfl)
      try simp only [Act.put, List.setIfInBounds_toArray, List.set_cons_zero, List.set_cons_succ]
      refine wpAnyH_ready (rs := [37]) (by kernel_rfl) (by simp) ?_
      refine (AllReadyH.cons (o := { dst := some 79, op := Op.call { callee := Callee.value (Operand.func 17), args := #[Operand.tmp 78], argTypes := #[27] }, type := 24, pos := "law.go:52", after := #[{ on := 36, ground := Ground.data }, { on := 35, ground := Ground.chain }, { on := 35, ground := Ground.guard }], guard := some (35, false) }) rfl (fun K hK => ?_) AllReadyH.nil)
      go_simp
      refine (Rl.as_sh _ _ _ _ _ _).mono ?_
      rintro e yT5x39 ⟨rfl, hq⟩
      try (go_wp2_with fail)
      have hS2 := SQ.out _ (Q.trans (Ep.SB3.here hS) hq)
      refine hK.out _ _ (by exact hS2) (fun hHeld => ?_)
      clear hK K hHeld hS hq
      have hS := hS2
      clear hS2
      try simp only [Act.put, List.setIfInBounds_toArray, List.set_cons_zero, List.set_cons_succ]
      refine wpAnyH_ready (rs := [39]) (by kernel_rfl) (by simp) ?_
      refine (AllReadyH.cons (o := { dst := some 81, op := Op.call { callee := Callee.value (Operand.func 21), args := #[Operand.tmp 79, Operand.tmp 80], argTypes := #[24, 24] }, type := 3, pos := "law.go:52", after := #[{ on := 37, ground := Ground.data }, { on := 38, ground := Ground.data }, { on := 37, ground := Ground.chain }, { on := 35, ground := Ground.guard }], guard := some (35, false) }) rfl (fun K hK => ?_) AllReadyH.nil)
      go_simp
      refine (HCM.out _ _ _ _ _ (L7_Z0.out.q (Ep.SB3.here hS)) (L7_X0.out.q (Ep.SB3.here hS))).mono ?_
      rintro e yT5x40 ⟨rfl, hq⟩
      try (go_wp2_with fail)
      have hS2 := SQ.out _ (Q.trans (Ep.SB3.here hS) hq)
      refine hK.out _ _ (by exact hS2) (fun hHeld => ?_)
      clear hK K hHeld hS hq
      have hS := hS2
      clear hS2
      try simp only [Act.put, List.setIfInBounds_toArray, List.set_cons_zero, List.set_cons_succ]
      refine wpAnyH_take (i := 40) (oi := { dst := some 82, op := Op.binOp BinOp.eql 3 (Operand.tmp 81) (Operand.const (Value.int IntKind.i64 0)) 3, type := 4, pos := "law.go:52", after := #[{ on := 39, ground := Ground.data }, { on := 35, ground := Ground.guard }], guard := some (35, false) }) (v := ?vT5x41) rfl (by kernel_rfl) (by kernel_rfl) (by kernel_rfl) (fun _ _ _ h => h) (Or.inl ⟨by rfl, ?hyT5x41⟩) (by exact hS) ?rsT5x41
      case hyT5x41 => (intro w hSw; (try dsimp only at hSw); unfold Ep.SB3 at hSw; go_simp; try with_reducible rfl)
      try simp only [Act.put, List.setIfInBounds_toArray, List.set_cons_zero, List.set_cons_succ]
      refine wpAnyH_take (i := 41) (oi := { dst := some 83, op := Op.pick (Operand.tmp 77) (Operand.const (Value.bool true)) (Operand.tmp 82), type := 4, pos := "law.go:52", after := #[{ on := 35, ground := Ground.data }, { on := 40, ground := Ground.data }, { on := 32, ground := Ground.guard }], guard := some (32, true) }) (v := ?vT5x42) rfl (by kernel_rfl) (by kernel_rfl) (by kernel_rfl) (fun _ _ _ h => h) (Or.inl ⟨by rfl, ?hyT5x42⟩) (by exact hS) ?rsT5x42
      case hyT5x42 => (intro w hSw; (try dsimp only at hSw); unfold Ep.SB3 at hSw; go_simp; try with_reducible rfl)
      try simp only [Act.put, List.setIfInBounds_toArray, List.set_cons_zero, List.set_cons_succ]
      refine wpAnyH_take (i := 42) (oi := { dst := some 84, op := Op.pick (Operand.tmp 74) (Operand.tmp 83) (Operand.const (Value.bool false)), type := 4, pos := "law.go:52", after := #[{ on := 32, ground := Ground.data }, { on := 41, ground := Ground.data }], guard := none }) (v := ?vT5x43) rfl (by kernel_rfl) (by kernel_rfl) (by kernel_rfl) (fun _ _ _ h => h) (Or.inl ⟨by rfl, ?hyT5x43⟩) (by exact hS) ?rsT5x43
      case hyT5x43 => (intro w hSw; (try dsimp only at hSw); unfold Ep.SB3 at hSw; go_simp; try with_reducible rfl)
      try simp only [Act.put, List.setIfInBounds_toArray, List.set_cons_zero, List.set_cons_succ]
      refine wpAnyH_take (i := 43) (oi := { dst := some 85, op := Op.move (Operand.tmp 84), type := 4, pos := "law.go:52", after := #[{ on := 42, ground := Ground.data }, { on := 39, ground := Ground.chain }], guard := none }) (v := ?vT5x44) rfl (by kernel_rfl) (by kernel_rfl) (by kernel_rfl) (fun _ _ _ h => h) (Or.inl ⟨by rfl, ?hyT5x44⟩) (by exact hS) ?rsT5x44
      case hyT5x44 => (intro w hSw; (try dsimp only at hSw); unfold Ep.SB3 at hSw; go_simp; try with_reducible rfl)
      try simp only [Act.put, List.setIfInBounds_toArray, List.set_cons_zero, List.set_cons_succ]
      refine wpAnyH_take (i := 44) (oi := { dst := some 86, op := Op.load 27 (Operand.tmp 11), type := 27, pos := "law.go:52", after := #[{ on := 43, ground := Ground.guard }], guard := some (43, true) }) (v := ?vT5x45) rfl (by kernel_rfl) (by kernel_rfl) (by kernel_rfl) (fun _ _ _ h => h) (Or.inl ⟨by rfl, ?hyT5x45⟩) (by exact hS) ?rsT5x45
      case hyT5x45 => (intro w hSw; (try dsimp only at hSw); unfold Ep.SB3 at hSw; go_simp; try with_reducible rfl)
      try simp only [Act.put, List.setIfInBounds_toArray, List.set_cons_zero, List.set_cons_succ]
      refine wpAnyH_ready (rs := [45]) (by kernel_rfl) (by simp) ?_
      refine (AllReadyH.cons (o := { dst := some 87, op := Op.call { callee := Callee.value (Operand.func 20), args := #[Operand.tmp 86, Operand.const (Value.int IntKind.i64 (-1))], argTypes := #[27, 3] }, type := 4, pos := "law.go:52", after := #[{ on := 44, ground := Ground.data }, { on := 43, ground := Ground.chain }, { on := 43, ground := Ground.guard }], guard := some (43, true) }) rfl (fun K hK => ?_) AllReadyH.nil)
      go_simp
      refine (HXm.out _ _ (L7_Z0.out.q (Ep.SB3.here hS))).mono ?_
      rintro e yT5x46 ⟨rfl, hq⟩
      try (go_wp2_with fail)
      have hS2 := SQ.out _ (Q.trans (Ep.SB3.here hS) hq)
      refine hK.out _ _ (by exact hS2) (fun hHeld => ?_)
      clear hK K hHeld hS hq
      have hS := hS2
      clear hS2
      try simp only [Act.put, List.setIfInBounds_toArray, List.set_cons_zero, List.set_cons_succ]
      refine wpAnyH_take (i := 46) (oi := { dst := some 88, op := Op.unOp UnOp.not 4 (Operand.tmp 87), type := 4, pos := "law.go:52", after := #[{ on := 45, ground := Ground.data }, { on := 43, ground := Ground.guard }], guard := some (43, true) }) (v := ?vT5x47) rfl (by kernel_rfl) (by kernel_rfl) (by kernel_rfl) (fun _ _ _ h => h) (Or.inl ⟨by rfl, ?hyT5x47⟩) (by exact hS) ?rsT5x47
      case hyT5x47 => (intro w hSw; (try dsimp only at hSw); unfold Ep.SB3 at hSw; go_simp; try with_reducible rfl)
      try simp only [Act.put, List.setIfInBounds_toArray, List.set_cons_zero, List.set_cons_succ]
      refine wpAnyH_take (i := 47) (oi := { dst := some 89, op := Op.pick (Operand.tmp 85) (Operand.tmp 88) (Operand.const (Value.bool false)), type := 4, pos := "law.go:52", after := #[{ on := 43, ground := Ground.data }, { on := 46, ground := Ground.data }], guard := none }) (v := ?vT5x48) rfl (by kernel_rfl) (by kernel_rfl) (by kernel_rfl) (fun _ _ _ h => h) (Or.inl ⟨by rfl, ?hyT5x48⟩) (by exact hS) ?rsT5x48
      case hyT5x48 => (intro w hSw; (try dsimp only at hSw); unfold Ep.SB3 at hSw; go_simp; try with_reducible rfl)
      try simp only [Act.put, List.setIfInBounds_toArray, List.set_cons_zero, List.set_cons_succ]
      refine wpAnyH_take (i := 48) (oi := { dst := some 90, op := Op.move (Operand.tmp 89), type := 4, pos := "law.go:52", after := #[{ on := 47, ground := Ground.data }, { on := 45, ground := Ground.chain }], guard := none }) (v := ?vT5x49) rfl (by kernel_rfl) (by kernel_rfl) (by kernel_rfl) (fun _ _ _ h => h) (Or.inl ⟨by rfl, ?hyT5x49⟩) (by exact hS) ?rsT5x49
      case hyT5x49 => (intro w hSw; (try dsimp only at hSw); unfold Ep.SB3 at hSw; go_simp; try with_reducible rfl)
      try simp only [Act.put, List.setIfInBounds_toArray, List.set_cons_zero, List.set_cons_succ]
      refine wpAnyH_take (i := 49) (oi := { dst := some 91, op := Op.load 27 (Operand.tmp 11), type := 27, pos := "law.go:52", after := #[{ on := 48, ground := Ground.guard }], guard := some (48, true) }) (v := ?vT5x50) rfl (by kernel_rfl) (by kernel_rfl) (by kernel_rfl) (fun _ _ _ h => h) (Or.inl ⟨by rfl, ?hyT5x50⟩) (by exact hS) ?rsT5x50
      case hyT5x50 => (intro w hSw; (try dsimp only at hSw); unfold Ep.SB3 at hSw; go_simp; try with_reducible rfl)
      try simp only [Act.put, List.setIfInBounds_toArray, List.set_cons_zero, List.set_cons_succ]
      refine wpAnyH_ready (rs := [50]) (by kernel_rfl) (by simp) ?_
      refine (AllReadyH.cons (o := { dst := some 92, op := Op.call { callee := Callee.value (Operand.func 20), args := #[Operand.tmp 91, Operand.const (Value.int IntKind.i64 1001)], argTypes := #[27, 3] }, type := 4, pos := "law.go:52", after := #[{ on := 49, ground := Ground.data }, { on := 48, ground := Ground.chain }, { on := 48, ground := Ground.guard }], guard := some (48, true) }) rfl (fun K hK => ?_) AllReadyH.nil)
      go_simp
      refine (HXp.out _ _ (L7_Z0.out.q (Ep.SB3.here hS))).mono ?_
      rintro e yT5x51 ⟨rfl, hq⟩
      try (go_wp2_with fail)
      have hS2 := SQ.out _ (Q.trans (Ep.SB3.here hS) hq)
      refine hK.out _ _ (by exact hS2) (fun hHeld => ?_)
      clear hK K hHeld hS hq
      have hS := hS2
      clear hS2
      try simp only [Act.put, List.setIfInBounds_toArray, List.set_cons_zero, List.set_cons_succ]
      refine wpAnyH_take (i := 51) (oi := { dst := some 93, op := Op.unOp UnOp.not 4 (Operand.tmp 92), type := 4, pos := "law.go:52", after := #[{ on := 50, ground := Ground.data }, { on := 48, ground := Ground.guard }], guard := some (48, true) }) (v := ?vT5x52) rfl (by kernel_rfl) (by kernel_rfl) (by kernel_rfl) (fun _ _ _ h => h) (Or.inl ⟨by rfl, ?hyT5x52⟩) (by exact hS) ?rsT5x52
      case hyT5x52 => (intro w hSw; (try dsimp only at hSw); unfold Ep.SB3 at hSw; go_simp; try with_reducible rfl)
      try simp only [Act.put, List.setIfInBounds_toArray, List.set_cons_zero, List.set_cons_succ]
      refine wpAnyH_take (i := 52) (oi := { dst := some 94, op := Op.pick (Operand.tmp 90) (Operand.tmp 93) (Operand.const (Value.bool false)), type := 4, pos := "law.go:52", after := #[{ on := 48, ground := Ground.data }, { on := 51, ground := Ground.data }], guard := none }) (v := ?vT5x53) rfl (by kernel_rfl) (by kernel_rfl) (by kernel_rfl) (fun _ _ _ h => h) (Or.inl ⟨by rfl, ?hyT5x53⟩) (by exact hS) ?rsT5x53
      case hyT5x53 => (intro w hSw; (try dsimp only at hSw); unfold Ep.SB3 at hSw; go_simp; try with_reducible rfl)
      try simp only [Act.put, List.setIfInBounds_toArray, List.set_cons_zero, List.set_cons_succ]
      refine wpAnyH_take (i := 53) (oi := { dst := some 95, op := Op.move (Operand.tmp 94), type := 4, pos := "law.go:52", after := #[{ on := 52, ground := Ground.data }, { on := 50, ground := Ground.chain }], guard := none }) (v := ?vT5x54) rfl (by kernel_rfl) (by kernel_rfl) (by kernel_rfl) (fun _ _ _ h => h) (Or.inl ⟨by rfl, ?hyT5x54⟩) (by exact hS) ?rsT5x54
      case hyT5x54 => (intro w hSw; (try dsimp only at hSw); unfold Ep.SB3 at hSw; go_simp; try with_reducible rfl)
      try simp only [Act.put, List.setIfInBounds_toArray, List.set_cons_zero, List.set_cons_succ]
      refine wpAnyH_ready (rs := [54]) (by kernel_rfl) (by simp) ?_
      refine (AllReadyH.cons (o := { dst := some 96, op := Op.call { callee := Callee.value (Operand.func 18), args := #[], argTypes := #[] }, type := 4, pos := "law.go:52", after := #[{ on := 53, ground := Ground.chain }, { on := 53, ground := Ground.guard }], guard := some (53, true) }) rfl (fun K hK => ?_) AllReadyH.nil)
      go_simp
      refine (LV.out _).mono ?_
      rintro e yT5x55 ⟨rfl, hq⟩
      try (go_wp2_with fail)
      have hS2 := SQ.out _ (Q.trans (Ep.SB3.here hS) hq)
      refine hK.out _ _ (by exact hS2) (fun hHeld => ?_)
      clear hK K hHeld hS hq
      have hS := hS2
      clear hS2
      try simp only [Act.put, List.setIfInBounds_toArray, List.set_cons_zero, List.set_cons_succ]
      refine wpAnyH_take (i := 55) (oi := { dst := some 97, op := Op.pick (Operand.tmp 95) (Operand.tmp 96) (Operand.const (Value.bool false)), type := 4, pos := "law.go:52", after := #[{ on := 53, ground := Ground.data }, { on := 54, ground := Ground.data }], guard := none }) (v := ?vT5x56) rfl (by kernel_rfl) (by kernel_rfl) (by kernel_rfl) (fun _ _ _ h => h) (Or.inl ⟨by rfl, ?hyT5x56⟩) (by exact hS) ?rsT5x56
      case hyT5x56 => (intro w hSw; (try dsimp only at hSw); unfold Ep.SB3 at hSw; go_simp; try with_reducible rfl)
      try simp only [Act.put, List.setIfInBounds_toArray, List.set_cons_zero, List.set_cons_succ]
      refine wpAnyH_take (i := 56) (oi := { dst := some 8, op := Op.assign (Operand.tmp 97), type := 4, pos := "law.go:52", after := #[{ on := 55, ground := Ground.data }, { on := 54, ground := Ground.chain }, { on := 0, ground := Ground.phase }, { on := 1, ground := Ground.phase }, { on := 2, ground := Ground.phase }, { on := 3, ground := Ground.phase }, { on := 4, ground := Ground.phase }, { on := 5, ground := Ground.phase }, { on := 6, ground := Ground.phase }, { on := 7, ground := Ground.phase }, { on := 8, ground := Ground.phase }, { on := 9, ground := Ground.phase }, { on := 10, ground := Ground.phase }, { on := 11, ground := Ground.phase }, { on := 12, ground := Ground.phase }, { on := 13, ground := Ground.phase }, { on := 14, ground := Ground.phase }, { on := 15, ground := Ground.phase }, { on := 16, ground := Ground.phase }, { on := 17, ground := Ground.phase }, { on := 18, ground := Ground.phase }, { on := 19, ground := Ground.phase }, { on := 20, ground := Ground.phase }, { on := 21, ground := Ground.phase }, { on := 22, ground := Ground.phase }, { on := 23, ground := Ground.phase }, { on := 24, ground := Ground.phase }, { on := 25, ground := Ground.phase }, { on := 26, ground := Ground.phase }, { on := 27, ground := Ground.phase }, { on := 28, ground := Ground.phase }, { on := 29, ground := Ground.phase }, { on := 30, ground := Ground.phase }, { on := 31, ground := Ground.phase }, { on := 32, ground := Ground.phase }, { on := 33, ground := Ground.phase }, { on := 34, ground := Ground.phase }, { on := 35, ground := Ground.phase }, { on := 36, ground := Ground.phase }, { on := 37, ground := Ground.phase }, { on := 38, ground := Ground.phase }, { on := 39, ground := Ground.phase }, { on := 40, ground := Ground.phase }, { on := 41, ground := Ground.phase }, { on := 42, ground := Ground.phase }, { on := 43, ground := Ground.phase }, { on := 44, ground := Ground.phase }, { on := 45, ground := Ground.phase }, { on := 46, ground := Ground.phase }, { on := 47, ground := Ground.phase }, { on := 48, ground := Ground.phase }, { on := 49, ground := Ground.phase }, { on := 50, ground := Ground.phase }, { on := 51, ground := Ground.phase }, { on := 52, ground := Ground.phase }, { on := 53, ground := Ground.phase }, { on := 54, ground := Ground.phase }, { on := 55, ground := Ground.phase }], guard := none }) (v := ?vT5x57) rfl (by kernel_rfl) (by kernel_rfl) (by kernel_rfl) (fun _ _ _ h => h) (Or.inl ⟨by rfl, ?hyT5x57⟩) (by exact hS) ?rsT5x57
      case hyT5x57 => (intro w hSw; (try dsimp only at hSw); unfold Ep.SB3 at hSw; go_simp; try with_reducible rfl)
      try simp only [Act.put, List.setIfInBounds_toArray, List.set_cons_zero, List.set_cons_succ]
      refine wpAnyH_done (by kernel_rfl) ?_ _
      have HQE := Lib.hid (Q7.out.trans (Ep.SB3.here hS))
      clear hS SQ
      go_wp2_with fail
      go_ret
      exact ⟨rfl, HQE.out⟩
    · have hz1 : decide ((zs : Int) ≤ (n : Int)) = false := by simp; omega
      have hz2 : ¬ (zs : Int) ≤ (n : Int) := by omega
      have hz3 : (n : Int) < (zs : Int) := by omega
      have HX := HX0.out
      rw [hz1] at HX
      have HXX := Lib.hid HX
      clear HX
      have SQ := Lib.hid (fun u (q : Q (z7) u) => (Ep.SB3.of B7_x.out B7_p.out B7_b13.out q : Ep.SB3 (z7) (z1.heap.size) g0 (.slice a1 p0 c1x) (t0) (z4.heap.size) c0 (.slice a3 r0 c3x) (n) (b13) c0 (.slice a13 r0 c13) (n) u))
      obtain ⟨k_i00, k_i01, k_i02, _, _, _⟩ := Er.block_cells B7_i0.out
      obtain ⟨k_x0, k_x1, k_x2, _, _, _⟩ := Er.block_cells B7_x.out
      obtain ⟨k_p0, k_p1, k_p2, _, _, _⟩ := Er.block_cells B7_p.out
      obtain ⟨k_b130, k_b131, k_b132, _, _, _⟩ := Er.block_cells B7_b13.out
      go_wp2_with fail
      clear k_i00 k_i01 k_i02 k_x0 k_x1 k_x2 k_p0 k_p1 k_p2 k_b130 k_b131 k_b132
      refine wp_region_held_drew (S := fun u => Ep.SB3 (z7) (z1.heap.size) g0 (.slice a1 p0 c1x) (t0) (z4.heap.size) c0 (.slice a3 r0 c3x) (n) (b13) c0 (.slice a13 r0 c13) (n) u) (by kernel_rfl) (by exact SQ.out _ ((Q.refl z7).drew)) (fun hHeld => ?_)
      have hS : Ep.SB3 (z7) (z1.heap.size) g0 (.slice a1 p0 c1x) (t0) (z4.heap.size) c0 (.slice a3 r0 c3x) (n) (b13) c0 (.slice a13 r0 c13) (n) z7.drew := hHeld
      clear hHeld
      generalize z7.drew = yT6x0 at hS ⊢
      refine wpAnyH_take (i := 0) (oi := { dst := some 42, op := Op.move (Operand.tmp 12), type := 28, pos := "law.go:52", after := #[], guard := none }) (v := ?vT6x1) rfl (by kernel_rfl) (by kernel_rfl) (by kernel_rfl) (fun _ _ _ h => h) (Or.inl ⟨by rfl, ?hyT6x1⟩) (by exact hS) ?rsT6x1
      case hyT6x1 => (intro w hSw; (try dsimp only at hSw); unfold Ep.SB3 at hSw; go_simp; try with_reducible rfl)
      try simp only [Act.put, List.setIfInBounds_toArray, List.set_cons_zero, List.set_cons_succ]
      refine wpAnyH_take (i := 1) (oi := { dst := some 43, op := Op.binOp BinOp.eql 28 (Operand.tmp 42) (Operand.const (Value.int IntKind.i64 0)) 28, type := 4, pos := "law.go:52", after := #[{ on := 0, ground := Ground.data }], guard := none }) (v := ?vT6x2) rfl (by kernel_rfl) (by kernel_rfl) (by kernel_rfl) (fun _ _ _ h => h) (Or.inl ⟨by rfl, ?hyT6x2⟩) (by exact hS) ?rsT6x2
      case hyT6x2 => (intro w hSw; (try dsimp only at hSw); unfold Ep.SB3 at hSw; go_simp; try with_reducible rfl)
      try simp only [Act.put, List.setIfInBounds_toArray, List.set_cons_zero, List.set_cons_succ]
      refine wpAnyH_take (i := 2) (oi := { dst := some 44, op := Op.move (Operand.tmp 43), type := 4, pos := "law.go:52", after := #[{ on := 1, ground := Ground.data }], guard := none }) (v := ?vT6x3) rfl (by kernel_rfl) (by kernel_rfl) (by kernel_rfl) (fun _ _ _ h => h) (Or.inl ⟨by rfl, ?hyT6x3⟩) (by exact hS) ?rsT6x3
      case hyT6x3 => (intro w hSw; (try dsimp only at hSw); unfold Ep.SB3 at hSw; go_simp; try with_reducible rfl)
      try simp only [Act.put, List.setIfInBounds_toArray, List.set_cons_zero, List.set_cons_succ]
      refine wpAnyH_take (i := 3) (oi := { dst := some 45, op := Op.move (Operand.tmp 14), type := 28, pos := "law.go:52", after := #[{ on := 2, ground := Ground.guard }], guard := some (2, true) }) (v := ?vT6x4) rfl (by kernel_rfl) (by kernel_rfl) (by kernel_rfl) (fun _ _ _ h => h) (Or.inl ⟨by rfl, ?hyT6x4⟩) (by exact hS) ?rsT6x4
      case hyT6x4 => (intro w hSw; (try dsimp only at hSw); unfold Ep.SB3 at hSw; go_simp; try with_reducible rfl)
      try simp only [Act.put, List.setIfInBounds_toArray, List.set_cons_zero, List.set_cons_succ]
      refine wpAnyH_take (i := 4) (oi := { dst := some 46, op := Op.binOp BinOp.eql 28 (Operand.tmp 45) (Operand.const (Value.int IntKind.i64 0)) 28, type := 4, pos := "law.go:52", after := #[{ on := 3, ground := Ground.data }, { on := 2, ground := Ground.guard }], guard := some (2, true) }) (v := ?vT6x5) rfl (by kernel_rfl) (by kernel_rfl) (by kernel_rfl) (fun _ _ _ h => h) (Or.inl ⟨by rfl, ?hyT6x5⟩) (by exact hS) ?rsT6x5
      case hyT6x5 => (intro w hSw; (try dsimp only at hSw); unfold Ep.SB3 at hSw; go_simp; try with_reducible rfl)
      try simp only [Act.put, List.setIfInBounds_toArray, List.set_cons_zero, List.set_cons_succ]
      refine wpAnyH_take (i := 5) (oi := { dst := some 47, op := Op.pick (Operand.tmp 44) (Operand.tmp 46) (Operand.const (Value.bool false)), type := 4, pos := "law.go:52", after := #[{ on := 2, ground := Ground.data }, { on := 4, ground := Ground.data }], guard := none }) (v := ?vT6x6) rfl (by kernel_rfl) (by kernel_rfl) (by kernel_rfl) (fun _ _ _ h => h) (Or.inl ⟨by rfl, ?hyT6x6⟩) (by exact hS) ?rsT6x6
      case hyT6x6 => (intro w hSw; (try dsimp only at hSw); unfold Ep.SB3 at hSw; go_simp; try with_reducible rfl)
      try simp only [Act.put, List.setIfInBounds_toArray, List.set_cons_zero, List.set_cons_succ]
      refine wpAnyH_take (i := 6) (oi := { dst := some 48, op := Op.move (Operand.tmp 47), type := 4, pos := "law.go:52", after := #[{ on := 5, ground := Ground.data }, { on := 2, ground := Ground.chain }], guard := none }) (v := ?vT6x7) rfl (by kernel_rfl) (by kernel_rfl) (by kernel_rfl) (fun _ _ _ h => h) (Or.inl ⟨by rfl, ?hyT6x7⟩) (by exact hS) ?rsT6x7
      case hyT6x7 => (intro w hSw; (try dsimp only at hSw); unfold Ep.SB3 at hSw; go_simp; try with_reducible rfl)
      try simp only [Act.put, List.setIfInBounds_toArray, List.set_cons_zero, List.set_cons_succ]
      refine wpAnyH_take (i := 7) (oi := { dst := some 49, op := Op.load 27 (Operand.tmp 11), type := 27, pos := "law.go:52", after := #[{ on := 6, ground := Ground.guard }], guard := some (6, true) }) (v := ?vT6x8) rfl (by kernel_rfl) (by kernel_rfl) (by kernel_rfl) (fun _ _ _ h => h) (Or.inl ⟨by rfl, ?hyT6x8⟩) (by exact hS) ?rsT6x8
      case hyT6x8 => (intro w hSw; (try dsimp only at hSw); unfold Ep.SB3 at hSw; go_simp; try with_reducible rfl)
      try simp only [Act.put, List.setIfInBounds_toArray, List.set_cons_zero, List.set_cons_succ]
      refine wpAnyH_take (i := 9) (oi := { dst := some 51, op := Op.load 27 (Operand.tmp 13), type := 27, pos := "law.go:52", after := #[{ on := 6, ground := Ground.guard }], guard := some (6, true) }) (v := ?vT6x9) rfl (by kernel_rfl) (by kernel_rfl) (by kernel_rfl) (fun _ _ _ h => h) (Or.inl ⟨by rfl, ?hyT6x9⟩) (by exact hS) ?rsT6x9
      case hyT6x9 => (intro w hSw; (try dsimp only at hSw); unfold Ep.SB3 at hSw; go_simp; try with_reducible rfl)
      try simp only [Act.put, List.setIfInBounds_toArray, List.set_cons_zero, List.set_cons_succ]
      refine wpAnyH_ready (rs := [8]) (by kernel_rfl) (by simp) ?_
      refine (AllReadyH.cons (o := { dst := some 50, op := Op.call { callee := Callee.value (Operand.func 17), args := #[Operand.tmp 49], argTypes := #[27] }, type := 24, pos := "law.go:52", after := #[{ on := 7, ground := Ground.data }, { on := 6, ground := Ground.chain }, { on := 6, ground := Ground.guard }], guard := some (6, true) }) rfl (fun K hK => ?_) AllReadyH.nil)
      go_simp
      refine (Rl.as_sh _ _ _ _ _ _).mono ?_
      rintro e yT6x10 ⟨rfl, hq⟩
      try (go_wp2_with fail)
      have hS2 := SQ.out _ (Q.trans (Ep.SB3.here hS) hq)
      refine hK.out _ _ (by exact hS2) (fun hHeld => ?_)
      clear hK K hHeld hS hq
      have hS := hS2
      clear hS2
      try simp only [Act.put, List.setIfInBounds_toArray, List.set_cons_zero, List.set_cons_succ]
      refine wpAnyH_ready (rs := [10]) (by kernel_rfl) (by simp) ?_
      refine (AllReadyH.cons (o := { dst := some 52, op := Op.call { callee := Callee.value (Operand.func 17), args := #[Operand.tmp 51], argTypes := #[27] }, type := 24, pos := "law.go:52", after := #[{ on := 9, ground := Ground.data }, { on := 8, ground := Ground.chain }, { on := 6, ground := Ground.guard }], guard := some (6, true) }) rfl (fun K hK => ?_) AllReadyH.nil)
      go_simp
      refine (Rl.as_sh _ _ _ _ _ _).mono ?_
      rintro e yT6x11 ⟨rfl, hq⟩
      try (go_wp2_with fail)
      have hS2 := SQ.out _ (Q.trans (Ep.SB3.here hS) hq)
      refine hK.out _ _ (by exact hS2) (fun hHeld => ?_)
      clear hK K hHeld hS hq
      have hS := hS2
      clear hS2
      try simp only [Act.put, List.setIfInBounds_toArray, List.set_cons_zero, List.set_cons_succ]
      refine wpAnyH_ready (rs := [11]) (by kernel_rfl) (by simp) ?_
      refine (AllReadyH.cons (o := { dst := some 53, op := Op.call { callee := Callee.value (Operand.func 16), args := #[Operand.tmp 50, Operand.tmp 52], argTypes := #[24, 24] }, type := 4, pos := "law.go:52", after := #[{ on := 8, ground := Ground.data }, { on := 10, ground := Ground.data }, { on := 10, ground := Ground.chain }, { on := 6, ground := Ground.guard }], guard := some (6, true) }) rfl (fun K hK => ?_) AllReadyH.nil)
      go_simp
      refine (HSM.out _ _ _ _ _ (L7_Z0.out.q (Ep.SB3.here hS)) (L7_Z13.out.q (Ep.SB3.here hS))).mono ?_
      rintro e yT6x12 ⟨rfl, hq⟩
      try (go_wp2_with fail)
      have hS2 := SQ.out _ (Q.trans (Ep.SB3.here hS) hq)
      refine hK.out _ _ (by exact hS2) (fun hHeld => ?_)
      clear hK K hHeld hS hq
      have hS := hS2
      clear hS2
      try simp only [Act.put, List.setIfInBounds_toArray, List.set_cons_zero, List.set_cons_succ]
      refine wpAnyH_take (i := 12) (oi := { dst := some 54, op := Op.pick (Operand.tmp 48) (Operand.tmp 53) (Operand.const (Value.bool false)), type := 4, pos := "law.go:52", after := #[{ on := 6, ground := Ground.data }, { on := 11, ground := Ground.data }], guard := none }) (v := ?vT6x13) rfl (by kernel_rfl) (by kernel_rfl) (by kernel_rfl) (fun _ _ _ h => h) (Or.inl ⟨by rfl, ?hyT6x13⟩) (by exact hS) ?rsT6x13
      case hyT6x13 => (intro w hSw; (try dsimp only at hSw); unfold Ep.SB3 at hSw; go_simp; try with_reducible rfl)
      try simp only [Act.put, List.setIfInBounds_toArray, List.set_cons_zero, List.set_cons_succ]
      refine wpAnyH_take (i := 13) (oi := { dst := some 55, op := Op.move (Operand.tmp 54), type := 4, pos := "law.go:52", after := #[{ on := 12, ground := Ground.data }, { on := 11, ground := Ground.chain }], guard := none }) (v := ?vT6x14) rfl (by kernel_rfl) (by kernel_rfl) (by kernel_rfl) (fun _ _ _ h => h) (Or.inl ⟨by rfl, ?hyT6x14⟩) (by exact hS) ?rsT6x14
      case hyT6x14 => (intro w hSw; (try dsimp only at hSw); unfold Ep.SB3 at hSw; go_simp; try with_reducible rfl)
      try simp only [Act.put, List.setIfInBounds_toArray, List.set_cons_zero, List.set_cons_succ]
      refine wpAnyH_take (i := 14) (oi := { dst := some 56, op := Op.fieldAddr 27 (Operand.tmp 11) 2, type := 0, pos := "law.go:52", after := #[{ on := 13, ground := Ground.guard }], guard := some (13, true) }) (v := ?vT6x15) rfl (by kernel_rfl) (by kernel_rfl) (by kernel_rfl) (fun _ _ _ h => h) (Or.inl ⟨by rfl, ?hyT6x15⟩) (by exact hS) ?rsT6x15
      case hyT6x15 => (intro w hSw; (try dsimp only at hSw); unfold Ep.SB3 at hSw; go_simp; try with_reducible rfl)
      try simp only [Act.put, List.setIfInBounds_toArray, List.set_cons_zero, List.set_cons_succ]
      refine wpAnyH_take (i := 15) (oi := { dst := some 57, op := Op.load 3 (Operand.tmp 56), type := 3, pos := "law.go:52", after := #[{ on := 14, ground := Ground.data }, { on := 13, ground := Ground.guard }], guard := some (13, true) }) (v := ?vT6x16) rfl (by kernel_rfl) (by kernel_rfl) (by kernel_rfl) (fun _ _ _ h => h) (Or.inl ⟨by rfl, ?hyT6x16⟩) (by exact hS) ?rsT6x16
      case hyT6x16 => (intro w hSw; (try dsimp only at hSw); unfold Ep.SB3 at hSw; go_simp; try with_reducible rfl)
      try simp only [Act.put, List.setIfInBounds_toArray, List.set_cons_zero, List.set_cons_succ]
      refine wpAnyH_take (i := 16) (oi := { dst := some 58, op := Op.move (Operand.tmp 10), type := 3, pos := "law.go:52", after := #[{ on := 13, ground := Ground.guard }], guard := some (13, true) }) (v := ?vT6x17) rfl (by kernel_rfl) (by kernel_rfl) (by kernel_rfl) (fun _ _ _ h => h) (Or.inl ⟨by rfl, ?hyT6x17⟩) (by exact hS) ?rsT6x17
      case hyT6x17 => (intro w hSw; (try dsimp only at hSw); unfold Ep.SB3 at hSw; go_simp; try with_reducible rfl)
      try simp only [Act.put, List.setIfInBounds_toArray, List.set_cons_zero, List.set_cons_succ]
      refine wpAnyH_take (i := 17) (oi := { dst := some 59, op := Op.binOp BinOp.eql 3 (Operand.tmp 57) (Operand.tmp 58) 3, type := 4, pos := "law.go:52", after := #[{ on := 15, ground := Ground.data }, { on := 16, ground := Ground.data }, { on := 13, ground := Ground.guard }], guard := some (13, true) }) (v := ?vT6x18) rfl (by kernel_rfl) (by kernel_rfl) (by kernel_rfl) (fun _ _ _ h => h) (Or.inl ⟨by rfl, ?hyT6x18⟩) (by exact hS) ?rsT6x18
      case hyT6x18 => (intro w hSw; (try dsimp only at hSw); unfold Ep.SB3 at hSw; go_simp; try with_reducible rfl)
      try simp only [Act.put, List.setIfInBounds_toArray, List.set_cons_zero, List.set_cons_succ]
      refine wpAnyH_take (i := 18) (oi := { dst := some 60, op := Op.pick (Operand.tmp 55) (Operand.tmp 59) (Operand.const (Value.bool false)), type := 4, pos := "law.go:52", after := #[{ on := 13, ground := Ground.data }, { on := 17, ground := Ground.data }], guard := none }) (v := ?vT6x19) rfl (by kernel_rfl) (by kernel_rfl) (by kernel_rfl) (fun _ _ _ h => h) (Or.inl ⟨by rfl, ?hyT6x19⟩) (by exact hS) ?rsT6x19
      case hyT6x19 => (intro w hSw; (try dsimp only at hSw); unfold Ep.SB3 at hSw; go_simp; try with_reducible rfl)
      try simp only [Act.put, List.setIfInBounds_toArray, List.set_cons_zero, List.set_cons_succ]
      refine wpAnyH_take (i := 19) (oi := { dst := some 61, op := Op.move (Operand.tmp 60), type := 4, pos := "law.go:52", after := #[{ on := 18, ground := Ground.data }, { on := 13, ground := Ground.chain }], guard := none }) (v := ?vT6x20) rfl (by kernel_rfl) (by kernel_rfl) (by kernel_rfl) (fun _ _ _ h => h) (Or.inl ⟨by rfl, ?hyT6x20⟩) (by exact hS) ?rsT6x20
      case hyT6x20 => (intro w hSw; (try dsimp only at hSw); unfold Ep.SB3 at hSw; go_simp; try with_reducible rfl)
      try simp only [Act.put, List.setIfInBounds_toArray, List.set_cons_zero, List.set_cons_succ]
      refine wpAnyH_take (i := 20) (oi := { dst := some 62, op := Op.load 27 (Operand.tmp 11), type := 27, pos := "law.go:52", after := #[{ on := 19, ground := Ground.guard }], guard := some (19, true) }) (v := ?vT6x21) rfl (by kernel_rfl) (by kernel_rfl) (by kernel_rfl) (fun _ _ _ h => h) (Or.inl ⟨by rfl, ?hyT6x21⟩) (by exact hS) ?rsT6x21
      case hyT6x21 => (intro w hSw; (try dsimp only at hSw); unfold Ep.SB3 at hSw; go_simp; try with_reducible rfl)
      try simp only [Act.put, List.setIfInBounds_toArray, List.set_cons_zero, List.set_cons_succ]
      refine wpAnyH_take (i := 21) (oi := { dst := some 63, op := Op.move (Operand.tmp 10), type := 3, pos := "law.go:52", after := #[{ on := 19, ground := Ground.guard }], guard := some (19, true) }) (v := ?vT6x22) rfl (by kernel_rfl) (by kernel_rfl) (by kernel_rfl) (fun _ _ _ h => h) (Or.inl ⟨by rfl, ?hyT6x22⟩) (by exact hS) ?rsT6x22
      case hyT6x22 => (intro w hSw; (try dsimp only at hSw); unfold Ep.SB3 at hSw; go_simp; try with_reducible rfl)
      try simp only [Act.put, List.setIfInBounds_toArray, List.set_cons_zero, List.set_cons_succ]
      refine wpAnyH_ready (rs := [22]) (by kernel_rfl) (by simp) ?_
      refine (AllReadyH.cons (o := { dst := some 64, op := Op.call { callee := Callee.value (Operand.func 20), args := #[Operand.tmp 62, Operand.tmp 63], argTypes := #[27, 3] }, type := 4, pos := "law.go:52", after := #[{ on := 20, ground := Ground.data }, { on := 21, ground := Ground.data }, { on := 19, ground := Ground.chain }, { on := 19, ground := Ground.guard }], guard := some (19, true) }) rfl (fun K hK => ?_) AllReadyH.nil)
      go_simp
      refine (HXn.out _ _ (L7_Z0.out.q (Ep.SB3.here hS))).mono ?_
      rintro e yT6x23 ⟨rfl, hq⟩
      try (go_wp2_with fail)
      have hS2 := SQ.out _ (Q.trans (Ep.SB3.here hS) hq)
      refine hK.out _ _ (by exact hS2) (fun hHeld => ?_)
      clear hK K hHeld hS hq
      have hS := hS2
      clear hS2
      try simp only [Act.put, List.setIfInBounds_toArray, List.set_cons_zero, List.set_cons_succ]
      refine wpAnyH_take (i := 23) (oi := { dst := some 65, op := Op.pick (Operand.tmp 61) (Operand.tmp 64) (Operand.const (Value.bool false)), type := 4, pos := "law.go:52", after := #[{ on := 19, ground := Ground.data }, { on := 22, ground := Ground.data }], guard := none }) (v := ?vT6x24) rfl (by kernel_rfl) (by kernel_rfl) (by kernel_rfl) (fun _ _ _ h => h) (Or.inl ⟨by rfl, ?hyT6x24⟩) (by exact hS) ?rsT6x24
      case hyT6x24 => (intro w hSw; (try dsimp only at hSw); unfold Ep.SB3 at hSw; go_simp; try with_reducible rfl)
      try simp only [Act.put, List.setIfInBounds_toArray, List.set_cons_zero, List.set_cons_succ]
      refine wpAnyH_take (i := 24) (oi := { dst := some 66, op := Op.move (Operand.tmp 65), type := 4, pos := "law.go:52", after := #[{ on := 23, ground := Ground.data }, { on := 22, ground := Ground.chain }], guard := none }) (v := ?vT6x25) rfl (by kernel_rfl) (by kernel_rfl) (by kernel_rfl) (fun _ _ _ h => h) (Or.inl ⟨by rfl, ?hyT6x25⟩) (by exact hS) ?rsT6x25
      case hyT6x25 => (intro w hSw; (try dsimp only at hSw); unfold Ep.SB3 at hSw; go_simp; try with_reducible rfl)
      try simp only [Act.put, List.setIfInBounds_toArray, List.set_cons_zero, List.set_cons_succ]
      refine wpAnyH_take (i := 25) (oi := { dst := some 67, op := Op.load 24 (Operand.tmp 9), type := 24, pos := "law.go:52", after := #[{ on := 24, ground := Ground.guard }], guard := some (24, true) }) (v := ?vT6x26) rfl (by kernel_rfl) (by kernel_rfl) (by kernel_rfl) (fun _ _ _ h => h) (Or.inl ⟨by rfl, ?hyT6x26⟩) (by exact hS) ?rsT6x26
      case hyT6x26 => (intro w hSw; (try dsimp only at hSw); unfold Ep.SB3 at hSw; go_simp; try with_reducible rfl)
      try simp only [Act.put, List.setIfInBounds_toArray, List.set_cons_zero, List.set_cons_succ]
      refine wpAnyH_take (i := 27) (oi := { dst := some 69, op := Op.move (Operand.tmp 10), type := 3, pos := "law.go:52", after := #[{ on := 24, ground := Ground.guard }], guard := some (24, true) }) (v := ?vT6x27) rfl (by kernel_rfl) (by kernel_rfl) (by kernel_rfl) (fun _ _ _ h => h) (Or.inl ⟨by rfl, ?hyT6x27⟩) (by exact hS) ?rsT6x27
      case hyT6x27 => (intro w hSw; (try dsimp only at hSw); unfold Ep.SB3 at hSw; go_simp; try with_reducible rfl)
      try simp only [Act.put, List.setIfInBounds_toArray, List.set_cons_zero, List.set_cons_succ]
      refine wpAnyH_take (i := 29) (oi := { dst := some 71, op := Op.move (Operand.tmp 15), type := 4, pos := "law.go:52", after := #[{ on := 24, ground := Ground.guard }], guard := some (24, true) }) (v := ?vT6x28) rfl (by kernel_rfl) (by kernel_rfl) (by kernel_rfl) (fun _ _ _ h => h) (Or.inl ⟨by rfl, ?hyT6x28⟩) (by exact hS) ?rsT6x28
      case hyT6x28 => (intro w hSw; (try dsimp only at hSw); unfold Ep.SB3 at hSw; go_simp; try with_reducible rfl)
      try simp only [Act.put, List.setIfInBounds_toArray, List.set_cons_zero, List.set_cons_succ]
      refine wpAnyH_ready (rs := [26]) (by kernel_rfl) (by simp) ?_
      refine (AllReadyH.cons (o := { dst := some 68, op := Op.call { callee := Callee.value (Operand.func 14), args := #[Operand.tmp 67], argTypes := #[24] }, type := 27, pos := "law.go:52", after := #[{ on := 25, ground := Ground.data }, { on := 24, ground := Ground.chain }, { on := 24, ground := Ground.guard }], guard := some (24, true) }) rfl (fun K hK => ?_) AllReadyH.nil)
      go_simp
      refine (Rl.of_sh _ _ _ _ _ _).mono ?_
      rintro e yT6x29 ⟨rfl, hq⟩
      try (go_wp2_with fail)
      have hS2 := SQ.out _ (Q.trans (Ep.SB3.here hS) hq)
      refine hK.out _ _ (by exact hS2) (fun hHeld => ?_)
      clear hK K hHeld hS hq
      have hS := hS2
      clear hS2
      try simp only [Act.put, List.setIfInBounds_toArray, List.set_cons_zero, List.set_cons_succ]
      refine wpAnyH_ready (rs := [28]) (by kernel_rfl) (by simp) ?_
      refine (AllReadyH.cons (o := { dst := some 70, op := Op.call { callee := Callee.value (Operand.func 20), args := #[Operand.tmp 68, Operand.tmp 69], argTypes := #[27, 3] }, type := 4, pos := "law.go:52", after := #[{ on := 26, ground := Ground.data }, { on := 27, ground := Ground.data }, { on := 26, ground := Ground.chain }, { on := 24, ground := Ground.guard }], guard := some (24, true) }) rfl (fun K hK => ?_) AllReadyH.nil)
      go_simp
      refine (HXX.out _ _ (L7_X0.out.q (Ep.SB3.here hS))).mono ?_
      rintro e yT6x30 ⟨rfl, hq⟩
      try (go_wp2_with fail)
      have hS2 := SQ.out _ (Q.trans (Ep.SB3.here hS) hq)
      refine hK.out _ _ (by exact hS2) (fun hHeld => ?_)
      clear hK K hHeld hS hq
      have hS := hS2
      clear hS2
      try simp only [Act.put, List.setIfInBounds_toArray, List.set_cons_zero, List.set_cons_succ]
      refine wpAnyH_take (i := 30) (oi := { dst := some 72, op := Op.binOp BinOp.eql 4 (Operand.tmp 70) (Operand.tmp 71) 4, type := 4, pos := "law.go:52", after := #[{ on := 28, ground := Ground.data }, { on := 29, ground := Ground.data }, { on := 24, ground := Ground.guard }], guard := some (24, true) }) (v := ?vT6x31) rfl (by kernel_rfl) (by kernel_rfl) (by kernel_rfl) (fun _ _ _ h => h) (Or.inl ⟨by rfl, ?hyT6x31⟩) (by exact hS) ?rsT6x31
      case hyT6x31 => (intro w hSw; (try dsimp only at hSw); unfold Ep.SB3 at hSw; go_simp; try with_reducible rfl)
      try simp only [Act.put, List.setIfInBounds_toArray, List.set_cons_zero, List.set_cons_succ]
      refine wpAnyH_take (i := 31) (oi := { dst := some 73, op := Op.pick (Operand.tmp 66) (Operand.tmp 72) (Operand.const (Value.bool false)), type := 4, pos := "law.go:52", after := #[{ on := 24, ground := Ground.data }, { on := 30, ground := Ground.data }], guard := none }) (v := ?vT6x32) rfl (by kernel_rfl) (by kernel_rfl) (by kernel_rfl) (fun _ _ _ h => h) (Or.inl ⟨by rfl, ?hyT6x32⟩) (by exact hS) ?rsT6x32
      case hyT6x32 => (intro w hSw; (try dsimp only at hSw); unfold Ep.SB3 at hSw; go_simp; try with_reducible rfl)
      try simp only [Act.put, List.setIfInBounds_toArray, List.set_cons_zero, List.set_cons_succ]
      refine wpAnyH_take (i := 32) (oi := { dst := some 74, op := Op.move (Operand.tmp 73), type := 4, pos := "law.go:52", after := #[{ on := 31, ground := Ground.data }, { on := 28, ground := Ground.chain }], guard := none }) (v := ?vT6x33) rfl (by kernel_rfl) (by kernel_rfl) (by kernel_rfl) (fun _ _ _ h => h) (Or.inl ⟨by rfl, ?hyT6x33⟩) (by exact hS) ?rsT6x33
      case hyT6x33 => (intro w hSw; (try dsimp only at hSw); unfold Ep.SB3 at hSw; go_simp; try with_reducible rfl)
      try simp only [Act.put, List.setIfInBounds_toArray, List.set_cons_zero, List.set_cons_succ]
      refine wpAnyH_take (i := 33) (oi := { dst := some 75, op := Op.move (Operand.tmp 15), type := 4, pos := "law.go:52", after := #[{ on := 32, ground := Ground.guard }], guard := some (32, true) }) (v := ?vT6x34) rfl (by kernel_rfl) (by kernel_rfl) (by kernel_rfl) (fun _ _ _ h => h) (Or.inl ⟨by rfl, ?hyT6x34⟩) (by exact hS) ?rsT6x34
      case hyT6x34 => (intro w hSw; (try dsimp only at hSw); unfold Ep.SB3 at hSw; go_simp; try with_reducible rfl)
      try simp only [Act.put, List.setIfInBounds_toArray, List.set_cons_zero, List.set_cons_succ]
      refine wpAnyH_take (i := 34) (oi := { dst := some 76, op := Op.unOp UnOp.not 4 (Operand.tmp 75), type := 4, pos := "law.go:52", after := #[{ on := 33, ground := Ground.data }, { on := 32, ground := Ground.guard }], guard := some (32, true) }) (v := ?vT6x35) rfl (by kernel_rfl) (by kernel_rfl) (by kernel_rfl) (fun _ _ _ h => h) (Or.inl ⟨by rfl, ?hyT6x35⟩) (by exact hS) ?rsT6x35
      case hyT6x35 => (intro w hSw; (try dsimp only at hSw); unfold Ep.SB3 at hSw; go_simp; try with_reducible rfl)
      try simp only [Act.put, List.setIfInBounds_toArray, List.set_cons_zero, List.set_cons_succ]
      refine wpAnyH_take (i := 35) (oi := { dst := some 77, op := Op.move (Operand.tmp 76), type := 4, pos := "law.go:52", after := #[{ on := 34, ground := Ground.data }, { on := 32, ground := Ground.chain }, { on := 32, ground := Ground.guard }], guard := some (32, true) }) (v := ?vT6x36) rfl (by kernel_rfl) (by kernel_rfl) (by kernel_rfl) (fun _ _ _ h => h) (Or.inl ⟨by rfl, ?hyT6x36⟩) (by exact hS) ?rsT6x36
      case hyT6x36 => (intro w hSw; (try dsimp only at hSw); unfold Ep.SB3 at hSw; go_simp; try with_reducible rfl)
      try simp only [Act.put, List.setIfInBounds_toArray, List.set_cons_zero, List.set_cons_succ]
      refine wpAnyH_take (i := 36) (oi := { dst := some 78, op := Op.load 27 (Operand.tmp 11), type := 27, pos := "law.go:52", after := #[{ on := 35, ground := Ground.guard }], guard := some (35, false) }) (v := undef) rfl (by kernel_rfl) (by kernel_rfl) (by kernel_rfl) (fun _ _ _ h => h) (Or.inr ⟨by rfl, rfl⟩) (by exact hS) ?_
      try simp only [Act.put, List.setIfInBounds_toArray, List.set_cons_zero, List.set_cons_succ]
      refine wpAnyH_take (i := 38) (oi := { dst := some 80, op := Op.load 24 (Operand.tmp 9), type := 24, pos := "law.go:52", after := #[{ on := 35, ground := Ground.guard }], guard := some (35, false) }) (v := undef) rfl (by kernel_rfl) (by kernel_rfl) (by kernel_rfl) (fun _ _ _ h => h) (Or.inr ⟨by rfl, rfl⟩) (by exact hS) ?_
      try simp only [Act.put, List.setIfInBounds_toArray, List.set_cons_zero, List.set_cons_succ]
      refine wpAnyH_ready (rs := [37]) (by kernel_rfl) (by simp) ?_
      refine (AllReadyH.cons (o := { dst := some 79, op := Op.call { callee := Callee.value (Operand.func 17), args := #[Operand.tmp 78], argTypes := #[27] }, type := 24, pos := "law.go:52", after := #[{ on := 36, ground := Ground.data }, { on := 35, ground := Ground.chain }, { on := 35, ground := Ground.guard }], guard := some (35, false) }) rfl (fun K hK => ?_) AllReadyH.nil)
      go_simp
      refine hK.out _ _ (by exact hS) (fun hHeld => ?_)
      clear hK K hHeld
      try simp only [Act.put, List.setIfInBounds_toArray, List.set_cons_zero, List.set_cons_succ]
      refine wpAnyH_ready (rs := [39]) (by kernel_rfl) (by simp) ?_
      refine (AllReadyH.cons (o := { dst := some 81, op := Op.call { callee := Callee.value (Operand.func 21), args := #[Operand.tmp 79, Operand.tmp 80], argTypes := #[24, 24] }, type := 3, pos := "law.go:52", after := #[{ on := 37, ground := Ground.data }, { on := 38, ground := Ground.data }, { on := 37, ground := Ground.chain }, { on := 35, ground := Ground.guard }], guard := some (35, false) }) rfl (fun K hK => ?_) AllReadyH.nil)
      go_simp
      refine hK.out _ _ (by exact hS) (fun hHeld => ?_)
      clear hK K hHeld
      try simp only [Act.put, List.setIfInBounds_toArray, List.set_cons_zero, List.set_cons_succ]
      refine wpAnyH_take (i := 40) (oi := { dst := some 82, op := Op.binOp BinOp.eql 3 (Operand.tmp 81) (Operand.const (Value.int IntKind.i64 0)) 3, type := 4, pos := "law.go:52", after := #[{ on := 39, ground := Ground.data }, { on := 35, ground := Ground.guard }], guard := some (35, false) }) (v := undef) rfl (by kernel_rfl) (by kernel_rfl) (by kernel_rfl) (fun _ _ _ h => h) (Or.inr ⟨by rfl, rfl⟩) (by exact hS) ?_
      try simp only [Act.put, List.setIfInBounds_toArray, List.set_cons_zero, List.set_cons_succ]
      refine wpAnyH_take (i := 41) (oi := { dst := some 83, op := Op.pick (Operand.tmp 77) (Operand.const (Value.bool true)) (Operand.tmp 82), type := 4, pos := "law.go:52", after := #[{ on := 35, ground := Ground.data }, { on := 40, ground := Ground.data }, { on := 32, ground := Ground.guard }], guard := some (32, true) }) (v := ?vT6x42) rfl (by kernel_rfl) (by kernel_rfl) (by kernel_rfl) (fun _ _ _ h => h) (Or.inl ⟨by rfl, ?hyT6x42⟩) (by exact hS) ?rsT6x42
      case hyT6x42 => (intro w hSw; (try dsimp only at hSw); unfold Ep.SB3 at hSw; go_simp; try with_reducible rfl)
      try simp only [Act.put, List.setIfInBounds_toArray, List.set_cons_zero, List.set_cons_succ]
      refine wpAnyH_take (i := 42) (oi := { dst := some 84, op := Op.pick (Operand.tmp 74) (Operand.tmp 83) (Operand.const (Value.bool false)), type := 4, pos := "law.go:52", after := #[{ on := 32, ground := Ground.data }, { on := 41, ground := Ground.data }], guard := none }) (v := ?vT6x43) rfl (by kernel_rfl) (by kernel_rfl) (by kernel_rfl) (fun _ _ _ h => h) (Or.inl ⟨by rfl, ?hyT6x43⟩) (by exact hS) ?rsT6x43
      case hyT6x43 => (intro w hSw; (try dsimp only at hSw); unfold Ep.SB3 at hSw; go_simp; try with_reducible rfl)
      try simp only [Act.put, List.setIfInBounds_toArray, List.set_cons_zero, List.set_cons_succ]
      refine wpAnyH_take (i := 43) (oi := { dst := some 85, op := Op.move (Operand.tmp 84), type := 4, pos := "law.go:52", after := #[{ on := 42, ground := Ground.data }, { on := 39, ground := Ground.chain }], guard := none }) (v := ?vT6x44) rfl (by kernel_rfl) (by kernel_rfl) (by kernel_rfl) (fun _ _ _ h => h) (Or.inl ⟨by rfl, ?hyT6x44⟩) (by exact hS) ?rsT6x44
      case hyT6x44 => (intro w hSw; (try dsimp only at hSw); unfold Ep.SB3 at hSw; go_simp; try with_reducible rfl)
      try simp only [Act.put, List.setIfInBounds_toArray, List.set_cons_zero, List.set_cons_succ]
      refine wpAnyH_take (i := 44) (oi := { dst := some 86, op := Op.load 27 (Operand.tmp 11), type := 27, pos := "law.go:52", after := #[{ on := 43, ground := Ground.guard }], guard := some (43, true) }) (v := ?vT6x45) rfl (by kernel_rfl) (by kernel_rfl) (by kernel_rfl) (fun _ _ _ h => h) (Or.inl ⟨by rfl, ?hyT6x45⟩) (by exact hS) ?rsT6x45
      case hyT6x45 => (intro w hSw; (try dsimp only at hSw); unfold Ep.SB3 at hSw; go_simp; try with_reducible rfl)
      try simp only [Act.put, List.setIfInBounds_toArray, List.set_cons_zero, List.set_cons_succ]
      refine wpAnyH_ready (rs := [45]) (by kernel_rfl) (by simp) ?_
      refine (AllReadyH.cons (o := { dst := some 87, op := Op.call { callee := Callee.value (Operand.func 20), args := #[Operand.tmp 86, Operand.const (Value.int IntKind.i64 (-1))], argTypes := #[27, 3] }, type := 4, pos := "law.go:52", after := #[{ on := 44, ground := Ground.data }, { on := 43, ground := Ground.chain }, { on := 43, ground := Ground.guard }], guard := some (43, true) }) rfl (fun K hK => ?_) AllReadyH.nil)
      go_simp
      refine (HXm.out _ _ (L7_Z0.out.q (Ep.SB3.here hS))).mono ?_
      rintro e yT6x46 ⟨rfl, hq⟩
      try (go_wp2_with fail)
      have hS2 := SQ.out _ (Q.trans (Ep.SB3.here hS) hq)
      refine hK.out _ _ (by exact hS2) (fun hHeld => ?_)
      clear hK K hHeld hS hq
      have hS := hS2
      clear hS2
      try simp only [Act.put, List.setIfInBounds_toArray, List.set_cons_zero, List.set_cons_succ]
      refine wpAnyH_take (i := 46) (oi := { dst := some 88, op := Op.unOp UnOp.not 4 (Operand.tmp 87), type := 4, pos := "law.go:52", after := #[{ on := 45, ground := Ground.data }, { on := 43, ground := Ground.guard }], guard := some (43, true) }) (v := ?vT6x47) rfl (by kernel_rfl) (by kernel_rfl) (by kernel_rfl) (fun _ _ _ h => h) (Or.inl ⟨by rfl, ?hyT6x47⟩) (by exact hS) ?rsT6x47
      case hyT6x47 => (intro w hSw; (try dsimp only at hSw); unfold Ep.SB3 at hSw; go_simp; try with_reducible rfl)
      try simp only [Act.put, List.setIfInBounds_toArray, List.set_cons_zero, List.set_cons_succ]
      refine wpAnyH_take (i := 47) (oi := { dst := some 89, op := Op.pick (Operand.tmp 85) (Operand.tmp 88) (Operand.const (Value.bool false)), type := 4, pos := "law.go:52", after := #[{ on := 43, ground := Ground.data }, { on := 46, ground := Ground.data }], guard := none }) (v := ?vT6x48) rfl (by kernel_rfl) (by kernel_rfl) (by kernel_rfl) (fun _ _ _ h => h) (Or.inl ⟨by rfl, ?hyT6x48⟩) (by exact hS) ?rsT6x48
      case hyT6x48 => (intro w hSw; (try dsimp only at hSw); unfold Ep.SB3 at hSw; go_simp; try with_reducible rfl)
      try simp only [Act.put, List.setIfInBounds_toArray, List.set_cons_zero, List.set_cons_succ]
      refine wpAnyH_take (i := 48) (oi := { dst := some 90, op := Op.move (Operand.tmp 89), type := 4, pos := "law.go:52", after := #[{ on := 47, ground := Ground.data }, { on := 45, ground := Ground.chain }], guard := none }) (v := ?vT6x49) rfl (by kernel_rfl) (by kernel_rfl) (by kernel_rfl) (fun _ _ _ h => h) (Or.inl ⟨by rfl, ?hyT6x49⟩) (by exact hS) ?rsT6x49
      case hyT6x49 => (intro w hSw; (try dsimp only at hSw); unfold Ep.SB3 at hSw; go_simp; try with_reducible rfl)
      try simp only [Act.put, List.setIfInBounds_toArray, List.set_cons_zero, List.set_cons_succ]
      refine wpAnyH_take (i := 49) (oi := { dst := some 91, op := Op.load 27 (Operand.tmp 11), type := 27, pos := "law.go:52", after := #[{ on := 48, ground := Ground.guard }], guard := some (48, true) }) (v := ?vT6x50) rfl (by kernel_rfl) (by kernel_rfl) (by kernel_rfl) (fun _ _ _ h => h) (Or.inl ⟨by rfl, ?hyT6x50⟩) (by exact hS) ?rsT6x50
      case hyT6x50 => (intro w hSw; (try dsimp only at hSw); unfold Ep.SB3 at hSw; go_simp; try with_reducible rfl)
      try simp only [Act.put, List.setIfInBounds_toArray, List.set_cons_zero, List.set_cons_succ]
      refine wpAnyH_ready (rs := [50]) (by kernel_rfl) (by simp) ?_
      refine (AllReadyH.cons (o := { dst := some 92, op := Op.call { callee := Callee.value (Operand.func 20), args := #[Operand.tmp 91, Operand.const (Value.int IntKind.i64 1001)], argTypes := #[27, 3] }, type := 4, pos := "law.go:52", after := #[{ on := 49, ground := Ground.data }, { on := 48, ground := Ground.chain }, { on := 48, ground := Ground.guard }], guard := some (48, true) }) rfl (fun K hK => ?_) AllReadyH.nil)
      go_simp
      refine (HXp.out _ _ (L7_Z0.out.q (Ep.SB3.here hS))).mono ?_
      rintro e yT6x51 ⟨rfl, hq⟩
      try (go_wp2_with fail)
      have hS2 := SQ.out _ (Q.trans (Ep.SB3.here hS) hq)
      refine hK.out _ _ (by exact hS2) (fun hHeld => ?_)
      clear hK K hHeld hS hq
      have hS := hS2
      clear hS2
      try simp only [Act.put, List.setIfInBounds_toArray, List.set_cons_zero, List.set_cons_succ]
      refine wpAnyH_take (i := 51) (oi := { dst := some 93, op := Op.unOp UnOp.not 4 (Operand.tmp 92), type := 4, pos := "law.go:52", after := #[{ on := 50, ground := Ground.data }, { on := 48, ground := Ground.guard }], guard := some (48, true) }) (v := ?vT6x52) rfl (by kernel_rfl) (by kernel_rfl) (by kernel_rfl) (fun _ _ _ h => h) (Or.inl ⟨by rfl, ?hyT6x52⟩) (by exact hS) ?rsT6x52
      case hyT6x52 => (intro w hSw; (try dsimp only at hSw); unfold Ep.SB3 at hSw; go_simp; try with_reducible rfl)
      try simp only [Act.put, List.setIfInBounds_toArray, List.set_cons_zero, List.set_cons_succ]
      refine wpAnyH_take (i := 52) (oi := { dst := some 94, op := Op.pick (Operand.tmp 90) (Operand.tmp 93) (Operand.const (Value.bool false)), type := 4, pos := "law.go:52", after := #[{ on := 48, ground := Ground.data }, { on := 51, ground := Ground.data }], guard := none }) (v := ?vT6x53) rfl (by kernel_rfl) (by kernel_rfl) (by kernel_rfl) (fun _ _ _ h => h) (Or.inl ⟨by rfl, ?hyT6x53⟩) (by exact hS) ?rsT6x53
      case hyT6x53 => (intro w hSw; (try dsimp only at hSw); unfold Ep.SB3 at hSw; go_simp; try with_reducible rfl)
      try simp only [Act.put, List.setIfInBounds_toArray, List.set_cons_zero, List.set_cons_succ]
      refine wpAnyH_take (i := 53) (oi := { dst := some 95, op := Op.move (Operand.tmp 94), type := 4, pos := "law.go:52", after := #[{ on := 52, ground := Ground.data }, { on := 50, ground := Ground.chain }], guard := none }) (v := ?vT6x54) rfl (by kernel_rfl) (by kernel_rfl) (by kernel_rfl) (fun _ _ _ h => h) (Or.inl ⟨by rfl, ?hyT6x54⟩) (by exact hS) ?rsT6x54
      case hyT6x54 => (intro w hSw; (try dsimp only at hSw); unfold Ep.SB3 at hSw; go_simp; try with_reducible rfl)
      try simp only [Act.put, List.setIfInBounds_toArray, List.set_cons_zero, List.set_cons_succ]
      refine wpAnyH_ready (rs := [54]) (by kernel_rfl) (by simp) ?_
      refine (AllReadyH.cons (o := { dst := some 96, op := Op.call { callee := Callee.value (Operand.func 18), args := #[], argTypes := #[] }, type := 4, pos := "law.go:52", after := #[{ on := 53, ground := Ground.chain }, { on := 53, ground := Ground.guard }], guard := some (53, true) }) rfl (fun K hK => ?_) AllReadyH.nil)
      go_simp
      refine (LV.out _).mono ?_
      rintro e yT6x55 ⟨rfl, hq⟩
      try (go_wp2_with fail)
      have hS2 := SQ.out _ (Q.trans (Ep.SB3.here hS) hq)
      refine hK.out _ _ (by exact hS2) (fun hHeld => ?_)
      clear hK K hHeld hS hq
      have hS := hS2
      clear hS2
      try simp only [Act.put, List.setIfInBounds_toArray, List.set_cons_zero, List.set_cons_succ]
      refine wpAnyH_take (i := 55) (oi := { dst := some 97, op := Op.pick (Operand.tmp 95) (Operand.tmp 96) (Operand.const (Value.bool false)), type := 4, pos := "law.go:52", after := #[{ on := 53, ground := Ground.data }, { on := 54, ground := Ground.data }], guard := none }) (v := ?vT6x56) rfl (by kernel_rfl) (by kernel_rfl) (by kernel_rfl) (fun _ _ _ h => h) (Or.inl ⟨by rfl, ?hyT6x56⟩) (by exact hS) ?rsT6x56
      case hyT6x56 => (intro w hSw; (try dsimp only at hSw); unfold Ep.SB3 at hSw; go_simp; try with_reducible rfl)
      try simp only [Act.put, List.setIfInBounds_toArray, List.set_cons_zero, List.set_cons_succ]
      refine wpAnyH_take (i := 56) (oi := { dst := some 8, op := Op.assign (Operand.tmp 97), type := 4, pos := "law.go:52", after := #[{ on := 55, ground := Ground.data }, { on := 54, ground := Ground.chain }, { on := 0, ground := Ground.phase }, { on := 1, ground := Ground.phase }, { on := 2, ground := Ground.phase }, { on := 3, ground := Ground.phase }, { on := 4, ground := Ground.phase }, { on := 5, ground := Ground.phase }, { on := 6, ground := Ground.phase }, { on := 7, ground := Ground.phase }, { on := 8, ground := Ground.phase }, { on := 9, ground := Ground.phase }, { on := 10, ground := Ground.phase }, { on := 11, ground := Ground.phase }, { on := 12, ground := Ground.phase }, { on := 13, ground := Ground.phase }, { on := 14, ground := Ground.phase }, { on := 15, ground := Ground.phase }, { on := 16, ground := Ground.phase }, { on := 17, ground := Ground.phase }, { on := 18, ground := Ground.phase }, { on := 19, ground := Ground.phase }, { on := 20, ground := Ground.phase }, { on := 21, ground := Ground.phase }, { on := 22, ground := Ground.phase }, { on := 23, ground := Ground.phase }, { on := 24, ground := Ground.phase }, { on := 25, ground := Ground.phase }, { on := 26, ground := Ground.phase }, { on := 27, ground := Ground.phase }, { on := 28, ground := Ground.phase }, { on := 29, ground := Ground.phase }, { on := 30, ground := Ground.phase }, { on := 31, ground := Ground.phase }, { on := 32, ground := Ground.phase }, { on := 33, ground := Ground.phase }, { on := 34, ground := Ground.phase }, { on := 35, ground := Ground.phase }, { on := 36, ground := Ground.phase }, { on := 37, ground := Ground.phase }, { on := 38, ground := Ground.phase }, { on := 39, ground := Ground.phase }, { on := 40, ground := Ground.phase }, { on := 41, ground := Ground.phase }, { on := 42, ground := Ground.phase }, { on := 43, ground := Ground.phase }, { on := 44, ground := Ground.phase }, { on := 45, ground := Ground.phase }, { on := 46, ground := Ground.phase }, { on := 47, ground := Ground.phase }, { on := 48, ground := Ground.phase }, { on := 49, ground := Ground.phase }, { on := 50, ground := Ground.phase }, { on := 51, ground := Ground.phase }, { on := 52, ground := Ground.phase }, { on := 53, ground := Ground.phase }, { on := 54, ground := Ground.phase }, { on := 55, ground := Ground.phase }], guard := none }) (v := ?vT6x57) rfl (by kernel_rfl) (by kernel_rfl) (by kernel_rfl) (fun _ _ _ h => h) (Or.inl ⟨by rfl, ?hyT6x57⟩) (by exact hS) ?rsT6x57
      case hyT6x57 => (intro w hSw; (try dsimp only at hSw); unfold Ep.SB3 at hSw; go_simp; try with_reducible rfl)
      try simp only [Act.put, List.setIfInBounds_toArray, List.set_cons_zero, List.set_cons_succ]
      refine wpAnyH_done (by kernel_rfl) ?_ _
      have HQE := Lib.hid (Q7.out.trans (Ep.SB3.here hS))
      clear hS SQ
      go_wp2_with fail
      go_ret
      exact ⟨rfl, HQE.out⟩

set_option maxRecDepth 100000 in
theorem lifted (os : Os) (started : os.Started) (H : Type) (enc : TypeId × Value → H) :
    ReturnsInHanded {} Try.checked os 4 .any (Rows.roundExactSpec.pre6 enc Try.prog Try.f4 Rows.roundExactRow.domain false) (Rows.roundExactSpec.post enc Try.prog Try.f4 false true false false) := by
  refine returnsInHanded_of_change (C := Try.checked) own started (by kernel_rfl) Try.func4
    (ChangeSpec.witness6 (enc := enc) (C := Try.checked) false ⟨#[], #[.agg #[.bool false, .slice none 0 0, .int .i64 0], .int .i64 0, .int .i64 0, .int .i64 0], []⟩ 8 (by kernel_rfl) (by kernel_rfl) (by kernel_rfl) (by kernel_rfl)) ?_
  intro W base args ds gs before hval0 hW hcnd _
  have hval : ∀ (j : Nat) t v, Try.f4.params[j]? = some t → args[j]? = some v → Value.okWide Try.prog W .any base t v := hval0
  have hW' := hW
  obtain ⟨p, q, hA0, hV, rfl, hfz, hnd⟩ := hW
  have hA : DataW.TrodAll enc Try.prog W 0 (fun _ => true) true Try.f4.params.toList args.toList ds p := hA0
  rw [Try.params4] at hA hval
  obtain ⟨v0, vs0, d0, ds0, p0, q0, hargs, rfl, rfl, h0, r0⟩ := trodAll_cons hA
  obtain ⟨v1, vs1, d1, ds1, p1, q1, rfl, rfl, rfl, h1, r1⟩ := trodAll_cons r0
  obtain ⟨v2, vs2, d2, ds2, p2, q2, rfl, rfl, rfl, h2, r2⟩ := trodAll_cons r1
  obtain ⟨v3, vs3, d3, ds3, p3, q3, rfl, rfl, rfl, h3, r3⟩ := trodAll_cons r2
  obtain ⟨rfl, rfl, rfl⟩ := trodAll_nil r3
  obtain rfl : args = #[v0, v1, v2, v3] := by cases args; simp_all
  obtain ⟨rfl, rfl⟩ := trodVars_none hV
  have k0 := h0
  have lt0 : ∀ x ∈ p0, x.block < W.heap.size := by obtain ⟨m, hm⟩ := k0; exact DataW.trod_lt m _ _ _ hm
  obtain ⟨c00, c01, c02, y00, y01, y02, m0, rfl, _, _, hy00, hy01, hy02⟩ := Joins.open_agg3 Try.underlying24 (by kernel_rfl) (by kernel_rfl) (hval 0 24 v0 rfl rfl) h0
  obtain ⟨g0, rfl⟩ : ∃ b, c00 = .bool b := by
    obtain ⟨b, h, _⟩ := DataW.trod_bool Try.underlying4 hy00
    exact ⟨b, by simpa using h⟩
  obtain ⟨s0, rfl, ws0⟩ : ∃ n, c02 = .int .i64 n ∧ (Lit.int .i64 n).wf = true := by
    obtain ⟨n, h, _, hw⟩ := DataW.trod_int Try.underlying3 hy02
    exact ⟨n, by simpa using h, hw⟩
  obtain ⟨a0, len0, cap0, z0, rfl, w0⟩ : ∃ a len cap zs, c01 = .slice a len cap ∧ IsRow .i64 W a len cap zs := by
    rcases open_ints Try.underlying22 Try.underlying3 (by kernel_rfl) hy01 with ⟨hcs, _⟩ | ⟨x, l, c, zs, hcs, _, hl, hm, hz, _, hcell, hwz⟩
    · exact ⟨none, 0, 0, [], by simpa using hcs, .inl ⟨rfl, rfl, rfl, rfl⟩⟩
    · exact ⟨some x, l, c, zs, by simpa using hcs, .inr ⟨_, rfl, hl, hm, by simpa using hz, hcell, hwz⟩⟩
  obtain ⟨xs0, l0, _, b0⟩ := w0.lst
  obtain ⟨a1, rfl, rfl, rfl, w1⟩ := open_int Try.underlying3 (hval 1 3 v1 rfl rfl) h1
  obtain ⟨a2, rfl, rfl, rfl, w2⟩ := open_int Try.underlying3 (hval 2 3 v2 rfl rfl) h2
  obtain ⟨a3, rfl, rfl, rfl, w3⟩ := open_int Try.underlying3 (hval 3 3 v3 rfl rfl) h3
  clear hA0 hval0
  refine (walk W g0 (.slice a0 len0 cap0) xs0 l0 b0 s0 (bounds_i64 ws0) a1 (bounds_i64 w1) a2 (bounds_i64 w2) a3 (bounds_i64 w3)).mono fun e W' ⟨he, bel⟩ => ?_
  subst he
  exact ⟨_, rfl, _, _, _, [], _, [], hW', trodAll_mk1 (shut_bool Try.underlying4 _), (trodAll_cons_mk (Below.trod laidOut (by kernel_rfl) (of_decide_eq_true (by kernel_rfl)) k0 bel lt0) (trodAll_cons_mk (shut_int Try.underlying3 w1) (trodAll_cons_mk (shut_int Try.underlying3 w2) (trodAll_cons_mk (shut_int Try.underlying3 w3) trodAll_mk0)))), rfl, bel.below.frame _, fun h => by cases h⟩

/-- The statement. -/
theorem proved : Rows.RoundExactSaid :=
  OpenClaim.holds_of_wide 4 Try.f4 rfl rfl rfl rfl rfl rfl rfl ⟨rfl, rfl, rfl, rfl, rfl⟩ rfl rfl rfl rfl rfl (by kernel_rfl) Try.func4 (by kernel_rfl)
    (of_decide_eq_true (by kernel_rfl)) (by unfold Func.isWrapper; first | (rw [if_pos (by decide +kernel)]; kernel_rfl) | (rw [if_neg (by decide +kernel)]; exact ⟨rfl, rfl⟩))
    (fun os started H enc _ => lifted os started H enc)
#print axioms proved
end Go.Proofs.Ytebcgpoemppljaa.roundExact
