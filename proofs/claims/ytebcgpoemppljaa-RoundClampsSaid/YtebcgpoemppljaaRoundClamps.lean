/- RoundClamps: of whatever three decimals (their first 12 numbers; as they are, and made digits, their scales made 0 to 9) the one within the bounds is the document's, or refused; within them it stays; no conditions. -/
import Derived.Test.YtebcgpoemppljaaRows
import Derived.WalkKit
import Derived.ProofKit
import Derived.OpenShut
import Derived.ShutString
import Derived.ChangeOld
import Derived.Below
import Derived.Lib.SmallJoins
import Derived.Test.YtebcgpoemppljaaInts
import Derived.Test.YtebcgpoemppljaaUtfM
import Derived.Test.YtebcgpoemppljaaUtfG
import Derived.Test.YtebcgpoemppljaaUtfR
import Derived.Test.YtebcgpoemppljaaDigM
import Derived.Test.YtebcgpoemppljaaDigL
import Derived.Test.YtebcgpoemppljaaDigR
import Derived.Test.YtebcgpoemppljaaDecM
import Derived.Test.YtebcgpoemppljaaDecR
import Derived.Test.YtebcgpoemppljaaDecS
import Derived.Test.YtebcgpoemppljaaDecC
import Derived.Test.YtebcgpoemppljaaDecZ
import Derived.Test.YtebcgpoemppljaaDecY
import Derived.Test.YtebcgpoemppljaaRndM
import Derived.Test.YtebcgpoemppljaaRndN
import Derived.Test.YtebcgpoemppljaaRndU
import Derived.Test.YtebcgpoemppljaaRndP
import Derived.Test.YtebcgpoemppljaaRndZ
import Derived.Test.YtebcgpoemppljaaDecX
import Derived.Test.YtebcgpoemppljaaRndT
import Derived.Test.YtebcgpoemppljaaRndC
set_option linter.unusedVariables false
set_option linter.unusedSimpArgs false
namespace Go.Proofs.Ytebcgpoemppljaa.roundClamps
open Go.ChangeShapes Go.WideShapes Go.ChangeAt Go.RowKit
open Go.ChangeMaps (open_string shut_string)

theorem own : ownKnob Try.prog.godebug = none := by kernel_rfl
theorem laidOut : laidOutB Try.prog = true := by kernel_rfl


set_option maxHeartbeats 8000000 in
set_option maxRecDepth 100000 in
theorem walk (w : World) (g0 : Bool) (v0 : Value) (xs0 : List Int) (w0 : Lst w v0 xs0) (b0 : ∀ n ∈ xs0, -9223372036854775808 ≤ n ∧ n ≤ 9223372036854775807) (s0 : Int) (ws0 : -9223372036854775808 ≤ s0 ∧ s0 ≤ 9223372036854775807) (g1 : Bool) (v1 : Value) (xs1 : List Int) (w1 : Lst w v1 xs1) (b1 : ∀ n ∈ xs1, -9223372036854775808 ≤ n ∧ n ≤ 9223372036854775807) (s1 : Int) (ws1 : -9223372036854775808 ≤ s1 ∧ s1 ≤ 9223372036854775807) (g2 : Bool) (v2 : Value) (xs2 : List Int) (w2 : Lst w v2 xs2) (b2 : ∀ n ∈ xs2, -9223372036854775808 ≤ n ∧ n ≤ 9223372036854775807) (s2 : Int) (ws2 : -9223372036854775808 ≤ s2 ∧ s2 ≤ 9223372036854775807) :
    Calls Try.prog 8 #[.agg #[.bool g0, v0, .int .i64 s0], .agg #[.bool g1, v1, .int .i64 s1], .agg #[.bool g2, v2, .int .i64 s2]] w fun e w' => e = .returned (.bool true) ∧ Q w w' := by
  have hR0 := w0
  obtain ⟨A0, C0, rfl, hnc0, hcm0⟩ := w0.shape2
  have hgl0 := Dm.gdL_len xs0 12
  have kX0 := Dm.gdL_ok xs0 12
  have hab0 := Um.around_bd s0 10 (by omega)
  obtain ⟨t0, ht0⟩ : ∃ t : Nat, Um.around s0 10 = (t : Int) := ⟨(Um.around s0 10).toNat, by omega⟩
  rw [ht0] at hab0
  have hs0 : t0 ≤ 9 := by omega
  obtain ⟨p0, hp0⟩ : ∃ p, (Dm.gdL xs0 12).length = p := ⟨_, rfl⟩
  have hpm0 : p0 ≤ 12 := by omega
  have G0 := Lib.hid (fun u (q : Q w u) => Ep.good_sh u g0 A0 xs0.length C0 s0 xs0 12 (w0.q q) rfl ws0 (by omega) b0 t0 p0 ht0 hp0)
  obtain ⟨q0, hq0⟩ : ∃ q, min xs0.length 12 = q := ⟨_, rfl⟩
  have FW0 := Lib.hid (fun u => Ep.few_sh u g0 A0 xs0.length C0 s0 12 q0 hnc0 hcm0 (by omega) hq0)
  have hT0 := w0.take q0 (by omega)
  have hRl0 : (xs0.take q0).length = q0 := by rw [List.length_take]; omega
  generalize xs0.take q0 = RR0 at *
  have HR0 := Lib.hid hT0
  generalize Dm.gdL xs0 12 = X0 at *
  generalize hn0 : xs0.length = n0 at *
  have HP0 := Lib.hid hp0
  have hql0 : q0 ≤ 12 := by omega
  have HRL0 := Lib.hid hRl0
  clear hgl0 hab0 ht0
  have hR1 := w1
  obtain ⟨A1, C1, rfl, hnc1, hcm1⟩ := w1.shape2
  have hgl1 := Dm.gdL_len xs1 12
  have kX1 := Dm.gdL_ok xs1 12
  have hab1 := Um.around_bd s1 10 (by omega)
  obtain ⟨t1, ht1⟩ : ∃ t : Nat, Um.around s1 10 = (t : Int) := ⟨(Um.around s1 10).toNat, by omega⟩
  rw [ht1] at hab1
  have hs1 : t1 ≤ 9 := by omega
  obtain ⟨p1, hp1⟩ : ∃ p, (Dm.gdL xs1 12).length = p := ⟨_, rfl⟩
  have hpm1 : p1 ≤ 12 := by omega
  have G1 := Lib.hid (fun u (q : Q w u) => Ep.good_sh u g1 A1 xs1.length C1 s1 xs1 12 (w1.q q) rfl ws1 (by omega) b1 t1 p1 ht1 hp1)
  obtain ⟨q1, hq1⟩ : ∃ q, min xs1.length 12 = q := ⟨_, rfl⟩
  have FW1 := Lib.hid (fun u => Ep.few_sh u g1 A1 xs1.length C1 s1 12 q1 hnc1 hcm1 (by omega) hq1)
  have hT1 := w1.take q1 (by omega)
  have hRl1 : (xs1.take q1).length = q1 := by rw [List.length_take]; omega
  generalize xs1.take q1 = RR1 at *
  have HR1 := Lib.hid hT1
  generalize Dm.gdL xs1 12 = X1 at *
  generalize hn1 : xs1.length = n1 at *
  have HP1 := Lib.hid hp1
  have hql1 : q1 ≤ 12 := by omega
  have HRL1 := Lib.hid hRl1
  clear hgl1 hab1 ht1
  have hR2 := w2
  obtain ⟨A2, C2, rfl, hnc2, hcm2⟩ := w2.shape2
  have hgl2 := Dm.gdL_len xs2 12
  have kX2 := Dm.gdL_ok xs2 12
  have hab2 := Um.around_bd s2 10 (by omega)
  obtain ⟨t2, ht2⟩ : ∃ t : Nat, Um.around s2 10 = (t : Int) := ⟨(Um.around s2 10).toNat, by omega⟩
  rw [ht2] at hab2
  have hs2 : t2 ≤ 9 := by omega
  obtain ⟨p2, hp2⟩ : ∃ p, (Dm.gdL xs2 12).length = p := ⟨_, rfl⟩
  have hpm2 : p2 ≤ 12 := by omega
  have G2 := Lib.hid (fun u (q : Q w u) => Ep.good_sh u g2 A2 xs2.length C2 s2 xs2 12 (w2.q q) rfl ws2 (by omega) b2 t2 p2 ht2 hp2)
  obtain ⟨q2, hq2⟩ : ∃ q, min xs2.length 12 = q := ⟨_, rfl⟩
  have FW2 := Lib.hid (fun u => Ep.few_sh u g2 A2 xs2.length C2 s2 12 q2 hnc2 hcm2 (by omega) hq2)
  have hT2 := w2.take q2 (by omega)
  have hRl2 : (xs2.take q2).length = q2 := by rw [List.length_take]; omega
  generalize xs2.take q2 = RR2 at *
  have HR2 := Lib.hid hT2
  generalize Dm.gdL xs2 12 = X2 at *
  generalize hn2 : xs2.length = n2 at *
  have HP2 := Lib.hid hp2
  have hql2 : q2 ≤ 12 := by omega
  have HRL2 := Lib.hid hRl2
  clear hgl2 hab2 ht2
  have AL0 := Lib.hid (Rl.clamp_both g0 g1 g2 t0 t1 t2 X0 X1 X2 (by omega) (by omega) (by omega) (by omega) (by omega) (by omega))
  have AL1 := Lib.hid (Rl.clamp_both g0 g1 g2 s0 s1 s2 RR0 RR1 RR2 (by omega) (by omega) (by omega) ws0 ws1 ws2)
  have LV := Lib.hid Rl.lives_any
  clear hR0 hnc0 hcm0 hs0 hpm0 hq0 hT0 hRl0 hql0 kX0 hp0 w0 b0 ws0 hR1 hnc1 hcm1 hs1 hpm1 hq1 hT1 hRl1 hql1 kX1 hp1 w1 b1 ws1 hR2 hnc2 hcm2 hs2 hpm2 hq2 hT2 hRl2 hql2 kX2 hp2 w2 b2 ws2
  go_enter Try.func8, Try.ntmps8
  have Q0 := Lib.hid (show Q w (((w.alloc (.cells #[.bool g0, .slice A0 n0 C0, .int .i64 s0] 24)).alloc (.cells #[.bool g1, .slice A1 n1 C1, .int .i64 s1] 24)).alloc (.cells #[.bool g2, .slice A2 n2 C2, .int .i64 s2] 24)) from ((((Q.refl w).alloc (.cells #[.bool g0, .slice A0 n0 C0, .int .i64 s0] 24)).alloc (.cells #[.bool g1, .slice A1 n1 C1, .int .i64 s1] 24)).alloc (.cells #[.bool g2, .slice A2 n2 C2, .int .i64 s2] 24)))
  have B0_i0 := Lib.hid (show (((w.alloc (.cells #[.bool g0, .slice A0 n0 C0, .int .i64 s0] 24)).alloc (.cells #[.bool g1, .slice A1 n1 C1, .int .i64 s1] 24)).alloc (.cells #[.bool g2, .slice A2 n2 C2, .int .i64 s2] 24)).heap[w.heap.size]? = some (.cells #[.bool g0, .slice A0 n0 C0, .int .i64 s0] 24) from by exact (Ep.heap_three _ _ _ _).1)
  have B0_i1 := Lib.hid (show (((w.alloc (.cells #[.bool g0, .slice A0 n0 C0, .int .i64 s0] 24)).alloc (.cells #[.bool g1, .slice A1 n1 C1, .int .i64 s1] 24)).alloc (.cells #[.bool g2, .slice A2 n2 C2, .int .i64 s2] 24)).heap[w.heap.size + 1]? = some (.cells #[.bool g1, .slice A1 n1 C1, .int .i64 s1] 24) from by exact (Ep.heap_three _ _ _ _).2.1)
  have B0_i2 := Lib.hid (show (((w.alloc (.cells #[.bool g0, .slice A0 n0 C0, .int .i64 s0] 24)).alloc (.cells #[.bool g1, .slice A1 n1 C1, .int .i64 s1] 24)).alloc (.cells #[.bool g2, .slice A2 n2 C2, .int .i64 s2] 24)).heap[w.heap.size + 1 + 1]? = some (.cells #[.bool g2, .slice A2 n2 C2, .int .i64 s2] 24) from by exact (Ep.heap_three _ _ _ _).2.2)
  obtain ⟨k_i00, k_i01, k_i02, _, _, _⟩ := Er.block_cells B0_i0.out
  obtain ⟨k_i10, k_i11, k_i12, _, _, _⟩ := Er.block_cells B0_i1.out
  obtain ⟨k_i20, k_i21, k_i22, _, _, _⟩ := Er.block_cells B0_i2.out
  go_wp2_with fail
  have SQ := Lib.hid (fun u (q : Q ((((w.alloc (.cells #[.bool g0, .slice A0 n0 C0, .int .i64 s0] 24)).alloc (.cells #[.bool g1, .slice A1 n1 C1, .int .i64 s1] 24)).alloc (.cells #[.bool g2, .slice A2 n2 C2, .int .i64 s2] 24))) u) => (Ep.SB1.of B0_i0.out q : Ep.SB1 ((((w.alloc (.cells #[.bool g0, .slice A0 n0 C0, .int .i64 s0] 24)).alloc (.cells #[.bool g1, .slice A1 n1 C1, .int .i64 s1] 24)).alloc (.cells #[.bool g2, .slice A2 n2 C2, .int .i64 s2] 24))) (w.heap.size) g0 (.slice A0 n0 C0) s0 u))
  clear k_i00 k_i01 k_i02 k_i10 k_i11 k_i12 k_i20 k_i21 k_i22
  refine wp_region_held_drew (S := fun u => Ep.SB1 ((((w.alloc (.cells #[.bool g0, .slice A0 n0 C0, .int .i64 s0] 24)).alloc (.cells #[.bool g1, .slice A1 n1 C1, .int .i64 s1] 24)).alloc (.cells #[.bool g2, .slice A2 n2 C2, .int .i64 s2] 24))) (w.heap.size) g0 (.slice A0 n0 C0) s0 u) (by kernel_rfl) (by exact SQ.out _ ((Q.refl (((w.alloc (.cells #[.bool g0, .slice A0 n0 C0, .int .i64 s0] 24)).alloc (.cells #[.bool g1, .slice A1 n1 C1, .int .i64 s1] 24)).alloc (.cells #[.bool g2, .slice A2 n2 C2, .int .i64 s2] 24))).drew)) (fun hHeld => ?_)
  have hS : Ep.SB1 ((((w.alloc (.cells #[.bool g0, .slice A0 n0 C0, .int .i64 s0] 24)).alloc (.cells #[.bool g1, .slice A1 n1 C1, .int .i64 s1] 24)).alloc (.cells #[.bool g2, .slice A2 n2 C2, .int .i64 s2] 24))) (w.heap.size) g0 (.slice A0 n0 C0) s0 (((w.alloc (.cells #[.bool g0, .slice A0 n0 C0, .int .i64 s0] 24)).alloc (.cells #[.bool g1, .slice A1 n1 C1, .int .i64 s1] 24)).alloc (.cells #[.bool g2, .slice A2 n2 C2, .int .i64 s2] 24)).drew := hHeld
  clear hHeld
  generalize (((w.alloc (.cells #[.bool g0, .slice A0 n0 C0, .int .i64 s0] 24)).alloc (.cells #[.bool g1, .slice A1 n1 C1, .int .i64 s1] 24)).alloc (.cells #[.bool g2, .slice A2 n2 C2, .int .i64 s2] 24)).drew = yT7x0 at hS ⊢
  refine wpAnyH_take (i := 0) (oi := { dst := some 17, op := Op.load 24 (Operand.tmp 3), type := 24, pos := "law.go:102", after := #[], guard := none }) (v := ?vT7x1) rfl (by kernel_rfl) (by kernel_rfl) (by kernel_rfl) (fun _ _ _ h => h) (Or.inl ⟨by rfl, ?hyT7x1⟩) (by exact hS) ?rsT7x1
  case hyT7x1 => (intro w hSw; (try dsimp only at hSw); unfold Ep.SB1 at hSw; go_simp; try with_reducible rfl)
  try simp only [Act.put, List.setIfInBounds_toArray, List.set_cons_zero, List.set_cons_succ]
  refine wpAnyH_take (i := 2) (oi := { dst := some 19, op := Op.load 24 (Operand.tmp 3), type := 24, pos := "law.go:102", after := #[], guard := none }) (v := ?vT7x2) rfl (by kernel_rfl) (by kernel_rfl) (by kernel_rfl) (fun _ _ _ h => h) (Or.inl ⟨by rfl, ?hyT7x2⟩) (by exact hS) ?rsT7x2
  case hyT7x2 => (intro w hSw; (try dsimp only at hSw); unfold Ep.SB1 at hSw; go_simp; try with_reducible rfl)
  try simp only [Act.put, List.setIfInBounds_toArray, List.set_cons_zero, List.set_cons_succ]
  refine wpAnyH_ready (rs := [1]) (by kernel_rfl) (by simp) ?_
  refine (AllReadyH.cons (o := { dst := some 18, op := Op.call { callee := Callee.value (Operand.func 10), args := #[Operand.tmp 17, Operand.const (Value.int IntKind.i64 12)], argTypes := #[24, 3] }, type := 24, pos := "law.go:102", after := #[{ on := 0, ground := Ground.data }], guard := none }) rfl (fun K hK => ?_) AllReadyH.nil)
  go_simp
  refine (G0.out _ (Q0.out.trans (Ep.SB1.here hS))).mono ?_
  rintro e yT7x3 ⟨a1x, c1x, rfl, hx1, hq⟩
  try (go_wp2_with fail)
  have hS2 := SQ.out _ (Q.trans (Ep.SB1.here hS) hq)
  refine hK.out _ _ (by exact hS2) (fun hHeld => ?_)
  clear hK K hHeld hS hq
  have hS := hS2
  clear hS2
  try simp only [Act.put, List.setIfInBounds_toArray, List.set_cons_zero, List.set_cons_succ]
  refine wpAnyH_ready (rs := [3]) (by kernel_rfl) (by simp) ?_
  refine (AllReadyH.cons (o := { dst := some 20, op := Op.call { callee := Callee.value (Operand.func 11), args := #[Operand.tmp 19, Operand.const (Value.int IntKind.i64 12)], argTypes := #[24, 3] }, type := 24, pos := "law.go:102", after := #[{ on := 2, ground := Ground.data }, { on := 1, ground := Ground.chain }], guard := none }) rfl (fun K hK => ?_) AllReadyH.nil)
  go_simp
  refine (FW0.out _).mono ?_
  rintro e yT7x4 ⟨rfl, hq⟩
  try (go_wp2_with fail)
  have hx1 := Lst.q hx1 hq
  have hS2 := SQ.out _ (Q.trans (Ep.SB1.here hS) hq)
  refine hK.out _ _ (by exact hS2) (fun hHeld => ?_)
  clear hK K hHeld hS hq
  have hS := hS2
  clear hS2
  try simp only [Act.put, List.setIfInBounds_toArray, List.set_cons_zero, List.set_cons_succ]
  refine wpAnyH_ready (rs := [4]) (by kernel_rfl) (by simp) ?_
  refine (AllReadyH.cons (o := { dst := some 21, op := Op.buildSlice 46 2 #[(0, Operand.tmp 18), (1, Operand.tmp 20)], type := 46, pos := "law.go:102", after := #[{ on := 1, ground := Ground.data }, { on := 3, ground := Ground.data }], guard := none }) rfl (fun K hK => ?_) AllReadyH.nil)
  go_simp
  have hq := (Q.refl yT7x4).alloc (.cells #[.bool g0, .slice a1x p0 c1x, .int .i64 t0, .bool g0, .slice A0 q0 C0, .int .i64 s0] 24)
  have HBX := heap_alloc_new yT7x4 (.cells #[.bool g0, .slice a1x p0 c1x, .int .i64 t0, .bool g0, .slice A0 q0 C0, .int .i64 s0] 24)
  have hx1 := Lst.q hx1 hq
  have hS2 := SQ.out _ (Q.trans (Ep.SB1.here hS) hq)
  refine hK.out _ _ (by exact hS2) (fun hHeld => ?_)
  clear hK K hHeld hS hq
  have hS := hS2
  clear hS2
  generalize yT7x4.alloc (.cells #[.bool g0, .slice a1x p0 c1x, .int .i64 t0, .bool g0, .slice A0 q0 C0, .int .i64 s0] 24) = yT7x5 at *
  generalize yT7x4.heap.size = X at *
  try simp only [Act.put, List.setIfInBounds_toArray, List.set_cons_zero, List.set_cons_succ]
  refine wpAnyH_take (i := 5) (oi := { dst := some 7, op := Op.assign (Operand.tmp 21), type := 46, pos := "law.go:102", after := #[{ on := 4, ground := Ground.data }, { on := 3, ground := Ground.chain }, { on := 0, ground := Ground.phase }, { on := 1, ground := Ground.phase }, { on := 2, ground := Ground.phase }, { on := 3, ground := Ground.phase }, { on := 4, ground := Ground.phase }], guard := none }) (v := ?vT7x6) rfl (by kernel_rfl) (by kernel_rfl) (by kernel_rfl) (fun _ _ _ h => h) (Or.inl ⟨by rfl, ?hyT7x6⟩) (by exact hS) ?rsT7x6
  case hyT7x6 => (intro w hSw; (try dsimp only at hSw); unfold Ep.SB1 at hSw; go_simp; try with_reducible rfl)
  try simp only [Act.put, List.setIfInBounds_toArray, List.set_cons_zero, List.set_cons_succ]
  refine wpAnyH_done (by kernel_rfl) ?_ _
  have hqr := Ep.SB1.here hS
  have HLx := Lib.hid hx1
  have HX := Lib.hid HBX
  clear hS hx1 HBX SQ
  have B1_i0 := Lib.hid ((Q.block hqr (lt_of_block B0_i0.out)).trans B0_i0.out)
  clear B0_i0
  have B1_i1 := Lib.hid ((Q.block hqr (lt_of_block B0_i1.out)).trans B0_i1.out)
  clear B0_i1
  have B1_i2 := Lib.hid ((Q.block hqr (lt_of_block B0_i2.out)).trans B0_i2.out)
  clear B0_i2
  have Q1 := Lib.hid (Q.trans Q0.out hqr)
  clear Q0
  clear hqr
  obtain ⟨k_i00, k_i01, k_i02, _, _, _⟩ := Er.block_cells B1_i0.out
  obtain ⟨k_i10, k_i11, k_i12, _, _, _⟩ := Er.block_cells B1_i1.out
  obtain ⟨k_i20, k_i21, k_i22, _, _, _⟩ := Er.block_cells B1_i2.out
  go_wp2_with fail
  have SQ := Lib.hid (fun u (q : Q (yT7x5) u) => (Ep.SB1.of B1_i1.out q : Ep.SB1 (yT7x5) (w.heap.size + 1) g1 (.slice A1 n1 C1) s1 u))
  clear k_i00 k_i01 k_i02 k_i10 k_i11 k_i12 k_i20 k_i21 k_i22
  refine wp_region_held_drew (S := fun u => Ep.SB1 (yT7x5) (w.heap.size + 1) g1 (.slice A1 n1 C1) s1 u) (by kernel_rfl) (by exact SQ.out _ ((Q.refl yT7x5).drew)) (fun hHeld => ?_)
  have hS : Ep.SB1 (yT7x5) (w.heap.size + 1) g1 (.slice A1 n1 C1) s1 yT7x5.drew := hHeld
  clear hHeld
  generalize yT7x5.drew = yT8x0 at hS ⊢
  refine wpAnyH_take (i := 0) (oi := { dst := some 22, op := Op.load 24 (Operand.tmp 4), type := 24, pos := "law.go:103", after := #[], guard := none }) (v := ?vT8x1) rfl (by kernel_rfl) (by kernel_rfl) (by kernel_rfl) (fun _ _ _ h => h) (Or.inl ⟨by rfl, ?hyT8x1⟩) (by exact hS) ?rsT8x1
  case hyT8x1 => (intro w hSw; (try dsimp only at hSw); unfold Ep.SB1 at hSw; go_simp; try with_reducible rfl)
  try simp only [Act.put, List.setIfInBounds_toArray, List.set_cons_zero, List.set_cons_succ]
  refine wpAnyH_take (i := 2) (oi := { dst := some 24, op := Op.load 24 (Operand.tmp 4), type := 24, pos := "law.go:103", after := #[], guard := none }) (v := ?vT8x2) rfl (by kernel_rfl) (by kernel_rfl) (by kernel_rfl) (fun _ _ _ h => h) (Or.inl ⟨by rfl, ?hyT8x2⟩) (by exact hS) ?rsT8x2
  case hyT8x2 => (intro w hSw; (try dsimp only at hSw); unfold Ep.SB1 at hSw; go_simp; try with_reducible rfl)
  try simp only [Act.put, List.setIfInBounds_toArray, List.set_cons_zero, List.set_cons_succ]
  refine wpAnyH_ready (rs := [1]) (by kernel_rfl) (by simp) ?_
  refine (AllReadyH.cons (o := { dst := some 23, op := Op.call { callee := Callee.value (Operand.func 10), args := #[Operand.tmp 22, Operand.const (Value.int IntKind.i64 12)], argTypes := #[24, 3] }, type := 24, pos := "law.go:103", after := #[{ on := 0, ground := Ground.data }], guard := none }) rfl (fun K hK => ?_) AllReadyH.nil)
  go_simp
  refine (G1.out _ (Q1.out.trans (Ep.SB1.here hS))).mono ?_
  rintro e yT8x3 ⟨a1y, c1y, rfl, hx1, hq⟩
  try (go_wp2_with fail)
  have hS2 := SQ.out _ (Q.trans (Ep.SB1.here hS) hq)
  refine hK.out _ _ (by exact hS2) (fun hHeld => ?_)
  clear hK K hHeld hS hq
  have hS := hS2
  clear hS2
  try simp only [Act.put, List.setIfInBounds_toArray, List.set_cons_zero, List.set_cons_succ]
  refine wpAnyH_ready (rs := [3]) (by kernel_rfl) (by simp) ?_
  refine (AllReadyH.cons (o := { dst := some 25, op := Op.call { callee := Callee.value (Operand.func 11), args := #[Operand.tmp 24, Operand.const (Value.int IntKind.i64 12)], argTypes := #[24, 3] }, type := 24, pos := "law.go:103", after := #[{ on := 2, ground := Ground.data }, { on := 1, ground := Ground.chain }], guard := none }) rfl (fun K hK => ?_) AllReadyH.nil)
  go_simp
  refine (FW1.out _).mono ?_
  rintro e yT8x4 ⟨rfl, hq⟩
  try (go_wp2_with fail)
  have hx1 := Lst.q hx1 hq
  have hS2 := SQ.out _ (Q.trans (Ep.SB1.here hS) hq)
  refine hK.out _ _ (by exact hS2) (fun hHeld => ?_)
  clear hK K hHeld hS hq
  have hS := hS2
  clear hS2
  try simp only [Act.put, List.setIfInBounds_toArray, List.set_cons_zero, List.set_cons_succ]
  refine wpAnyH_ready (rs := [4]) (by kernel_rfl) (by simp) ?_
  refine (AllReadyH.cons (o := { dst := some 26, op := Op.buildSlice 46 2 #[(0, Operand.tmp 23), (1, Operand.tmp 25)], type := 46, pos := "law.go:103", after := #[{ on := 1, ground := Ground.data }, { on := 3, ground := Ground.data }], guard := none }) rfl (fun K hK => ?_) AllReadyH.nil)
  go_simp
  have hq := (Q.refl yT8x4).alloc (.cells #[.bool g1, .slice a1y p1 c1y, .int .i64 t1, .bool g1, .slice A1 q1 C1, .int .i64 s1] 24)
  have HBY := heap_alloc_new yT8x4 (.cells #[.bool g1, .slice a1y p1 c1y, .int .i64 t1, .bool g1, .slice A1 q1 C1, .int .i64 s1] 24)
  have hx1 := Lst.q hx1 hq
  have hS2 := SQ.out _ (Q.trans (Ep.SB1.here hS) hq)
  refine hK.out _ _ (by exact hS2) (fun hHeld => ?_)
  clear hK K hHeld hS hq
  have hS := hS2
  clear hS2
  generalize yT8x4.alloc (.cells #[.bool g1, .slice a1y p1 c1y, .int .i64 t1, .bool g1, .slice A1 q1 C1, .int .i64 s1] 24) = yT8x5 at *
  generalize yT8x4.heap.size = Y at *
  try simp only [Act.put, List.setIfInBounds_toArray, List.set_cons_zero, List.set_cons_succ]
  refine wpAnyH_take (i := 5) (oi := { dst := some 8, op := Op.assign (Operand.tmp 26), type := 46, pos := "law.go:103", after := #[{ on := 4, ground := Ground.data }, { on := 3, ground := Ground.chain }, { on := 0, ground := Ground.phase }, { on := 1, ground := Ground.phase }, { on := 2, ground := Ground.phase }, { on := 3, ground := Ground.phase }, { on := 4, ground := Ground.phase }], guard := none }) (v := ?vT8x6) rfl (by kernel_rfl) (by kernel_rfl) (by kernel_rfl) (fun _ _ _ h => h) (Or.inl ⟨by rfl, ?hyT8x6⟩) (by exact hS) ?rsT8x6
  case hyT8x6 => (intro w hSw; (try dsimp only at hSw); unfold Ep.SB1 at hSw; go_simp; try with_reducible rfl)
  try simp only [Act.put, List.setIfInBounds_toArray, List.set_cons_zero, List.set_cons_succ]
  refine wpAnyH_done (by kernel_rfl) ?_ _
  have hqr := Ep.SB1.here hS
  have HLy := Lib.hid hx1
  have HY := Lib.hid HBY
  clear hS hx1 HBY SQ
  have L2_Gx := Lib.hid (Lst.q HLx.out hqr)
  clear HLx
  have B2_i0 := Lib.hid ((Q.block hqr (lt_of_block B1_i0.out)).trans B1_i0.out)
  clear B1_i0
  have B2_i1 := Lib.hid ((Q.block hqr (lt_of_block B1_i1.out)).trans B1_i1.out)
  clear B1_i1
  have B2_i2 := Lib.hid ((Q.block hqr (lt_of_block B1_i2.out)).trans B1_i2.out)
  clear B1_i2
  have H2_X := Lib.hid ((Q.block hqr (lt_of_block HX.out)).trans HX.out)
  clear HX
  have Q2 := Lib.hid (Q.trans Q1.out hqr)
  clear Q1
  clear hqr
  obtain ⟨k_i00, k_i01, k_i02, _, _, _⟩ := Er.block_cells B2_i0.out
  obtain ⟨k_i10, k_i11, k_i12, _, _, _⟩ := Er.block_cells B2_i1.out
  obtain ⟨k_i20, k_i21, k_i22, _, _, _⟩ := Er.block_cells B2_i2.out
  go_wp2_with fail
  have SQ := Lib.hid (fun u (q : Q (yT8x5) u) => (Ep.SB1.of B2_i2.out q : Ep.SB1 (yT8x5) (w.heap.size + 1 + 1) g2 (.slice A2 n2 C2) s2 u))
  clear k_i00 k_i01 k_i02 k_i10 k_i11 k_i12 k_i20 k_i21 k_i22
  refine wp_region_held_drew (S := fun u => Ep.SB1 (yT8x5) (w.heap.size + 1 + 1) g2 (.slice A2 n2 C2) s2 u) (by kernel_rfl) (by exact SQ.out _ ((Q.refl yT8x5).drew)) (fun hHeld => ?_)
  have hS : Ep.SB1 (yT8x5) (w.heap.size + 1 + 1) g2 (.slice A2 n2 C2) s2 yT8x5.drew := hHeld
  clear hHeld
  generalize yT8x5.drew = yT9x0 at hS ⊢
  refine wpAnyH_take (i := 0) (oi := { dst := some 27, op := Op.load 24 (Operand.tmp 5), type := 24, pos := "law.go:104", after := #[], guard := none }) (v := ?vT9x1) rfl (by kernel_rfl) (by kernel_rfl) (by kernel_rfl) (fun _ _ _ h => h) (Or.inl ⟨by rfl, ?hyT9x1⟩) (by exact hS) ?rsT9x1
  case hyT9x1 => (intro w hSw; (try dsimp only at hSw); unfold Ep.SB1 at hSw; go_simp; try with_reducible rfl)
  try simp only [Act.put, List.setIfInBounds_toArray, List.set_cons_zero, List.set_cons_succ]
  refine wpAnyH_take (i := 2) (oi := { dst := some 29, op := Op.load 24 (Operand.tmp 5), type := 24, pos := "law.go:104", after := #[], guard := none }) (v := ?vT9x2) rfl (by kernel_rfl) (by kernel_rfl) (by kernel_rfl) (fun _ _ _ h => h) (Or.inl ⟨by rfl, ?hyT9x2⟩) (by exact hS) ?rsT9x2
  case hyT9x2 => (intro w hSw; (try dsimp only at hSw); unfold Ep.SB1 at hSw; go_simp; try with_reducible rfl)
  try simp only [Act.put, List.setIfInBounds_toArray, List.set_cons_zero, List.set_cons_succ]
  refine wpAnyH_ready (rs := [1]) (by kernel_rfl) (by simp) ?_
  refine (AllReadyH.cons (o := { dst := some 28, op := Op.call { callee := Callee.value (Operand.func 10), args := #[Operand.tmp 27, Operand.const (Value.int IntKind.i64 12)], argTypes := #[24, 3] }, type := 24, pos := "law.go:104", after := #[{ on := 0, ground := Ground.data }], guard := none }) rfl (fun K hK => ?_) AllReadyH.nil)
  go_simp
  refine (G2.out _ (Q2.out.trans (Ep.SB1.here hS))).mono ?_
  rintro e yT9x3 ⟨a1o, c1o, rfl, hx1, hq⟩
  try (go_wp2_with fail)
  have hS2 := SQ.out _ (Q.trans (Ep.SB1.here hS) hq)
  refine hK.out _ _ (by exact hS2) (fun hHeld => ?_)
  clear hK K hHeld hS hq
  have hS := hS2
  clear hS2
  try simp only [Act.put, List.setIfInBounds_toArray, List.set_cons_zero, List.set_cons_succ]
  refine wpAnyH_ready (rs := [3]) (by kernel_rfl) (by simp) ?_
  refine (AllReadyH.cons (o := { dst := some 30, op := Op.call { callee := Callee.value (Operand.func 11), args := #[Operand.tmp 29, Operand.const (Value.int IntKind.i64 12)], argTypes := #[24, 3] }, type := 24, pos := "law.go:104", after := #[{ on := 2, ground := Ground.data }, { on := 1, ground := Ground.chain }], guard := none }) rfl (fun K hK => ?_) AllReadyH.nil)
  go_simp
  refine (FW2.out _).mono ?_
  rintro e yT9x4 ⟨rfl, hq⟩
  try (go_wp2_with fail)
  have hx1 := Lst.q hx1 hq
  have hS2 := SQ.out _ (Q.trans (Ep.SB1.here hS) hq)
  refine hK.out _ _ (by exact hS2) (fun hHeld => ?_)
  clear hK K hHeld hS hq
  have hS := hS2
  clear hS2
  try simp only [Act.put, List.setIfInBounds_toArray, List.set_cons_zero, List.set_cons_succ]
  refine wpAnyH_ready (rs := [4]) (by kernel_rfl) (by simp) ?_
  refine (AllReadyH.cons (o := { dst := some 31, op := Op.buildSlice 46 2 #[(0, Operand.tmp 28), (1, Operand.tmp 30)], type := 46, pos := "law.go:104", after := #[{ on := 1, ground := Ground.data }, { on := 3, ground := Ground.data }], guard := none }) rfl (fun K hK => ?_) AllReadyH.nil)
  go_simp
  have hq := (Q.refl yT9x4).alloc (.cells #[.bool g2, .slice a1o p2 c1o, .int .i64 t2, .bool g2, .slice A2 q2 C2, .int .i64 s2] 24)
  have HBO := heap_alloc_new yT9x4 (.cells #[.bool g2, .slice a1o p2 c1o, .int .i64 t2, .bool g2, .slice A2 q2 C2, .int .i64 s2] 24)
  have hx1 := Lst.q hx1 hq
  have hS2 := SQ.out _ (Q.trans (Ep.SB1.here hS) hq)
  refine hK.out _ _ (by exact hS2) (fun hHeld => ?_)
  clear hK K hHeld hS hq
  have hS := hS2
  clear hS2
  generalize yT9x4.alloc (.cells #[.bool g2, .slice a1o p2 c1o, .int .i64 t2, .bool g2, .slice A2 q2 C2, .int .i64 s2] 24) = yT9x5 at *
  generalize yT9x4.heap.size = O at *
  try simp only [Act.put, List.setIfInBounds_toArray, List.set_cons_zero, List.set_cons_succ]
  refine wpAnyH_take (i := 5) (oi := { dst := some 9, op := Op.assign (Operand.tmp 31), type := 46, pos := "law.go:104", after := #[{ on := 4, ground := Ground.data }, { on := 3, ground := Ground.chain }, { on := 0, ground := Ground.phase }, { on := 1, ground := Ground.phase }, { on := 2, ground := Ground.phase }, { on := 3, ground := Ground.phase }, { on := 4, ground := Ground.phase }], guard := none }) (v := ?vT9x6) rfl (by kernel_rfl) (by kernel_rfl) (by kernel_rfl) (fun _ _ _ h => h) (Or.inl ⟨by rfl, ?hyT9x6⟩) (by exact hS) ?rsT9x6
  case hyT9x6 => (intro w hSw; (try dsimp only at hSw); unfold Ep.SB1 at hSw; go_simp; try with_reducible rfl)
  try simp only [Act.put, List.setIfInBounds_toArray, List.set_cons_zero, List.set_cons_succ]
  refine wpAnyH_done (by kernel_rfl) ?_ _
  have hqr := Ep.SB1.here hS
  have HLo := Lib.hid hx1
  have HO := Lib.hid HBO
  clear hS hx1 HBO SQ
  have L3_Gx := Lib.hid (Lst.q L2_Gx.out hqr)
  clear L2_Gx
  have L3_Gy := Lib.hid (Lst.q HLy.out hqr)
  clear HLy
  have B3_i0 := Lib.hid ((Q.block hqr (lt_of_block B2_i0.out)).trans B2_i0.out)
  clear B2_i0
  have B3_i1 := Lib.hid ((Q.block hqr (lt_of_block B2_i1.out)).trans B2_i1.out)
  clear B2_i1
  have B3_i2 := Lib.hid ((Q.block hqr (lt_of_block B2_i2.out)).trans B2_i2.out)
  clear B2_i2
  have H3_X := Lib.hid ((Q.block hqr (lt_of_block H2_X.out)).trans H2_X.out)
  clear H2_X
  have H3_Y := Lib.hid ((Q.block hqr (lt_of_block HY.out)).trans HY.out)
  clear HY
  have Q3 := Lib.hid (Q.trans Q2.out hqr)
  clear Q2
  clear hqr
  go_wp2_with fail
  have HR02 := Lib.hid (HR0.out.q Q3.out)
  have HG0 := Lib.hid L3_Gx.out
  have HR12 := Lib.hid (HR1.out.q Q3.out)
  have HG1 := Lib.hid L3_Gy.out
  have HR22 := Lib.hid (HR2.out.q Q3.out)
  have HG2 := Lib.hid HLo.out
  have hel : ∀ i : Nat, i < 2 → ∃ a n c s L b m d t M e0 o f0 r N gr Z sr er, (∀ u : World, u.heap[X]? = some (.cells #[.bool g0, .slice a1x p0 c1x, .int .i64 t0, .bool g0, .slice A0 q0 C0, .int .i64 s0] 24) → u.cell? ⟨X, i * 3, none⟩ = some (.bool g0) ∧ u.cell? ⟨X, i * 3 + 1, none⟩ = some (.slice a n c) ∧ u.cell? ⟨X, i * 3 + 2, none⟩ = some (.int .i64 s)) ∧ (∀ u : World, u.heap[Y]? = some (.cells #[.bool g1, .slice a1y p1 c1y, .int .i64 t1, .bool g1, .slice A1 q1 C1, .int .i64 s1] 24) → u.cell? ⟨Y, i * 3, none⟩ = some (.bool g1) ∧ u.cell? ⟨Y, i * 3 + 1, none⟩ = some (.slice b m d) ∧ u.cell? ⟨Y, i * 3 + 2, none⟩ = some (.int .i64 t)) ∧ (∀ u : World, u.heap[O]? = some (.cells #[.bool g2, .slice a1o p2 c1o, .int .i64 t2, .bool g2, .slice A2 q2 C2, .int .i64 s2] 24) → u.cell? ⟨O, i * 3, none⟩ = some (.bool g2) ∧ u.cell? ⟨O, i * 3 + 1, none⟩ = some (.slice e0 o f0) ∧ u.cell? ⟨O, i * 3 + 2, none⟩ = some (.int .i64 r)) ∧ Lst yT9x5 (.slice a n c) L ∧ Lst yT9x5 (.slice b m d) M ∧ Lst yT9x5 (.slice e0 o f0) N ∧
      Rl.R4 26 g0 s L g1 t M g2 r N gr Z sr er ∧ Rl.R4 27 g0 s L g1 t M g2 r N gr Z sr er ∧ Z.length < 9000 ∧ (er ≠ 0 ∨ (er = 0 ∧ Rl.R4 26 gr sr Z g1 t M g2 r N gr Z sr 0)) := by
    intro i hi
    obtain ⟨x1, x2, x3, x4, f1, f2, f3, f4⟩ := AL0.out
    obtain ⟨y1, y2, y3, y4, k1, k2, k3, k4⟩ := AL1.out
    rcases (show i = 0 ∨ i = 1 from by omega) with rfl | rfl
    · exact ⟨_, _, _, _, _, _, _, _, _, _, _, _, _, _, _, _, _, _, _, fun u h => ⟨by simp [World.cell?, h], by simp [World.cell?, h], by simp [World.cell?, h]⟩, fun u h => ⟨by simp [World.cell?, h], by simp [World.cell?, h], by simp [World.cell?, h]⟩, fun u h => ⟨by simp [World.cell?, h], by simp [World.cell?, h], by simp [World.cell?, h]⟩, HG0.out, HG1.out, HG2.out, f1, f2, f3, f4⟩
    · exact ⟨_, _, _, _, _, _, _, _, _, _, _, _, _, _, _, _, _, _, _, fun u h => ⟨by simp [World.cell?, h], by simp [World.cell?, h], by simp [World.cell?, h]⟩, fun u h => ⟨by simp [World.cell?, h], by simp [World.cell?, h], by simp [World.cell?, h]⟩, fun u h => ⟨by simp [World.cell?, h], by simp [World.cell?, h], by simp [World.cell?, h]⟩, HR02.out, HR12.out, HR22.out, k1, k2, k3, k4⟩
  have HEL := Lib.hid hel
  clear hel AL0 AL1 HR02 HR12 HR22 HG0 HG1 HG2 HR0 HR1 HR2 G0 G1 G2 FW0 FW1 FW2
  go_loopw [10] (fun iv wr => ∃ i : Nat, iv = .int .i64 i ∧ i ≤ 2 ∧ wr.heap[X]? = some (.cells #[.bool g0, .slice a1x p0 c1x, .int .i64 t0, .bool g0, .slice A0 q0 C0, .int .i64 s0] 24) ∧ wr.heap[Y]? = some (.cells #[.bool g1, .slice a1y p1 c1y, .int .i64 t1, .bool g1, .slice A1 q1 C1, .int .i64 s1] 24) ∧ wr.heap[O]? = some (.cells #[.bool g2, .slice a1o p2 c1o, .int .i64 t2, .bool g2, .slice A2 q2 C2, .int .i64 s2] 24) ∧ Q yT9x5 wr) (fun iv _ => 2 - (intOf iv).toNat)
  case atStart => exact ⟨0, rfl, by omega, H3_X.out, H3_Y.out, HO.out, Q.refl _⟩
  case round =>
    obtain ⟨i, rfl, hi, hb0, hb1, hb2, hq⟩ := hrel
    by_cases hlt : i < 2
    · have HBX := Lib.hid hb0
      have HBY := Lib.hid hb1
      have HBO := Lib.hid hb2
      have QR := Lib.hid hq
      clear hb0 hb1 hb2 hq
      obtain ⟨a, n, c, s, L, b, m, d, t, M, e0, o, f0, r, N, gr, Z, sr, er, hcx, hcy, hco, hl, hm, hn, pa, ra, hz, hback⟩ := HEL.out i hlt
      obtain ⟨z, hze⟩ : ∃ z, Z.length = z := ⟨_, rfl⟩
      unfold Rl.R4 at pa ra hback
      simp only [hze] at pa ra hback
      have CX := Lib.hid hcx
      have CY := Lib.hid hcy
      have CO := Lib.hid hco
      have HL := Lib.hid (hl.q QR.out)
      have HM := Lib.hid (hm.q QR.out)
      have HN := Lib.hid (hn.q QR.out)
      have PA := Lib.hid pa
      have RA := Lib.hid ra
      have SM := fun u a b c d h1 h2 => Ep.same_sh u gr a b Z.length c d sr Z h1 h2 (by omega)
      simp only [hze] at SM
      have HSM := Lib.hid SM
      have HBK := Lib.hid hback
      have hlti : (i : Int) < 2 := by omega
      clear hcx hcy hco hl hm hn pa ra hz hze hback SM
      have SQ := Lib.hid (fun u (q : Q wr u) => (by
        obtain ⟨x0, x1, x2⟩ := CX.out u ((Q.block q (lt_of_block HBX.out)).trans HBX.out)
        obtain ⟨x3, x4, x5⟩ := CY.out u ((Q.block q (lt_of_block HBY.out)).trans HBY.out)
        obtain ⟨x6, x7, x8⟩ := CO.out u ((Q.block q (lt_of_block HBO.out)).trans HBO.out)
        exact ⟨x0, x1, x2, x3, x4, x5, x6, x7, x8, q⟩ : Rl.SU wr X Y O i g0 (.slice a n c) s g1 (.slice b m d) t g2 (.slice e0 o f0) r u))
      go_upto_region 7 with fail
      go_cut [11, 12] from 32 to 106 (fun p e wx => ∃ b9 a9 c9, p = .pointer (some ⟨b9, 0, none⟩) ∧ e = .int .i64 er ∧ wx.heap[b9]? = some (.cells #[.bool gr, .slice a9 z c9, .int .i64 sr] 27) ∧ Lst wx (.slice a9 z c9) Z ∧ Q wr wx)
      case first =>
        refine wp_region_held_drew (S := fun u => Rl.SU wr X Y O i g0 (.slice a n c) s g1 (.slice b m d) t g2 (.slice e0 o f0) r u) (by kernel_rfl) (by exact SQ.out _ ((Q.refl wr).drew)) (fun hHeld => ?_)
        have hS : Rl.SU wr X Y O i g0 (.slice a n c) s g1 (.slice b m d) t g2 (.slice e0 o f0) r wr.drew := hHeld
        clear hHeld
        generalize wr.drew = yT10x0 at hS ⊢
        refine wpAnyH_take (i := 0) (oi := { dst := some 37, op := Op.move (Operand.tmp 7), type := 46, pos := "law.go:106", after := #[], guard := none }) (v := ?vT10x1) rfl (by kernel_rfl) (by kernel_rfl) (by kernel_rfl) (fun _ _ _ h => h) (Or.inl ⟨by rfl, ?hyT10x1⟩) (by exact hS) ?rsT10x1
        case hyT10x1 => (intro w hSw; (try dsimp only at hSw); unfold Rl.SU at hSw; go_simp; try with_reducible rfl)
        try simp only [Act.put, List.setIfInBounds_toArray, List.set_cons_zero, List.set_cons_succ]
        refine wpAnyH_take (i := 1) (oi := { dst := some 38, op := Op.move (Operand.tmp 10), type := 3, pos := "law.go:106", after := #[], guard := none }) (v := ?vT10x2) rfl (by kernel_rfl) (by kernel_rfl) (by kernel_rfl) (fun _ _ _ h => h) (Or.inl ⟨by rfl, ?hyT10x2⟩) (by exact hS) ?rsT10x2
        case hyT10x2 => (intro w hSw; (try dsimp only at hSw); unfold Rl.SU at hSw; go_simp; try with_reducible rfl)
        try simp only [Act.put, List.setIfInBounds_toArray, List.set_cons_zero, List.set_cons_succ]
        refine wpAnyH_take (i := 2) (oi := { dst := some 39, op := Op.indexAddr 46 (Operand.tmp 37) (Operand.tmp 38), type := 0, pos := "law.go:106", after := #[{ on := 0, ground := Ground.data }, { on := 1, ground := Ground.data }], guard := none }) (v := ?vT10x3) rfl (by kernel_rfl) (by kernel_rfl) (by kernel_rfl) (fun _ _ _ h => h) (Or.inl ⟨by rfl, ?hyT10x3⟩) (by exact hS) ?rsT10x3
        case hyT10x3 => (intro w hSw; (try dsimp only at hSw); unfold Rl.SU at hSw; go_simp; try with_reducible rfl)
        try simp only [Act.put, List.setIfInBounds_toArray, List.set_cons_zero, List.set_cons_succ]
        refine wpAnyH_take (i := 3) (oi := { dst := some 40, op := Op.load 24 (Operand.tmp 39), type := 24, pos := "law.go:106", after := #[{ on := 2, ground := Ground.data }], guard := none }) (v := ?vT10x4) rfl (by kernel_rfl) (by kernel_rfl) (by kernel_rfl) (fun _ _ _ h => h) (Or.inl ⟨by rfl, ?hyT10x4⟩) (by exact hS) ?rsT10x4
        case hyT10x4 => (intro w hSw; (try dsimp only at hSw); unfold Rl.SU at hSw; go_simp; try with_reducible rfl)
        try simp only [Act.put, List.setIfInBounds_toArray, List.set_cons_zero, List.set_cons_succ]
        refine wpAnyH_take (i := 5) (oi := { dst := some 42, op := Op.move (Operand.tmp 8), type := 46, pos := "law.go:106", after := #[], guard := none }) (v := ?vT10x5) rfl (by kernel_rfl) (by kernel_rfl) (by kernel_rfl) (fun _ _ _ h => h) (Or.inl ⟨by rfl, ?hyT10x5⟩) (by exact hS) ?rsT10x5
        case hyT10x5 => (intro w hSw; (try dsimp only at hSw); unfold Rl.SU at hSw; go_simp; try with_reducible rfl)
        try simp only [Act.put, List.setIfInBounds_toArray, List.set_cons_zero, List.set_cons_succ]
        refine wpAnyH_take (i := 6) (oi := { dst := some 43, op := Op.move (Operand.tmp 10), type := 3, pos := "law.go:106", after := #[], guard := none }) (v := ?vT10x6) rfl (by kernel_rfl) (by kernel_rfl) (by kernel_rfl) (fun _ _ _ h => h) (Or.inl ⟨by rfl, ?hyT10x6⟩) (by exact hS) ?rsT10x6
        case hyT10x6 => (intro w hSw; (try dsimp only at hSw); unfold Rl.SU at hSw; go_simp; try with_reducible rfl)
        try simp only [Act.put, List.setIfInBounds_toArray, List.set_cons_zero, List.set_cons_succ]
        refine wpAnyH_take (i := 7) (oi := { dst := some 44, op := Op.indexAddr 46 (Operand.tmp 42) (Operand.tmp 43), type := 0, pos := "law.go:106", after := #[{ on := 5, ground := Ground.data }, { on := 6, ground := Ground.data }], guard := none }) (v := ?vT10x7) rfl (by kernel_rfl) (by kernel_rfl) (by kernel_rfl) (fun _ _ _ h => h) (Or.inl ⟨by rfl, ?hyT10x7⟩) (by exact hS) ?rsT10x7
        case hyT10x7 => (intro w hSw; (try dsimp only at hSw); unfold Rl.SU at hSw; go_simp; try with_reducible rfl)
        try simp only [Act.put, List.setIfInBounds_toArray, List.set_cons_zero, List.set_cons_succ]
        refine wpAnyH_take (i := 8) (oi := { dst := some 45, op := Op.load 24 (Operand.tmp 44), type := 24, pos := "law.go:106", after := #[{ on := 7, ground := Ground.data }], guard := none }) (v := ?vT10x8) rfl (by kernel_rfl) (by kernel_rfl) (by kernel_rfl) (fun _ _ _ h => h) (Or.inl ⟨by rfl, ?hyT10x8⟩) (by exact hS) ?rsT10x8
        case hyT10x8 => (intro w hSw; (try dsimp only at hSw); unfold Rl.SU at hSw; go_simp; try with_reducible rfl)
        try simp only [Act.put, List.setIfInBounds_toArray, List.set_cons_zero, List.set_cons_succ]
        refine wpAnyH_take (i := 10) (oi := { dst := some 47, op := Op.move (Operand.tmp 9), type := 46, pos := "law.go:106", after := #[], guard := none }) (v := ?vT10x9) rfl (by kernel_rfl) (by kernel_rfl) (by kernel_rfl) (fun _ _ _ h => h) (Or.inl ⟨by rfl, ?hyT10x9⟩) (by exact hS) ?rsT10x9
        case hyT10x9 => (intro w hSw; (try dsimp only at hSw); unfold Rl.SU at hSw; go_simp; try with_reducible rfl)
        try simp only [Act.put, List.setIfInBounds_toArray, List.set_cons_zero, List.set_cons_succ]
        refine wpAnyH_take (i := 11) (oi := { dst := some 48, op := Op.move (Operand.tmp 10), type := 3, pos := "law.go:106", after := #[], guard := none }) (v := ?vT10x10) rfl (by kernel_rfl) (by kernel_rfl) (by kernel_rfl) (fun _ _ _ h => h) (Or.inl ⟨by rfl, ?hyT10x10⟩) (by exact hS) ?rsT10x10
        case hyT10x10 => (intro w hSw; (try dsimp only at hSw); unfold Rl.SU at hSw; go_simp; try with_reducible rfl)
        try simp only [Act.put, List.setIfInBounds_toArray, List.set_cons_zero, List.set_cons_succ]
        refine wpAnyH_take (i := 12) (oi := { dst := some 49, op := Op.indexAddr 46 (Operand.tmp 47) (Operand.tmp 48), type := 0, pos := "law.go:106", after := #[{ on := 10, ground := Ground.data }, { on := 11, ground := Ground.data }], guard := none }) (v := ?vT10x11) rfl (by kernel_rfl) (by kernel_rfl) (by kernel_rfl) (fun _ _ _ h => h) (Or.inl ⟨by rfl, ?hyT10x11⟩) (by exact hS) ?rsT10x11
        case hyT10x11 => (intro w hSw; (try dsimp only at hSw); unfold Rl.SU at hSw; go_simp; try with_reducible rfl)
        try simp only [Act.put, List.setIfInBounds_toArray, List.set_cons_zero, List.set_cons_succ]
        refine wpAnyH_take (i := 13) (oi := { dst := some 50, op := Op.load 24 (Operand.tmp 49), type := 24, pos := "law.go:106", after := #[{ on := 12, ground := Ground.data }], guard := none }) (v := ?vT10x12) rfl (by kernel_rfl) (by kernel_rfl) (by kernel_rfl) (fun _ _ _ h => h) (Or.inl ⟨by rfl, ?hyT10x12⟩) (by exact hS) ?rsT10x12
        case hyT10x12 => (intro w hSw; (try dsimp only at hSw); unfold Rl.SU at hSw; go_simp; try with_reducible rfl)
        try simp only [Act.put, List.setIfInBounds_toArray, List.set_cons_zero, List.set_cons_succ]
        refine wpAnyH_ready (rs := [4, 19]) (by kernel_rfl) (by simp) ?_
        refine (AllReadyH.cons (o := { dst := some 41, op := Op.call { callee := Callee.value (Operand.func 14), args := #[Operand.tmp 40], argTypes := #[24] }, type := 27, pos := "law.go:106", after := #[{ on := 3, ground := Ground.data }], guard := none }) rfl (fun K hK => ?_) (AllReadyH.cons (o := { dst := some 11, op := Op.alloc 27, type := 0, pos := "law.go:106", after := #[], guard := none }) rfl (fun K hK => ?_) AllReadyH.nil))
        · go_simp
          refine (Rl.of_sh _ _ _ _ _ _).mono ?_
          rintro e yT10x13 ⟨rfl, hq⟩
          try (go_wp2_with fail)
          have hS2 := SQ.out _ (Q.trans (Rl.SU.here hS) hq)
          refine hK.out _ _ (by exact hS2) (fun hHeld => ?_)
          clear hK K hHeld hS hq
          have hS := hS2
          clear hS2
          try simp only [Act.put, List.setIfInBounds_toArray, List.set_cons_zero, List.set_cons_succ]
          refine wpAnyH_ready (rs := [9, 19]) (by kernel_rfl) (by simp) ?_
          refine (AllReadyH.cons (o := { dst := some 46, op := Op.call { callee := Callee.value (Operand.func 14), args := #[Operand.tmp 45], argTypes := #[24] }, type := 27, pos := "law.go:106", after := #[{ on := 8, ground := Ground.data }, { on := 4, ground := Ground.chain }], guard := none }) rfl (fun K hK => ?_) (AllReadyH.cons (o := { dst := some 11, op := Op.alloc 27, type := 0, pos := "law.go:106", after := #[], guard := none }) rfl (fun K hK => ?_) AllReadyH.nil))
          · go_simp
            refine (Rl.of_sh _ _ _ _ _ _).mono ?_
            rintro e yT10x14 ⟨rfl, hq⟩
            try (go_wp2_with fail)
            have hS2 := SQ.out _ (Q.trans (Rl.SU.here hS) hq)
            refine hK.out _ _ (by exact hS2) (fun hHeld => ?_)
            clear hK K hHeld hS hq
            have hS := hS2
            clear hS2
            try simp only [Act.put, List.setIfInBounds_toArray, List.set_cons_zero, List.set_cons_succ]
            refine wpAnyH_ready (rs := [14, 19]) (by kernel_rfl) (by simp) ?_
            refine (AllReadyH.cons (o := { dst := some 51, op := Op.call { callee := Callee.value (Operand.func 14), args := #[Operand.tmp 50], argTypes := #[24] }, type := 27, pos := "law.go:106", after := #[{ on := 13, ground := Ground.data }, { on := 9, ground := Ground.chain }], guard := none }) rfl (fun K hK => ?_) (AllReadyH.cons (o := { dst := some 11, op := Op.alloc 27, type := 0, pos := "law.go:106", after := #[], guard := none }) rfl (fun K hK => ?_) AllReadyH.nil))
            · go_simp
              refine (Rl.of_sh _ _ _ _ _ _).mono ?_
              rintro e yT10x15 ⟨rfl, hq⟩
              try (go_wp2_with fail)
              have hS2 := SQ.out _ (Q.trans (Rl.SU.here hS) hq)
              refine hK.out _ _ (by exact hS2) (fun hHeld => ?_)
              clear hK K hHeld hS hq
              have hS := hS2
              clear hS2
              try simp only [Act.put, List.setIfInBounds_toArray, List.set_cons_zero, List.set_cons_succ]
              refine wpAnyH_ready (rs := [15, 19]) (by kernel_rfl) (by simp) ?_
              refine (AllReadyH.cons (o := { dst := some 52, op := Op.call { callee := Callee.value (Operand.func 26), args := #[Operand.tmp 41, Operand.tmp 46, Operand.tmp 51], argTypes := #[27, 27, 27] }, type := 29, pos := "law.go:106", after := #[{ on := 4, ground := Ground.data }, { on := 9, ground := Ground.data }, { on := 14, ground := Ground.data }, { on := 14, ground := Ground.chain }], guard := none }) rfl (fun K hK => ?_) (AllReadyH.cons (o := { dst := some 11, op := Op.alloc 27, type := 0, pos := "law.go:106", after := #[], guard := none }) rfl (fun K hK => ?_) AllReadyH.nil))
              · go_simp
                refine (PA.out _ _ _ _ (HL.out.q (Rl.SU.here hS)) (HM.out.q (Rl.SU.here hS)) (HN.out.q (Rl.SU.here hS))).mono ?_
                rintro e yT10x16 ⟨a9, c9, rfl, hx9, hq⟩
                try (go_wp2_with fail)
                have hlf := hx9
                have hx9 := Rr.lf_lst hlf
                clear hlf
                have hS2 := SQ.out _ (Q.trans (Rl.SU.here hS) hq)
                refine hK.out _ _ (by exact hS2) (fun hHeld => ?_)
                clear hK K hHeld hS hq
                have hS := hS2
                clear hS2
                try simp only [Act.put, List.setIfInBounds_toArray, List.set_cons_zero, List.set_cons_succ]
                refine wpAnyH_take (i := 16) (oi := { dst := some 36, op := Op.move (Operand.tmp 52), type := 29, pos := "law.go:106", after := #[{ on := 15, ground := Ground.data }], guard := none }) (v := ?vT10x17) rfl (by kernel_rfl) (by kernel_rfl) (by kernel_rfl) (fun _ _ _ h => h) (Or.inl ⟨by rfl, ?hyT10x17⟩) (by exact hS) ?rsT10x17
                case hyT10x17 => (intro w hSw; (try dsimp only at hSw); unfold Rl.SU at hSw; go_simp; try with_reducible rfl)
                try simp only [Act.put, List.setIfInBounds_toArray, List.set_cons_zero, List.set_cons_succ]
                refine wpAnyH_take (i := 17) (oi := { dst := some 53, op := Op.extract (Operand.tmp 36) 0, type := 27, pos := "law.go:106", after := #[{ on := 16, ground := Ground.data }], guard := none }) (v := ?vT10x18) rfl (by kernel_rfl) (by kernel_rfl) (by kernel_rfl) (fun _ _ _ h => h) (Or.inl ⟨by rfl, ?hyT10x18⟩) (by exact hS) ?rsT10x18
                case hyT10x18 => (intro w hSw; (try dsimp only at hSw); unfold Rl.SU at hSw; go_simp; try with_reducible rfl)
                try simp only [Act.put, List.setIfInBounds_toArray, List.set_cons_zero, List.set_cons_succ]
                refine wpAnyH_take (i := 18) (oi := { dst := some 54, op := Op.extract (Operand.tmp 36) 1, type := 28, pos := "law.go:106", after := #[{ on := 16, ground := Ground.data }, { on := 20, ground := Ground.gcOnly Departure.lateStores }], guard := none }) (v := ?vT10x19) rfl (by kernel_rfl) (by kernel_rfl) (by kernel_rfl) (fun _ _ _ h => h) (Or.inl ⟨by rfl, ?hyT10x19⟩) (by exact hS) ?rsT10x19
                case hyT10x19 => (intro w hSw; (try dsimp only at hSw); unfold Rl.SU at hSw; go_simp; try with_reducible rfl)
                try simp only [Act.put, List.setIfInBounds_toArray, List.set_cons_zero, List.set_cons_succ]
                refine wpAnyH_ready (rs := [19]) (by kernel_rfl) (by simp) ?_
                refine (AllReadyH.cons (o := { dst := some 11, op := Op.alloc 27, type := 0, pos := "law.go:106", after := #[], guard := none }) rfl (fun K hK => ?_) AllReadyH.nil)
                go_simp
                have hq := (Q.refl yT10x16).alloc (.cells #[.bool false, .slice none 0 0, .int .i64 0] 27)
                have hB := heap_alloc_new yT10x16 (.cells #[.bool false, .slice none 0 0, .int .i64 0] 27)
                have hbu : yT10x16.heap.size < (yT10x16.alloc (.cells #[.bool false, .slice none 0 0, .int .i64 0] 27)).heap.size := by rw [World.size_alloc]; omega
                have hWb := (Rl.SU.here hS).le
                have hne_hx9 : ∀ (a : Addr) (n c : Nat), (.slice a9 z c9 : Value) = .slice (some a) n c → n ≠ 0 → a.block ≠ yT10x16.heap.size := fun a n c h1 h2 => Nat.ne_of_lt (Lst.old hx9 a n c h1 h2)
                have hx9 := Lst.q hx9 hq
                have hS2 := SQ.out _ (Q.trans (Rl.SU.here hS) hq)
                refine hK.out _ _ (by exact hS2) (fun hHeld => ?_)
                clear hK K hHeld hS hq
                have hS := hS2
                clear hS2
                generalize yT10x16.alloc (.cells #[.bool false, .slice none 0 0, .int .i64 0] 27) = yT10x20 at *
                generalize yT10x16.heap.size = b9 at *
                have hne := hne_hx9
                try simp only [Act.put, List.setIfInBounds_toArray, List.set_cons_zero, List.set_cons_succ]
                refine wpAnyH_ready (rs := [20]) (by kernel_rfl) (by simp) ?_
                refine (AllReadyH.cons (o := { dst := none, op := Op.store 27 (Operand.tmp 11) (Operand.tmp 53), type := 0, pos := "law.go:106", after := #[{ on := 19, ground := Ground.data }, { on := 17, ground := Ground.data }, { on := 15, ground := Ground.chain }, { on := 0, ground := Ground.phase }, { on := 1, ground := Ground.phase }, { on := 2, ground := Ground.phase }, { on := 3, ground := Ground.phase }, { on := 4, ground := Ground.phase }, { on := 5, ground := Ground.phase }, { on := 6, ground := Ground.phase }, { on := 7, ground := Ground.phase }, { on := 8, ground := Ground.phase }, { on := 9, ground := Ground.phase }, { on := 10, ground := Ground.phase }, { on := 11, ground := Ground.phase }, { on := 12, ground := Ground.phase }, { on := 13, ground := Ground.phase }, { on := 14, ground := Ground.phase }, { on := 15, ground := Ground.phase }, { on := 16, ground := Ground.phase }, { on := 17, ground := Ground.phase }, { on := 18, ground := Ground.textOnly Departure.lateStores }, { on := 19, ground := Ground.phase }], guard := none }) rfl (fun K hK => ?_) AllReadyH.nil)
                obtain ⟨f0, f1, f2, f3, f4, f5⟩ := Er.block_cells hB
                have hset := Er.block_set (x' := .bool gr) (y' := .slice a9 z c9) (z' := .int .i64 sr) hB
                have hqW := ((Q.setCell (Q.setCell (Q.setCell (Rl.SU.here hS) (ad := ⟨b9, 0, none⟩) hWb (.bool gr)) (ad := ⟨b9, 1, none⟩) hWb (.slice a9 z c9)) (ad := ⟨b9, 2, none⟩) hWb (.int .i64 sr)))
                have hl := Lst.setCell (Lst.setCell (Lst.setCell hx9 (ad := ⟨b9, 0, none⟩) (.bool gr) hne) (ad := ⟨b9, 1, none⟩) (.slice a9 z c9) hne) (ad := ⟨b9, 2, none⟩) (.int .i64 sr) hne
                go_simp
                have hS2 := SQ.out _ hqW
                refine hK.out _ _ (by exact hS2) (fun hHeld => ?_)
                clear hK K hHeld hS
                have hS := hS2
                clear hS2 f0 f1 f2 f3 f4 f5
                try simp only [Act.put, List.setIfInBounds_toArray, List.set_cons_zero, List.set_cons_succ]
                refine wpAnyH_take (i := 21) (oi := { dst := some 12, op := Op.assign (Operand.tmp 54), type := 28, pos := "law.go:106", after := #[{ on := 18, ground := Ground.data }, { on := 20, ground := Ground.chain }, { on := 0, ground := Ground.phase }, { on := 1, ground := Ground.phase }, { on := 2, ground := Ground.phase }, { on := 3, ground := Ground.phase }, { on := 4, ground := Ground.phase }, { on := 5, ground := Ground.phase }, { on := 6, ground := Ground.phase }, { on := 7, ground := Ground.phase }, { on := 8, ground := Ground.phase }, { on := 9, ground := Ground.phase }, { on := 10, ground := Ground.phase }, { on := 11, ground := Ground.phase }, { on := 12, ground := Ground.phase }, { on := 13, ground := Ground.phase }, { on := 14, ground := Ground.phase }, { on := 15, ground := Ground.phase }, { on := 16, ground := Ground.phase }, { on := 17, ground := Ground.phase }, { on := 18, ground := Ground.phase }, { on := 19, ground := Ground.phase }, { on := 20, ground := Ground.phase }], guard := none }) (v := ?vT10x22) rfl (by kernel_rfl) (by kernel_rfl) (by kernel_rfl) (fun _ _ _ h => h) (Or.inl ⟨by rfl, ?hyT10x22⟩) (by exact hS) ?rsT10x22
                case hyT10x22 => (intro w hSw; (try dsimp only at hSw); unfold Rl.SU at hSw; go_simp; try with_reducible rfl)
                try simp only [Act.put, List.setIfInBounds_toArray, List.set_cons_zero, List.set_cons_succ]
                refine wpAnyH_done (by kernel_rfl) ?_ _
                go_wp2_with fail
                go_meet
                exact ⟨b9, a9, c9, rfl, rfl, hset, hl, hqW⟩
              · go_simp
                have hq := (Q.refl yT10x15).alloc (.cells #[.bool false, .slice none 0 0, .int .i64 0] 27)
                have hB := heap_alloc_new yT10x15 (.cells #[.bool false, .slice none 0 0, .int .i64 0] 27)
                have hbu : yT10x15.heap.size < (yT10x15.alloc (.cells #[.bool false, .slice none 0 0, .int .i64 0] 27)).heap.size := by rw [World.size_alloc]; omega
                have hWb := (Rl.SU.here hS).le
                have hS2 := SQ.out _ (Q.trans (Rl.SU.here hS) hq)
                refine hK.out _ _ (by exact hS2) (fun hHeld => ?_)
                clear hK K hHeld hS hq
                have hS := hS2
                clear hS2
                generalize yT10x15.alloc (.cells #[.bool false, .slice none 0 0, .int .i64 0] 27) = yT10x23 at *
                generalize yT10x15.heap.size = b9 at *
                try simp only [Act.put, List.setIfInBounds_toArray, List.set_cons_zero, List.set_cons_succ]
                refine wpAnyH_ready (rs := [15]) (by kernel_rfl) (by simp) ?_
                refine (AllReadyH.cons (o := { dst := some 52, op := Op.call { callee := Callee.value (Operand.func 26), args := #[Operand.tmp 41, Operand.tmp 46, Operand.tmp 51], argTypes := #[27, 27, 27] }, type := 29, pos := "law.go:106", after := #[{ on := 4, ground := Ground.data }, { on := 9, ground := Ground.data }, { on := 14, ground := Ground.data }, { on := 14, ground := Ground.chain }], guard := none }) rfl (fun K hK => ?_) AllReadyH.nil)
                go_simp
                refine (PA.out _ _ _ _ (HL.out.q (Rl.SU.here hS)) (HM.out.q (Rl.SU.here hS)) (HN.out.q (Rl.SU.here hS))).mono ?_
                rintro e yT10x24 ⟨a9, c9, rfl, hx9, hq⟩
                try (go_wp2_with fail)
                have hB := (Q.block hq (lt_of_block hB)).trans hB
                have hlf := hx9
                have hx9 := Rr.lf_lst hlf
                have hne : ∀ (a : Addr) (n c : Nat), (.slice a9 z c9 : Value) = .slice (some a) n c → n ≠ 0 → a.block ≠ b9 := Rr.lf_ne hlf hbu
                clear hlf
                have hS2 := SQ.out _ (Q.trans (Rl.SU.here hS) hq)
                have hbu := Nat.lt_of_lt_of_le hbu hq.le
                refine hK.out _ _ (by exact hS2) (fun hHeld => ?_)
                clear hK K hHeld hS hq
                have hS := hS2
                clear hS2
                try simp only [Act.put, List.setIfInBounds_toArray, List.set_cons_zero, List.set_cons_succ]
                refine wpAnyH_take (i := 16) (oi := { dst := some 36, op := Op.move (Operand.tmp 52), type := 29, pos := "law.go:106", after := #[{ on := 15, ground := Ground.data }], guard := none }) (v := ?vT10x25) rfl (by kernel_rfl) (by kernel_rfl) (by kernel_rfl) (fun _ _ _ h => h) (Or.inl ⟨by rfl, ?hyT10x25⟩) (by exact hS) ?rsT10x25
                case hyT10x25 => (intro w hSw; (try dsimp only at hSw); unfold Rl.SU at hSw; go_simp; try with_reducible rfl)
                try simp only [Act.put, List.setIfInBounds_toArray, List.set_cons_zero, List.set_cons_succ]
                refine wpAnyH_take (i := 17) (oi := { dst := some 53, op := Op.extract (Operand.tmp 36) 0, type := 27, pos := "law.go:106", after := #[{ on := 16, ground := Ground.data }], guard := none }) (v := ?vT10x26) rfl (by kernel_rfl) (by kernel_rfl) (by kernel_rfl) (fun _ _ _ h => h) (Or.inl ⟨by rfl, ?hyT10x26⟩) (by exact hS) ?rsT10x26
                case hyT10x26 => (intro w hSw; (try dsimp only at hSw); unfold Rl.SU at hSw; go_simp; try with_reducible rfl)
                try simp only [Act.put, List.setIfInBounds_toArray, List.set_cons_zero, List.set_cons_succ]
                refine wpAnyH_take (i := 18) (oi := { dst := some 54, op := Op.extract (Operand.tmp 36) 1, type := 28, pos := "law.go:106", after := #[{ on := 16, ground := Ground.data }, { on := 20, ground := Ground.gcOnly Departure.lateStores }], guard := none }) (v := ?vT10x27) rfl (by kernel_rfl) (by kernel_rfl) (by kernel_rfl) (fun _ _ _ h => h) (Or.inl ⟨by rfl, ?hyT10x27⟩) (by exact hS) ?rsT10x27
                case hyT10x27 => (intro w hSw; (try dsimp only at hSw); unfold Rl.SU at hSw; go_simp; try with_reducible rfl)
                try simp only [Act.put, List.setIfInBounds_toArray, List.set_cons_zero, List.set_cons_succ]
                refine wpAnyH_ready (rs := [20]) (by kernel_rfl) (by simp) ?_
                refine (AllReadyH.cons (o := { dst := none, op := Op.store 27 (Operand.tmp 11) (Operand.tmp 53), type := 0, pos := "law.go:106", after := #[{ on := 19, ground := Ground.data }, { on := 17, ground := Ground.data }, { on := 15, ground := Ground.chain }, { on := 0, ground := Ground.phase }, { on := 1, ground := Ground.phase }, { on := 2, ground := Ground.phase }, { on := 3, ground := Ground.phase }, { on := 4, ground := Ground.phase }, { on := 5, ground := Ground.phase }, { on := 6, ground := Ground.phase }, { on := 7, ground := Ground.phase }, { on := 8, ground := Ground.phase }, { on := 9, ground := Ground.phase }, { on := 10, ground := Ground.phase }, { on := 11, ground := Ground.phase }, { on := 12, ground := Ground.phase }, { on := 13, ground := Ground.phase }, { on := 14, ground := Ground.phase }, { on := 15, ground := Ground.phase }, { on := 16, ground := Ground.phase }, { on := 17, ground := Ground.phase }, { on := 18, ground := Ground.textOnly Departure.lateStores }, { on := 19, ground := Ground.phase }], guard := none }) rfl (fun K hK => ?_) AllReadyH.nil)
                obtain ⟨f0, f1, f2, f3, f4, f5⟩ := Er.block_cells hB
                have hset := Er.block_set (x' := .bool gr) (y' := .slice a9 z c9) (z' := .int .i64 sr) hB
                have hqW := ((Q.setCell (Q.setCell (Q.setCell (Rl.SU.here hS) (ad := ⟨b9, 0, none⟩) hWb (.bool gr)) (ad := ⟨b9, 1, none⟩) hWb (.slice a9 z c9)) (ad := ⟨b9, 2, none⟩) hWb (.int .i64 sr)))
                have hl := Lst.setCell (Lst.setCell (Lst.setCell hx9 (ad := ⟨b9, 0, none⟩) (.bool gr) hne) (ad := ⟨b9, 1, none⟩) (.slice a9 z c9) hne) (ad := ⟨b9, 2, none⟩) (.int .i64 sr) hne
                go_simp
                have hS2 := SQ.out _ hqW
                refine hK.out _ _ (by exact hS2) (fun hHeld => ?_)
                clear hK K hHeld hS
                have hS := hS2
                clear hS2 f0 f1 f2 f3 f4 f5
                try simp only [Act.put, List.setIfInBounds_toArray, List.set_cons_zero, List.set_cons_succ]
                refine wpAnyH_take (i := 21) (oi := { dst := some 12, op := Op.assign (Operand.tmp 54), type := 28, pos := "law.go:106", after := #[{ on := 18, ground := Ground.data }, { on := 20, ground := Ground.chain }, { on := 0, ground := Ground.phase }, { on := 1, ground := Ground.phase }, { on := 2, ground := Ground.phase }, { on := 3, ground := Ground.phase }, { on := 4, ground := Ground.phase }, { on := 5, ground := Ground.phase }, { on := 6, ground := Ground.phase }, { on := 7, ground := Ground.phase }, { on := 8, ground := Ground.phase }, { on := 9, ground := Ground.phase }, { on := 10, ground := Ground.phase }, { on := 11, ground := Ground.phase }, { on := 12, ground := Ground.phase }, { on := 13, ground := Ground.phase }, { on := 14, ground := Ground.phase }, { on := 15, ground := Ground.phase }, { on := 16, ground := Ground.phase }, { on := 17, ground := Ground.phase }, { on := 18, ground := Ground.phase }, { on := 19, ground := Ground.phase }, { on := 20, ground := Ground.phase }], guard := none }) (v := ?vT10x29) rfl (by kernel_rfl) (by kernel_rfl) (by kernel_rfl) (fun _ _ _ h => h) (Or.inl ⟨by rfl, ?hyT10x29⟩) (by exact hS) ?rsT10x29
                case hyT10x29 => (intro w hSw; (try dsimp only at hSw); unfold Rl.SU at hSw; go_simp; try with_reducible rfl)
                try simp only [Act.put, List.setIfInBounds_toArray, List.set_cons_zero, List.set_cons_succ]
                refine wpAnyH_done (by kernel_rfl) ?_ _
                go_wp2_with fail
                go_meet
                exact ⟨b9, a9, c9, rfl, rfl, hset, hl, hqW⟩
            · go_simp
              have hq := (Q.refl yT10x14).alloc (.cells #[.bool false, .slice none 0 0, .int .i64 0] 27)
              have hB := heap_alloc_new yT10x14 (.cells #[.bool false, .slice none 0 0, .int .i64 0] 27)
              have hbu : yT10x14.heap.size < (yT10x14.alloc (.cells #[.bool false, .slice none 0 0, .int .i64 0] 27)).heap.size := by rw [World.size_alloc]; omega
              have hWb := (Rl.SU.here hS).le
              have hS2 := SQ.out _ (Q.trans (Rl.SU.here hS) hq)
              refine hK.out _ _ (by exact hS2) (fun hHeld => ?_)
              clear hK K hHeld hS hq
              have hS := hS2
              clear hS2
              generalize yT10x14.alloc (.cells #[.bool false, .slice none 0 0, .int .i64 0] 27) = yT10x30 at *
              generalize yT10x14.heap.size = b9 at *
              try simp only [Act.put, List.setIfInBounds_toArray, List.set_cons_zero, List.set_cons_succ]
              refine wpAnyH_ready (rs := [14]) (by kernel_rfl) (by simp) ?_
              refine (AllReadyH.cons (o := { dst := some 51, op := Op.call { callee := Callee.value (Operand.func 14), args := #[Operand.tmp 50], argTypes := #[24] }, type := 27, pos := "law.go:106", after := #[{ on := 13, ground := Ground.data }, { on := 9, ground := Ground.chain }], guard := none }) rfl (fun K hK => ?_) AllReadyH.nil)
              go_simp
              refine (Rl.of_sh _ _ _ _ _ _).mono ?_
              rintro e yT10x31 ⟨rfl, hq⟩
              try (go_wp2_with fail)
              have hB := (Q.block hq (lt_of_block hB)).trans hB
              have hS2 := SQ.out _ (Q.trans (Rl.SU.here hS) hq)
              have hbu := Nat.lt_of_lt_of_le hbu hq.le
              refine hK.out _ _ (by exact hS2) (fun hHeld => ?_)
              clear hK K hHeld hS hq
              have hS := hS2
              clear hS2
              try simp only [Act.put, List.setIfInBounds_toArray, List.set_cons_zero, List.set_cons_succ]
              refine wpAnyH_ready (rs := [15]) (by kernel_rfl) (by simp) ?_
              refine (AllReadyH.cons (o := { dst := some 52, op := Op.call { callee := Callee.value (Operand.func 26), args := #[Operand.tmp 41, Operand.tmp 46, Operand.tmp 51], argTypes := #[27, 27, 27] }, type := 29, pos := "law.go:106", after := #[{ on := 4, ground := Ground.data }, { on := 9, ground := Ground.data }, { on := 14, ground := Ground.data }, { on := 14, ground := Ground.chain }], guard := none }) rfl (fun K hK => ?_) AllReadyH.nil)
              go_simp
              refine (PA.out _ _ _ _ (HL.out.q (Rl.SU.here hS)) (HM.out.q (Rl.SU.here hS)) (HN.out.q (Rl.SU.here hS))).mono ?_
              rintro e yT10x32 ⟨a9, c9, rfl, hx9, hq⟩
              try (go_wp2_with fail)
              have hB := (Q.block hq (lt_of_block hB)).trans hB
              have hlf := hx9
              have hx9 := Rr.lf_lst hlf
              have hne : ∀ (a : Addr) (n c : Nat), (.slice a9 z c9 : Value) = .slice (some a) n c → n ≠ 0 → a.block ≠ b9 := Rr.lf_ne hlf hbu
              clear hlf
              have hS2 := SQ.out _ (Q.trans (Rl.SU.here hS) hq)
              have hbu := Nat.lt_of_lt_of_le hbu hq.le
              refine hK.out _ _ (by exact hS2) (fun hHeld => ?_)
              clear hK K hHeld hS hq
              have hS := hS2
              clear hS2
              try simp only [Act.put, List.setIfInBounds_toArray, List.set_cons_zero, List.set_cons_succ]
              refine wpAnyH_take (i := 16) (oi := { dst := some 36, op := Op.move (Operand.tmp 52), type := 29, pos := "law.go:106", after := #[{ on := 15, ground := Ground.data }], guard := none }) (v := ?vT10x33) rfl (by kernel_rfl) (by kernel_rfl) (by kernel_rfl) (fun _ _ _ h => h) (Or.inl ⟨by rfl, ?hyT10x33⟩) (by exact hS) ?rsT10x33
              case hyT10x33 => (intro w hSw; (try dsimp only at hSw); unfold Rl.SU at hSw; go_simp; try with_reducible rfl)
              try simp only [Act.put, List.setIfInBounds_toArray, List.set_cons_zero, List.set_cons_succ]
              refine wpAnyH_take (i := 17) (oi := { dst := some 53, op := Op.extract (Operand.tmp 36) 0, type := 27, pos := "law.go:106", after := #[{ on := 16, ground := Ground.data }], guard := none }) (v := ?vT10x34) rfl (by kernel_rfl) (by kernel_rfl) (by kernel_rfl) (fun _ _ _ h => h) (Or.inl ⟨by rfl, ?hyT10x34⟩) (by exact hS) ?rsT10x34
              case hyT10x34 => (intro w hSw; (try dsimp only at hSw); unfold Rl.SU at hSw; go_simp; try with_reducible rfl)
              try simp only [Act.put, List.setIfInBounds_toArray, List.set_cons_zero, List.set_cons_succ]
              refine wpAnyH_take (i := 18) (oi := { dst := some 54, op := Op.extract (Operand.tmp 36) 1, type := 28, pos := "law.go:106", after := #[{ on := 16, ground := Ground.data }, { on := 20, ground := Ground.gcOnly Departure.lateStores }], guard := none }) (v := ?vT10x35) rfl (by kernel_rfl) (by kernel_rfl) (by kernel_rfl) (fun _ _ _ h => h) (Or.inl ⟨by rfl, ?hyT10x35⟩) (by exact hS) ?rsT10x35
              case hyT10x35 => (intro w hSw; (try dsimp only at hSw); unfold Rl.SU at hSw; go_simp; try with_reducible rfl)
              try simp only [Act.put, List.setIfInBounds_toArray, List.set_cons_zero, List.set_cons_succ]
              refine wpAnyH_ready (rs := [20]) (by kernel_rfl) (by simp) ?_
              refine (AllReadyH.cons (o := { dst := none, op := Op.store 27 (Operand.tmp 11) (Operand.tmp 53), type := 0, pos := "law.go:106", after := #[{ on := 19, ground := Ground.data }, { on := 17, ground := Ground.data }, { on := 15, ground := Ground.chain }, { on := 0, ground := Ground.phase }, { on := 1, ground := Ground.phase }, { on := 2, ground := Ground.phase }, { on := 3, ground := Ground.phase }, { on := 4, ground := Ground.phase }, { on := 5, ground := Ground.phase }, { on := 6, ground := Ground.phase }, { on := 7, ground := Ground.phase }, { on := 8, ground := Ground.phase }, { on := 9, ground := Ground.phase }, { on := 10, ground := Ground.phase }, { on := 11, ground := Ground.phase }, { on := 12, ground := Ground.phase }, { on := 13, ground := Ground.phase }, { on := 14, ground := Ground.phase }, { on := 15, ground := Ground.phase }, { on := 16, ground := Ground.phase }, { on := 17, ground := Ground.phase }, { on := 18, ground := Ground.textOnly Departure.lateStores }, { on := 19, ground := Ground.phase }], guard := none }) rfl (fun K hK => ?_) AllReadyH.nil)
              obtain ⟨f0, f1, f2, f3, f4, f5⟩ := Er.block_cells hB
              have hset := Er.block_set (x' := .bool gr) (y' := .slice a9 z c9) (z' := .int .i64 sr) hB
              have hqW := ((Q.setCell (Q.setCell (Q.setCell (Rl.SU.here hS) (ad := ⟨b9, 0, none⟩) hWb (.bool gr)) (ad := ⟨b9, 1, none⟩) hWb (.slice a9 z c9)) (ad := ⟨b9, 2, none⟩) hWb (.int .i64 sr)))
              have hl := Lst.setCell (Lst.setCell (Lst.setCell hx9 (ad := ⟨b9, 0, none⟩) (.bool gr) hne) (ad := ⟨b9, 1, none⟩) (.slice a9 z c9) hne) (ad := ⟨b9, 2, none⟩) (.int .i64 sr) hne
              go_simp
              have hS2 := SQ.out _ hqW
              refine hK.out _ _ (by exact hS2) (fun hHeld => ?_)
              clear hK K hHeld hS
              have hS := hS2
              clear hS2 f0 f1 f2 f3 f4 f5
              try simp only [Act.put, List.setIfInBounds_toArray, List.set_cons_zero, List.set_cons_succ]
              refine wpAnyH_take (i := 21) (oi := { dst := some 12, op := Op.assign (Operand.tmp 54), type := 28, pos := "law.go:106", after := #[{ on := 18, ground := Ground.data }, { on := 20, ground := Ground.chain }, { on := 0, ground := Ground.phase }, { on := 1, ground := Ground.phase }, { on := 2, ground := Ground.phase }, { on := 3, ground := Ground.phase }, { on := 4, ground := Ground.phase }, { on := 5, ground := Ground.phase }, { on := 6, ground := Ground.phase }, { on := 7, ground := Ground.phase }, { on := 8, ground := Ground.phase }, { on := 9, ground := Ground.phase }, { on := 10, ground := Ground.phase }, { on := 11, ground := Ground.phase }, { on := 12, ground := Ground.phase }, { on := 13, ground := Ground.phase }, { on := 14, ground := Ground.phase }, { on := 15, ground := Ground.phase }, { on := 16, ground := Ground.phase }, { on := 17, ground := Ground.phase }, { on := 18, ground := Ground.phase }, { on := 19, ground := Ground.phase }, { on := 20, ground := Ground.phase }], guard := none }) (v := ?vT10x37) rfl (by kernel_rfl) (by kernel_rfl) (by kernel_rfl) (fun _ _ _ h => h) (Or.inl ⟨by rfl, ?hyT10x37⟩) (by exact hS) ?rsT10x37
              case hyT10x37 => (intro w hSw; (try dsimp only at hSw); unfold Rl.SU at hSw; go_simp; try with_reducible rfl)
              try simp only [Act.put, List.setIfInBounds_toArray, List.set_cons_zero, List.set_cons_succ]
              refine wpAnyH_done (by kernel_rfl) ?_ _
              go_wp2_with fail
              go_meet
              exact ⟨b9, a9, c9, rfl, rfl, hset, hl, hqW⟩
          · go_simp
            have hq := (Q.refl yT10x13).alloc (.cells #[.bool false, .slice none 0 0, .int .i64 0] 27)
            have hB := heap_alloc_new yT10x13 (.cells #[.bool false, .slice none 0 0, .int .i64 0] 27)
            have hbu : yT10x13.heap.size < (yT10x13.alloc (.cells #[.bool false, .slice none 0 0, .int .i64 0] 27)).heap.size := by rw [World.size_alloc]; omega
            have hWb := (Rl.SU.here hS).le
            have hS2 := SQ.out _ (Q.trans (Rl.SU.here hS) hq)
            refine hK.out _ _ (by exact hS2) (fun hHeld => ?_)
            clear hK K hHeld hS hq
            have hS := hS2
            clear hS2
            generalize yT10x13.alloc (.cells #[.bool false, .slice none 0 0, .int .i64 0] 27) = yT10x38 at *
            generalize yT10x13.heap.size = b9 at *
            try simp only [Act.put, List.setIfInBounds_toArray, List.set_cons_zero, List.set_cons_succ]
            refine wpAnyH_ready (rs := [9]) (by kernel_rfl) (by simp) ?_
            refine (AllReadyH.cons (o := { dst := some 46, op := Op.call { callee := Callee.value (Operand.func 14), args := #[Operand.tmp 45], argTypes := #[24] }, type := 27, pos := "law.go:106", after := #[{ on := 8, ground := Ground.data }, { on := 4, ground := Ground.chain }], guard := none }) rfl (fun K hK => ?_) AllReadyH.nil)
            go_simp
            refine (Rl.of_sh _ _ _ _ _ _).mono ?_
            rintro e yT10x39 ⟨rfl, hq⟩
            try (go_wp2_with fail)
            have hB := (Q.block hq (lt_of_block hB)).trans hB
            have hS2 := SQ.out _ (Q.trans (Rl.SU.here hS) hq)
            have hbu := Nat.lt_of_lt_of_le hbu hq.le
            refine hK.out _ _ (by exact hS2) (fun hHeld => ?_)
            clear hK K hHeld hS hq
            have hS := hS2
            clear hS2
            try simp only [Act.put, List.setIfInBounds_toArray, List.set_cons_zero, List.set_cons_succ]
            refine wpAnyH_ready (rs := [14]) (by kernel_rfl) (by simp) ?_
            refine (AllReadyH.cons (o := { dst := some 51, op := Op.call { callee := Callee.value (Operand.func 14), args := #[Operand.tmp 50], argTypes := #[24] }, type := 27, pos := "law.go:106", after := #[{ on := 13, ground := Ground.data }, { on := 9, ground := Ground.chain }], guard := none }) rfl (fun K hK => ?_) AllReadyH.nil)
            go_simp
            refine (Rl.of_sh _ _ _ _ _ _).mono ?_
            rintro e yT10x40 ⟨rfl, hq⟩
            try (go_wp2_with fail)
            have hB := (Q.block hq (lt_of_block hB)).trans hB
            have hS2 := SQ.out _ (Q.trans (Rl.SU.here hS) hq)
            have hbu := Nat.lt_of_lt_of_le hbu hq.le
            refine hK.out _ _ (by exact hS2) (fun hHeld => ?_)
            clear hK K hHeld hS hq
            have hS := hS2
            clear hS2
            try simp only [Act.put, List.setIfInBounds_toArray, List.set_cons_zero, List.set_cons_succ]
            refine wpAnyH_ready (rs := [15]) (by kernel_rfl) (by simp) ?_
            refine (AllReadyH.cons (o := { dst := some 52, op := Op.call { callee := Callee.value (Operand.func 26), args := #[Operand.tmp 41, Operand.tmp 46, Operand.tmp 51], argTypes := #[27, 27, 27] }, type := 29, pos := "law.go:106", after := #[{ on := 4, ground := Ground.data }, { on := 9, ground := Ground.data }, { on := 14, ground := Ground.data }, { on := 14, ground := Ground.chain }], guard := none }) rfl (fun K hK => ?_) AllReadyH.nil)
            go_simp
            refine (PA.out _ _ _ _ (HL.out.q (Rl.SU.here hS)) (HM.out.q (Rl.SU.here hS)) (HN.out.q (Rl.SU.here hS))).mono ?_
            rintro e yT10x41 ⟨a9, c9, rfl, hx9, hq⟩
            try (go_wp2_with fail)
            have hB := (Q.block hq (lt_of_block hB)).trans hB
            have hlf := hx9
            have hx9 := Rr.lf_lst hlf
            have hne : ∀ (a : Addr) (n c : Nat), (.slice a9 z c9 : Value) = .slice (some a) n c → n ≠ 0 → a.block ≠ b9 := Rr.lf_ne hlf hbu
            clear hlf
            have hS2 := SQ.out _ (Q.trans (Rl.SU.here hS) hq)
            have hbu := Nat.lt_of_lt_of_le hbu hq.le
            refine hK.out _ _ (by exact hS2) (fun hHeld => ?_)
            clear hK K hHeld hS hq
            have hS := hS2
            clear hS2
            try simp only [Act.put, List.setIfInBounds_toArray, List.set_cons_zero, List.set_cons_succ]
            refine wpAnyH_take (i := 16) (oi := { dst := some 36, op := Op.move (Operand.tmp 52), type := 29, pos := "law.go:106", after := #[{ on := 15, ground := Ground.data }], guard := none }) (v := ?vT10x42) rfl (by kernel_rfl) (by kernel_rfl) (by kernel_rfl) (fun _ _ _ h => h) (Or.inl ⟨by rfl, ?hyT10x42⟩) (by exact hS) ?rsT10x42
            case hyT10x42 => (intro w hSw; (try dsimp only at hSw); unfold Rl.SU at hSw; go_simp; try with_reducible rfl)
            try simp only [Act.put, List.setIfInBounds_toArray, List.set_cons_zero, List.set_cons_succ]
            refine wpAnyH_take (i := 17) (oi := { dst := some 53, op := Op.extract (Operand.tmp 36) 0, type := 27, pos := "law.go:106", after := #[{ on := 16, ground := Ground.data }], guard := none }) (v := ?vT10x43) rfl (by kernel_rfl) (by kernel_rfl) (by kernel_rfl) (fun _ _ _ h => h) (Or.inl ⟨by rfl, ?hyT10x43⟩) (by exact hS) ?rsT10x43
            case hyT10x43 => (intro w hSw; (try dsimp only at hSw); unfold Rl.SU at hSw; go_simp; try with_reducible rfl)
            try simp only [Act.put, List.setIfInBounds_toArray, List.set_cons_zero, List.set_cons_succ]
            refine wpAnyH_take (i := 18) (oi := { dst := some 54, op := Op.extract (Operand.tmp 36) 1, type := 28, pos := "law.go:106", after := #[{ on := 16, ground := Ground.data }, { on := 20, ground := Ground.gcOnly Departure.lateStores }], guard := none }) (v := ?vT10x44) rfl (by kernel_rfl) (by kernel_rfl) (by kernel_rfl) (fun _ _ _ h => h) (Or.inl ⟨by rfl, ?hyT10x44⟩) (by exact hS) ?rsT10x44
            case hyT10x44 => (intro w hSw; (try dsimp only at hSw); unfold Rl.SU at hSw; go_simp; try with_reducible rfl)
            try simp only [Act.put, List.setIfInBounds_toArray, List.set_cons_zero, List.set_cons_succ]
            refine wpAnyH_ready (rs := [20]) (by kernel_rfl) (by simp) ?_
            refine (AllReadyH.cons (o := { dst := none, op := Op.store 27 (Operand.tmp 11) (Operand.tmp 53), type := 0, pos := "law.go:106", after := #[{ on := 19, ground := Ground.data }, { on := 17, ground := Ground.data }, { on := 15, ground := Ground.chain }, { on := 0, ground := Ground.phase }, { on := 1, ground := Ground.phase }, { on := 2, ground := Ground.phase }, { on := 3, ground := Ground.phase }, { on := 4, ground := Ground.phase }, { on := 5, ground := Ground.phase }, { on := 6, ground := Ground.phase }, { on := 7, ground := Ground.phase }, { on := 8, ground := Ground.phase }, { on := 9, ground := Ground.phase }, { on := 10, ground := Ground.phase }, { on := 11, ground := Ground.phase }, { on := 12, ground := Ground.phase }, { on := 13, ground := Ground.phase }, { on := 14, ground := Ground.phase }, { on := 15, ground := Ground.phase }, { on := 16, ground := Ground.phase }, { on := 17, ground := Ground.phase }, { on := 18, ground := Ground.textOnly Departure.lateStores }, { on := 19, ground := Ground.phase }], guard := none }) rfl (fun K hK => ?_) AllReadyH.nil)
            obtain ⟨f0, f1, f2, f3, f4, f5⟩ := Er.block_cells hB
            have hset := Er.block_set (x' := .bool gr) (y' := .slice a9 z c9) (z' := .int .i64 sr) hB
            have hqW := ((Q.setCell (Q.setCell (Q.setCell (Rl.SU.here hS) (ad := ⟨b9, 0, none⟩) hWb (.bool gr)) (ad := ⟨b9, 1, none⟩) hWb (.slice a9 z c9)) (ad := ⟨b9, 2, none⟩) hWb (.int .i64 sr)))
            have hl := Lst.setCell (Lst.setCell (Lst.setCell hx9 (ad := ⟨b9, 0, none⟩) (.bool gr) hne) (ad := ⟨b9, 1, none⟩) (.slice a9 z c9) hne) (ad := ⟨b9, 2, none⟩) (.int .i64 sr) hne
            go_simp
            have hS2 := SQ.out _ hqW
            refine hK.out _ _ (by exact hS2) (fun hHeld => ?_)
            clear hK K hHeld hS
            have hS := hS2
            clear hS2 f0 f1 f2 f3 f4 f5
            try simp only [Act.put, List.setIfInBounds_toArray, List.set_cons_zero, List.set_cons_succ]
            refine wpAnyH_take (i := 21) (oi := { dst := some 12, op := Op.assign (Operand.tmp 54), type := 28, pos := "law.go:106", after := #[{ on := 18, ground := Ground.data }, { on := 20, ground := Ground.chain }, { on := 0, ground := Ground.phase }, { on := 1, ground := Ground.phase }, { on := 2, ground := Ground.phase }, { on := 3, ground := Ground.phase }, { on := 4, ground := Ground.phase }, { on := 5, ground := Ground.phase }, { on := 6, ground := Ground.phase }, { on := 7, ground := Ground.phase }, { on := 8, ground := Ground.phase }, { on := 9, ground := Ground.phase }, { on := 10, ground := Ground.phase }, { on := 11, ground := Ground.phase }, { on := 12, ground := Ground.phase }, { on := 13, ground := Ground.phase }, { on := 14, ground := Ground.phase }, { on := 15, ground := Ground.phase }, { on := 16, ground := Ground.phase }, { on := 17, ground := Ground.phase }, { on := 18, ground := Ground.phase }, { on := 19, ground := Ground.phase }, { on := 20, ground := Ground.phase }], guard := none }) (v := ?vT10x46) rfl (by kernel_rfl) (by kernel_rfl) (by kernel_rfl) (fun _ _ _ h => h) (Or.inl ⟨by rfl, ?hyT10x46⟩) (by exact hS) ?rsT10x46
            case hyT10x46 => (intro w hSw; (try dsimp only at hSw); unfold Rl.SU at hSw; go_simp; try with_reducible rfl)
            try simp only [Act.put, List.setIfInBounds_toArray, List.set_cons_zero, List.set_cons_succ]
            refine wpAnyH_done (by kernel_rfl) ?_ _
            go_wp2_with fail
            go_meet
            exact ⟨b9, a9, c9, rfl, rfl, hset, hl, hqW⟩
        · go_simp
          have hq := (Q.refl yT10x0).alloc (.cells #[.bool false, .slice none 0 0, .int .i64 0] 27)
          have hB := heap_alloc_new yT10x0 (.cells #[.bool false, .slice none 0 0, .int .i64 0] 27)
          have hbu : yT10x0.heap.size < (yT10x0.alloc (.cells #[.bool false, .slice none 0 0, .int .i64 0] 27)).heap.size := by rw [World.size_alloc]; omega
          have hWb := (Rl.SU.here hS).le
          have hS2 := SQ.out _ (Q.trans (Rl.SU.here hS) hq)
          refine hK.out _ _ (by exact hS2) (fun hHeld => ?_)
          clear hK K hHeld hS hq
          have hS := hS2
          clear hS2
          generalize yT10x0.alloc (.cells #[.bool false, .slice none 0 0, .int .i64 0] 27) = yT10x47 at *
          generalize yT10x0.heap.size = b9 at *
          try simp only [Act.put, List.setIfInBounds_toArray, List.set_cons_zero, List.set_cons_succ]
          refine wpAnyH_ready (rs := [4]) (by kernel_rfl) (by simp) ?_
          refine (AllReadyH.cons (o := { dst := some 41, op := Op.call { callee := Callee.value (Operand.func 14), args := #[Operand.tmp 40], argTypes := #[24] }, type := 27, pos := "law.go:106", after := #[{ on := 3, ground := Ground.data }], guard := none }) rfl (fun K hK => ?_) AllReadyH.nil)
          go_simp
          refine (Rl.of_sh _ _ _ _ _ _).mono ?_
          rintro e yT10x48 ⟨rfl, hq⟩
          try (go_wp2_with fail)
          have hB := (Q.block hq (lt_of_block hB)).trans hB
          have hS2 := SQ.out _ (Q.trans (Rl.SU.here hS) hq)
          have hbu := Nat.lt_of_lt_of_le hbu hq.le
          refine hK.out _ _ (by exact hS2) (fun hHeld => ?_)
          clear hK K hHeld hS hq
          have hS := hS2
          clear hS2
          try simp only [Act.put, List.setIfInBounds_toArray, List.set_cons_zero, List.set_cons_succ]
          refine wpAnyH_ready (rs := [9]) (by kernel_rfl) (by simp) ?_
          refine (AllReadyH.cons (o := { dst := some 46, op := Op.call { callee := Callee.value (Operand.func 14), args := #[Operand.tmp 45], argTypes := #[24] }, type := 27, pos := "law.go:106", after := #[{ on := 8, ground := Ground.data }, { on := 4, ground := Ground.chain }], guard := none }) rfl (fun K hK => ?_) AllReadyH.nil)
          go_simp
          refine (Rl.of_sh _ _ _ _ _ _).mono ?_
          rintro e yT10x49 ⟨rfl, hq⟩
          try (go_wp2_with fail)
          have hB := (Q.block hq (lt_of_block hB)).trans hB
          have hS2 := SQ.out _ (Q.trans (Rl.SU.here hS) hq)
          have hbu := Nat.lt_of_lt_of_le hbu hq.le
          refine hK.out _ _ (by exact hS2) (fun hHeld => ?_)
          clear hK K hHeld hS hq
          have hS := hS2
          clear hS2
          try simp only [Act.put, List.setIfInBounds_toArray, List.set_cons_zero, List.set_cons_succ]
          refine wpAnyH_ready (rs := [14]) (by kernel_rfl) (by simp) ?_
          refine (AllReadyH.cons (o := { dst := some 51, op := Op.call { callee := Callee.value (Operand.func 14), args := #[Operand.tmp 50], argTypes := #[24] }, type := 27, pos := "law.go:106", after := #[{ on := 13, ground := Ground.data }, { on := 9, ground := Ground.chain }], guard := none }) rfl (fun K hK => ?_) AllReadyH.nil)
          go_simp
          refine (Rl.of_sh _ _ _ _ _ _).mono ?_
          rintro e yT10x50 ⟨rfl, hq⟩
          try (go_wp2_with fail)
          have hB := (Q.block hq (lt_of_block hB)).trans hB
          have hS2 := SQ.out _ (Q.trans (Rl.SU.here hS) hq)
          have hbu := Nat.lt_of_lt_of_le hbu hq.le
          refine hK.out _ _ (by exact hS2) (fun hHeld => ?_)
          clear hK K hHeld hS hq
          have hS := hS2
          clear hS2
          try simp only [Act.put, List.setIfInBounds_toArray, List.set_cons_zero, List.set_cons_succ]
          refine wpAnyH_ready (rs := [15]) (by kernel_rfl) (by simp) ?_
          refine (AllReadyH.cons (o := { dst := some 52, op := Op.call { callee := Callee.value (Operand.func 26), args := #[Operand.tmp 41, Operand.tmp 46, Operand.tmp 51], argTypes := #[27, 27, 27] }, type := 29, pos := "law.go:106", after := #[{ on := 4, ground := Ground.data }, { on := 9, ground := Ground.data }, { on := 14, ground := Ground.data }, { on := 14, ground := Ground.chain }], guard := none }) rfl (fun K hK => ?_) AllReadyH.nil)
          go_simp
          refine (PA.out _ _ _ _ (HL.out.q (Rl.SU.here hS)) (HM.out.q (Rl.SU.here hS)) (HN.out.q (Rl.SU.here hS))).mono ?_
          rintro e yT10x51 ⟨a9, c9, rfl, hx9, hq⟩
          try (go_wp2_with fail)
          have hB := (Q.block hq (lt_of_block hB)).trans hB
          have hlf := hx9
          have hx9 := Rr.lf_lst hlf
          have hne : ∀ (a : Addr) (n c : Nat), (.slice a9 z c9 : Value) = .slice (some a) n c → n ≠ 0 → a.block ≠ b9 := Rr.lf_ne hlf hbu
          clear hlf
          have hS2 := SQ.out _ (Q.trans (Rl.SU.here hS) hq)
          have hbu := Nat.lt_of_lt_of_le hbu hq.le
          refine hK.out _ _ (by exact hS2) (fun hHeld => ?_)
          clear hK K hHeld hS hq
          have hS := hS2
          clear hS2
          try simp only [Act.put, List.setIfInBounds_toArray, List.set_cons_zero, List.set_cons_succ]
          refine wpAnyH_take (i := 16) (oi := { dst := some 36, op := Op.move (Operand.tmp 52), type := 29, pos := "law.go:106", after := #[{ on := 15, ground := Ground.data }], guard := none }) (v := ?vT10x52) rfl (by kernel_rfl) (by kernel_rfl) (by kernel_rfl) (fun _ _ _ h => h) (Or.inl ⟨by rfl, ?hyT10x52⟩) (by exact hS) ?rsT10x52
          case hyT10x52 => (intro w hSw; (try dsimp only at hSw); unfold Rl.SU at hSw; go_simp; try with_reducible rfl)
          try simp only [Act.put, List.setIfInBounds_toArray, List.set_cons_zero, List.set_cons_succ]
          refine wpAnyH_take (i := 17) (oi := { dst := some 53, op := Op.extract (Operand.tmp 36) 0, type := 27, pos := "law.go:106", after := #[{ on := 16, ground := Ground.data }], guard := none }) (v := ?vT10x53) rfl (by kernel_rfl) (by kernel_rfl) (by kernel_rfl) (fun _ _ _ h => h) (Or.inl ⟨by rfl, ?hyT10x53⟩) (by exact hS) ?rsT10x53
          case hyT10x53 => (intro w hSw; (try dsimp only at hSw); unfold Rl.SU at hSw; go_simp; try with_reducible rfl)
          try simp only [Act.put, List.setIfInBounds_toArray, List.set_cons_zero, List.set_cons_succ]
          refine wpAnyH_take (i := 18) (oi := { dst := some 54, op := Op.extract (Operand.tmp 36) 1, type := 28, pos := "law.go:106", after := #[{ on := 16, ground := Ground.data }, { on := 20, ground := Ground.gcOnly Departure.lateStores }], guard := none }) (v := ?vT10x54) rfl (by kernel_rfl) (by kernel_rfl) (by kernel_rfl) (fun _ _ _ h => h) (Or.inl ⟨by rfl, ?hyT10x54⟩) (by exact hS) ?rsT10x54
          case hyT10x54 => (intro w hSw; (try dsimp only at hSw); unfold Rl.SU at hSw; go_simp; try with_reducible rfl)
          try simp only [Act.put, List.setIfInBounds_toArray, List.set_cons_zero, List.set_cons_succ]
          refine wpAnyH_ready (rs := [20]) (by kernel_rfl) (by simp) ?_
          refine (AllReadyH.cons (o := { dst := none, op := Op.store 27 (Operand.tmp 11) (Operand.tmp 53), type := 0, pos := "law.go:106", after := #[{ on := 19, ground := Ground.data }, { on := 17, ground := Ground.data }, { on := 15, ground := Ground.chain }, { on := 0, ground := Ground.phase }, { on := 1, ground := Ground.phase }, { on := 2, ground := Ground.phase }, { on := 3, ground := Ground.phase }, { on := 4, ground := Ground.phase }, { on := 5, ground := Ground.phase }, { on := 6, ground := Ground.phase }, { on := 7, ground := Ground.phase }, { on := 8, ground := Ground.phase }, { on := 9, ground := Ground.phase }, { on := 10, ground := Ground.phase }, { on := 11, ground := Ground.phase }, { on := 12, ground := Ground.phase }, { on := 13, ground := Ground.phase }, { on := 14, ground := Ground.phase }, { on := 15, ground := Ground.phase }, { on := 16, ground := Ground.phase }, { on := 17, ground := Ground.phase }, { on := 18, ground := Ground.textOnly Departure.lateStores }, { on := 19, ground := Ground.phase }], guard := none }) rfl (fun K hK => ?_) AllReadyH.nil)
          obtain ⟨f0, f1, f2, f3, f4, f5⟩ := Er.block_cells hB
          have hset := Er.block_set (x' := .bool gr) (y' := .slice a9 z c9) (z' := .int .i64 sr) hB
          have hqW := ((Q.setCell (Q.setCell (Q.setCell (Rl.SU.here hS) (ad := ⟨b9, 0, none⟩) hWb (.bool gr)) (ad := ⟨b9, 1, none⟩) hWb (.slice a9 z c9)) (ad := ⟨b9, 2, none⟩) hWb (.int .i64 sr)))
          have hl := Lst.setCell (Lst.setCell (Lst.setCell hx9 (ad := ⟨b9, 0, none⟩) (.bool gr) hne) (ad := ⟨b9, 1, none⟩) (.slice a9 z c9) hne) (ad := ⟨b9, 2, none⟩) (.int .i64 sr) hne
          go_simp
          have hS2 := SQ.out _ hqW
          refine hK.out _ _ (by exact hS2) (fun hHeld => ?_)
          clear hK K hHeld hS
          have hS := hS2
          clear hS2 f0 f1 f2 f3 f4 f5
          try simp only [Act.put, List.setIfInBounds_toArray, List.set_cons_zero, List.set_cons_succ]
          refine wpAnyH_take (i := 21) (oi := { dst := some 12, op := Op.assign (Operand.tmp 54), type := 28, pos := "law.go:106", after := #[{ on := 18, ground := Ground.data }, { on := 20, ground := Ground.chain }, { on := 0, ground := Ground.phase }, { on := 1, ground := Ground.phase }, { on := 2, ground := Ground.phase }, { on := 3, ground := Ground.phase }, { on := 4, ground := Ground.phase }, { on := 5, ground := Ground.phase }, { on := 6, ground := Ground.phase }, { on := 7, ground := Ground.phase }, { on := 8, ground := Ground.phase }, { on := 9, ground := Ground.phase }, { on := 10, ground := Ground.phase }, { on := 11, ground := Ground.phase }, { on := 12, ground := Ground.phase }, { on := 13, ground := Ground.phase }, { on := 14, ground := Ground.phase }, { on := 15, ground := Ground.phase }, { on := 16, ground := Ground.phase }, { on := 17, ground := Ground.phase }, { on := 18, ground := Ground.phase }, { on := 19, ground := Ground.phase }, { on := 20, ground := Ground.phase }], guard := none }) (v := ?vT10x56) rfl (by kernel_rfl) (by kernel_rfl) (by kernel_rfl) (fun _ _ _ h => h) (Or.inl ⟨by rfl, ?hyT10x56⟩) (by exact hS) ?rsT10x56
          case hyT10x56 => (intro w hSw; (try dsimp only at hSw); unfold Rl.SU at hSw; go_simp; try with_reducible rfl)
          try simp only [Act.put, List.setIfInBounds_toArray, List.set_cons_zero, List.set_cons_succ]
          refine wpAnyH_done (by kernel_rfl) ?_ _
          go_wp2_with fail
          go_meet
          exact ⟨b9, a9, c9, rfl, rfl, hset, hl, hqW⟩
      case rest =>
        obtain ⟨b11, a11, c11, rfl, rfl, hb11, hl11, hqc⟩ := hcut
        obtain ⟨w11, hw11⟩ : ∃ x, x = wc := ⟨_, rfl⟩
        subst hw11
        have HB11 := Lib.hid hb11
        have LZ11 := Lib.hid hl11
        clear SQ hb11 hl11
        have L61_E := Lib.hid (Lst.q HL.out hqc)
        clear HL
        have L61_F := Lib.hid (Lst.q HM.out hqc)
        clear HM
        have L61_G := Lib.hid (Lst.q HN.out hqc)
        clear HN
        have H61_X := Lib.hid ((Q.block hqc (lt_of_block HBX.out)).trans HBX.out)
        clear HBX
        have H61_Y := Lib.hid ((Q.block hqc (lt_of_block HBY.out)).trans HBY.out)
        clear HBY
        have H61_O := Lib.hid ((Q.block hqc (lt_of_block HBO.out)).trans HBO.out)
        clear HBO
        have Q61 := Lib.hid (Q.trans QR.out hqc)
        clear QR
        clear hqc
        have SQ := Lib.hid (fun u (q : Q w11 u) => (by
          obtain ⟨x0, x1, x2⟩ := CX.out u ((Q.block q (lt_of_block H61_X.out)).trans H61_X.out)
          obtain ⟨x3, x4, x5⟩ := CY.out u ((Q.block q (lt_of_block H61_Y.out)).trans H61_Y.out)
          obtain ⟨x6, x7, x8⟩ := CO.out u ((Q.block q (lt_of_block H61_O.out)).trans H61_O.out)
          exact ⟨x0, x1, x2, x3, x4, x5, x6, x7, x8, q⟩ : Rl.SU w11 X Y O i g0 (.slice a n c) s g1 (.slice b m d) t g2 (.slice e0 o f0) r u))
        go_upto_region 8 with fail
        go_cut [13, 14] from 32 to 106 (fun p e wx => ∃ b9 a9 c9, p = .pointer (some ⟨b9, 0, none⟩) ∧ e = .int .i64 er ∧ wx.heap[b9]? = some (.cells #[.bool gr, .slice a9 z c9, .int .i64 sr] 24) ∧ Lst wx (.slice a9 z c9) Z ∧ Q w11 wx)
        case first =>
          refine wp_region_held_drew (S := fun u => Rl.SU w11 X Y O i g0 (.slice a n c) s g1 (.slice b m d) t g2 (.slice e0 o f0) r u) (by kernel_rfl) (by exact SQ.out _ ((Q.refl w11).drew)) (fun hHeld => ?_)
          have hS : Rl.SU w11 X Y O i g0 (.slice a n c) s g1 (.slice b m d) t g2 (.slice e0 o f0) r w11.drew := hHeld
          clear hHeld
          generalize w11.drew = yT11x0 at hS ⊢
          refine wpAnyH_take (i := 0) (oi := { dst := some 56, op := Op.move (Operand.tmp 7), type := 46, pos := "law.go:107", after := #[], guard := none }) (v := ?vT11x1) rfl (by kernel_rfl) (by kernel_rfl) (by kernel_rfl) (fun _ _ _ h => h) (Or.inl ⟨by rfl, ?hyT11x1⟩) (by exact hS) ?rsT11x1
          case hyT11x1 => (intro w hSw; (try dsimp only at hSw); unfold Rl.SU at hSw; go_simp; try with_reducible rfl)
          try simp only [Act.put, List.setIfInBounds_toArray, List.set_cons_zero, List.set_cons_succ]
          refine wpAnyH_take (i := 1) (oi := { dst := some 57, op := Op.move (Operand.tmp 10), type := 3, pos := "law.go:107", after := #[], guard := none }) (v := ?vT11x2) rfl (by kernel_rfl) (by kernel_rfl) (by kernel_rfl) (fun _ _ _ h => h) (Or.inl ⟨by rfl, ?hyT11x2⟩) (by exact hS) ?rsT11x2
          case hyT11x2 => (intro w hSw; (try dsimp only at hSw); unfold Rl.SU at hSw; go_simp; try with_reducible rfl)
          try simp only [Act.put, List.setIfInBounds_toArray, List.set_cons_zero, List.set_cons_succ]
          refine wpAnyH_take (i := 2) (oi := { dst := some 58, op := Op.indexAddr 46 (Operand.tmp 56) (Operand.tmp 57), type := 0, pos := "law.go:107", after := #[{ on := 0, ground := Ground.data }, { on := 1, ground := Ground.data }], guard := none }) (v := ?vT11x3) rfl (by kernel_rfl) (by kernel_rfl) (by kernel_rfl) (fun _ _ _ h => h) (Or.inl ⟨by rfl, ?hyT11x3⟩) (by exact hS) ?rsT11x3
          case hyT11x3 => (intro w hSw; (try dsimp only at hSw); unfold Rl.SU at hSw; go_simp; try with_reducible rfl)
          try simp only [Act.put, List.setIfInBounds_toArray, List.set_cons_zero, List.set_cons_succ]
          refine wpAnyH_take (i := 3) (oi := { dst := some 59, op := Op.load 24 (Operand.tmp 58), type := 24, pos := "law.go:107", after := #[{ on := 2, ground := Ground.data }], guard := none }) (v := ?vT11x4) rfl (by kernel_rfl) (by kernel_rfl) (by kernel_rfl) (fun _ _ _ h => h) (Or.inl ⟨by rfl, ?hyT11x4⟩) (by exact hS) ?rsT11x4
          case hyT11x4 => (intro w hSw; (try dsimp only at hSw); unfold Rl.SU at hSw; go_simp; try with_reducible rfl)
          try simp only [Act.put, List.setIfInBounds_toArray, List.set_cons_zero, List.set_cons_succ]
          refine wpAnyH_take (i := 4) (oi := { dst := some 60, op := Op.move (Operand.tmp 8), type := 46, pos := "law.go:107", after := #[], guard := none }) (v := ?vT11x5) rfl (by kernel_rfl) (by kernel_rfl) (by kernel_rfl) (fun _ _ _ h => h) (Or.inl ⟨by rfl, ?hyT11x5⟩) (by exact hS) ?rsT11x5
          case hyT11x5 => (intro w hSw; (try dsimp only at hSw); unfold Rl.SU at hSw; go_simp; try with_reducible rfl)
          try simp only [Act.put, List.setIfInBounds_toArray, List.set_cons_zero, List.set_cons_succ]
          refine wpAnyH_take (i := 5) (oi := { dst := some 61, op := Op.move (Operand.tmp 10), type := 3, pos := "law.go:107", after := #[], guard := none }) (v := ?vT11x6) rfl (by kernel_rfl) (by kernel_rfl) (by kernel_rfl) (fun _ _ _ h => h) (Or.inl ⟨by rfl, ?hyT11x6⟩) (by exact hS) ?rsT11x6
          case hyT11x6 => (intro w hSw; (try dsimp only at hSw); unfold Rl.SU at hSw; go_simp; try with_reducible rfl)
          try simp only [Act.put, List.setIfInBounds_toArray, List.set_cons_zero, List.set_cons_succ]
          refine wpAnyH_take (i := 6) (oi := { dst := some 62, op := Op.indexAddr 46 (Operand.tmp 60) (Operand.tmp 61), type := 0, pos := "law.go:107", after := #[{ on := 4, ground := Ground.data }, { on := 5, ground := Ground.data }], guard := none }) (v := ?vT11x7) rfl (by kernel_rfl) (by kernel_rfl) (by kernel_rfl) (fun _ _ _ h => h) (Or.inl ⟨by rfl, ?hyT11x7⟩) (by exact hS) ?rsT11x7
          case hyT11x7 => (intro w hSw; (try dsimp only at hSw); unfold Rl.SU at hSw; go_simp; try with_reducible rfl)
          try simp only [Act.put, List.setIfInBounds_toArray, List.set_cons_zero, List.set_cons_succ]
          refine wpAnyH_take (i := 7) (oi := { dst := some 63, op := Op.load 24 (Operand.tmp 62), type := 24, pos := "law.go:107", after := #[{ on := 6, ground := Ground.data }], guard := none }) (v := ?vT11x8) rfl (by kernel_rfl) (by kernel_rfl) (by kernel_rfl) (fun _ _ _ h => h) (Or.inl ⟨by rfl, ?hyT11x8⟩) (by exact hS) ?rsT11x8
          case hyT11x8 => (intro w hSw; (try dsimp only at hSw); unfold Rl.SU at hSw; go_simp; try with_reducible rfl)
          try simp only [Act.put, List.setIfInBounds_toArray, List.set_cons_zero, List.set_cons_succ]
          refine wpAnyH_take (i := 8) (oi := { dst := some 64, op := Op.move (Operand.tmp 9), type := 46, pos := "law.go:107", after := #[], guard := none }) (v := ?vT11x9) rfl (by kernel_rfl) (by kernel_rfl) (by kernel_rfl) (fun _ _ _ h => h) (Or.inl ⟨by rfl, ?hyT11x9⟩) (by exact hS) ?rsT11x9
          case hyT11x9 => (intro w hSw; (try dsimp only at hSw); unfold Rl.SU at hSw; go_simp; try with_reducible rfl)
          try simp only [Act.put, List.setIfInBounds_toArray, List.set_cons_zero, List.set_cons_succ]
          refine wpAnyH_take (i := 9) (oi := { dst := some 65, op := Op.move (Operand.tmp 10), type := 3, pos := "law.go:107", after := #[], guard := none }) (v := ?vT11x10) rfl (by kernel_rfl) (by kernel_rfl) (by kernel_rfl) (fun _ _ _ h => h) (Or.inl ⟨by rfl, ?hyT11x10⟩) (by exact hS) ?rsT11x10
          case hyT11x10 => (intro w hSw; (try dsimp only at hSw); unfold Rl.SU at hSw; go_simp; try with_reducible rfl)
          try simp only [Act.put, List.setIfInBounds_toArray, List.set_cons_zero, List.set_cons_succ]
          refine wpAnyH_take (i := 10) (oi := { dst := some 66, op := Op.indexAddr 46 (Operand.tmp 64) (Operand.tmp 65), type := 0, pos := "law.go:107", after := #[{ on := 8, ground := Ground.data }, { on := 9, ground := Ground.data }], guard := none }) (v := ?vT11x11) rfl (by kernel_rfl) (by kernel_rfl) (by kernel_rfl) (fun _ _ _ h => h) (Or.inl ⟨by rfl, ?hyT11x11⟩) (by exact hS) ?rsT11x11
          case hyT11x11 => (intro w hSw; (try dsimp only at hSw); unfold Rl.SU at hSw; go_simp; try with_reducible rfl)
          try simp only [Act.put, List.setIfInBounds_toArray, List.set_cons_zero, List.set_cons_succ]
          refine wpAnyH_take (i := 11) (oi := { dst := some 67, op := Op.load 24 (Operand.tmp 66), type := 24, pos := "law.go:107", after := #[{ on := 10, ground := Ground.data }], guard := none }) (v := ?vT11x12) rfl (by kernel_rfl) (by kernel_rfl) (by kernel_rfl) (fun _ _ _ h => h) (Or.inl ⟨by rfl, ?hyT11x12⟩) (by exact hS) ?rsT11x12
          case hyT11x12 => (intro w hSw; (try dsimp only at hSw); unfold Rl.SU at hSw; go_simp; try with_reducible rfl)
          try simp only [Act.put, List.setIfInBounds_toArray, List.set_cons_zero, List.set_cons_succ]
          refine wpAnyH_ready (rs := [12, 16]) (by kernel_rfl) (by simp) ?_
          refine (AllReadyH.cons (o := { dst := some 68, op := Op.call { callee := Callee.value (Operand.func 27), args := #[Operand.tmp 59, Operand.tmp 63, Operand.tmp 67], argTypes := #[24, 24, 24] }, type := 32, pos := "law.go:107", after := #[{ on := 3, ground := Ground.data }, { on := 7, ground := Ground.data }, { on := 11, ground := Ground.data }], guard := none }) rfl (fun K hK => ?_) (AllReadyH.cons (o := { dst := some 13, op := Op.alloc 24, type := 0, pos := "law.go:107", after := #[], guard := none }) rfl (fun K hK => ?_) AllReadyH.nil))
          · go_simp
            refine (RA.out _ _ _ _ (L61_E.out.q (Rl.SU.here hS)) (L61_F.out.q (Rl.SU.here hS)) (L61_G.out.q (Rl.SU.here hS))).mono ?_
            rintro e yT11x13 ⟨a9, c9, rfl, hx9, hq⟩
            try (go_wp2_with fail)
            have hlf := hx9
            have hx9 := Rr.lf_lst hlf
            clear hlf
            have hS2 := SQ.out _ (Q.trans (Rl.SU.here hS) hq)
            refine hK.out _ _ (by exact hS2) (fun hHeld => ?_)
            clear hK K hHeld hS hq
            have hS := hS2
            clear hS2
            try simp only [Act.put, List.setIfInBounds_toArray, List.set_cons_zero, List.set_cons_succ]
            refine wpAnyH_take (i := 13) (oi := { dst := some 55, op := Op.move (Operand.tmp 68), type := 32, pos := "law.go:107", after := #[{ on := 12, ground := Ground.data }], guard := none }) (v := ?vT11x14) rfl (by kernel_rfl) (by kernel_rfl) (by kernel_rfl) (fun _ _ _ h => h) (Or.inl ⟨by rfl, ?hyT11x14⟩) (by exact hS) ?rsT11x14
            case hyT11x14 => (intro w hSw; (try dsimp only at hSw); unfold Rl.SU at hSw; go_simp; try with_reducible rfl)
            try simp only [Act.put, List.setIfInBounds_toArray, List.set_cons_zero, List.set_cons_succ]
            refine wpAnyH_take (i := 14) (oi := { dst := some 69, op := Op.extract (Operand.tmp 55) 0, type := 24, pos := "law.go:107", after := #[{ on := 13, ground := Ground.data }], guard := none }) (v := ?vT11x15) rfl (by kernel_rfl) (by kernel_rfl) (by kernel_rfl) (fun _ _ _ h => h) (Or.inl ⟨by rfl, ?hyT11x15⟩) (by exact hS) ?rsT11x15
            case hyT11x15 => (intro w hSw; (try dsimp only at hSw); unfold Rl.SU at hSw; go_simp; try with_reducible rfl)
            try simp only [Act.put, List.setIfInBounds_toArray, List.set_cons_zero, List.set_cons_succ]
            refine wpAnyH_take (i := 15) (oi := { dst := some 70, op := Op.extract (Operand.tmp 55) 1, type := 28, pos := "law.go:107", after := #[{ on := 13, ground := Ground.data }, { on := 17, ground := Ground.gcOnly Departure.lateStores }], guard := none }) (v := ?vT11x16) rfl (by kernel_rfl) (by kernel_rfl) (by kernel_rfl) (fun _ _ _ h => h) (Or.inl ⟨by rfl, ?hyT11x16⟩) (by exact hS) ?rsT11x16
            case hyT11x16 => (intro w hSw; (try dsimp only at hSw); unfold Rl.SU at hSw; go_simp; try with_reducible rfl)
            try simp only [Act.put, List.setIfInBounds_toArray, List.set_cons_zero, List.set_cons_succ]
            refine wpAnyH_ready (rs := [16]) (by kernel_rfl) (by simp) ?_
            refine (AllReadyH.cons (o := { dst := some 13, op := Op.alloc 24, type := 0, pos := "law.go:107", after := #[], guard := none }) rfl (fun K hK => ?_) AllReadyH.nil)
            go_simp
            have hq := (Q.refl yT11x13).alloc (.cells #[.bool false, .slice none 0 0, .int .i64 0] 24)
            have hB := heap_alloc_new yT11x13 (.cells #[.bool false, .slice none 0 0, .int .i64 0] 24)
            have hbu : yT11x13.heap.size < (yT11x13.alloc (.cells #[.bool false, .slice none 0 0, .int .i64 0] 24)).heap.size := by rw [World.size_alloc]; omega
            have hWb := (Rl.SU.here hS).le
            have hne_hx9 : ∀ (a : Addr) (n c : Nat), (.slice a9 z c9 : Value) = .slice (some a) n c → n ≠ 0 → a.block ≠ yT11x13.heap.size := fun a n c h1 h2 => Nat.ne_of_lt (Lst.old hx9 a n c h1 h2)
            have hx9 := Lst.q hx9 hq
            have hS2 := SQ.out _ (Q.trans (Rl.SU.here hS) hq)
            refine hK.out _ _ (by exact hS2) (fun hHeld => ?_)
            clear hK K hHeld hS hq
            have hS := hS2
            clear hS2
            generalize yT11x13.alloc (.cells #[.bool false, .slice none 0 0, .int .i64 0] 24) = yT11x17 at *
            generalize yT11x13.heap.size = b9 at *
            have hne := hne_hx9
            try simp only [Act.put, List.setIfInBounds_toArray, List.set_cons_zero, List.set_cons_succ]
            refine wpAnyH_ready (rs := [17]) (by kernel_rfl) (by simp) ?_
            refine (AllReadyH.cons (o := { dst := none, op := Op.store 24 (Operand.tmp 13) (Operand.tmp 69), type := 0, pos := "law.go:107", after := #[{ on := 16, ground := Ground.data }, { on := 14, ground := Ground.data }, { on := 12, ground := Ground.chain }, { on := 0, ground := Ground.phase }, { on := 1, ground := Ground.phase }, { on := 2, ground := Ground.phase }, { on := 3, ground := Ground.phase }, { on := 4, ground := Ground.phase }, { on := 5, ground := Ground.phase }, { on := 6, ground := Ground.phase }, { on := 7, ground := Ground.phase }, { on := 8, ground := Ground.phase }, { on := 9, ground := Ground.phase }, { on := 10, ground := Ground.phase }, { on := 11, ground := Ground.phase }, { on := 12, ground := Ground.phase }, { on := 13, ground := Ground.phase }, { on := 14, ground := Ground.phase }, { on := 15, ground := Ground.textOnly Departure.lateStores }, { on := 16, ground := Ground.phase }], guard := none }) rfl (fun K hK => ?_) AllReadyH.nil)
            obtain ⟨f0, f1, f2, f3, f4, f5⟩ := Er.block_cells hB
            have hset := Er.block_set (x' := .bool gr) (y' := .slice a9 z c9) (z' := .int .i64 sr) hB
            have hqW := ((Q.setCell (Q.setCell (Q.setCell (Rl.SU.here hS) (ad := ⟨b9, 0, none⟩) hWb (.bool gr)) (ad := ⟨b9, 1, none⟩) hWb (.slice a9 z c9)) (ad := ⟨b9, 2, none⟩) hWb (.int .i64 sr)))
            have hl := Lst.setCell (Lst.setCell (Lst.setCell hx9 (ad := ⟨b9, 0, none⟩) (.bool gr) hne) (ad := ⟨b9, 1, none⟩) (.slice a9 z c9) hne) (ad := ⟨b9, 2, none⟩) (.int .i64 sr) hne
            go_simp
            have hS2 := SQ.out _ hqW
            refine hK.out _ _ (by exact hS2) (fun hHeld => ?_)
            clear hK K hHeld hS
            have hS := hS2
            clear hS2 f0 f1 f2 f3 f4 f5
            try simp only [Act.put, List.setIfInBounds_toArray, List.set_cons_zero, List.set_cons_succ]
            refine wpAnyH_take (i := 18) (oi := { dst := some 14, op := Op.assign (Operand.tmp 70), type := 28, pos := "law.go:107", after := #[{ on := 15, ground := Ground.data }, { on := 17, ground := Ground.chain }, { on := 0, ground := Ground.phase }, { on := 1, ground := Ground.phase }, { on := 2, ground := Ground.phase }, { on := 3, ground := Ground.phase }, { on := 4, ground := Ground.phase }, { on := 5, ground := Ground.phase }, { on := 6, ground := Ground.phase }, { on := 7, ground := Ground.phase }, { on := 8, ground := Ground.phase }, { on := 9, ground := Ground.phase }, { on := 10, ground := Ground.phase }, { on := 11, ground := Ground.phase }, { on := 12, ground := Ground.phase }, { on := 13, ground := Ground.phase }, { on := 14, ground := Ground.phase }, { on := 15, ground := Ground.phase }, { on := 16, ground := Ground.phase }, { on := 17, ground := Ground.phase }], guard := none }) (v := ?vT11x19) rfl (by kernel_rfl) (by kernel_rfl) (by kernel_rfl) (fun _ _ _ h => h) (Or.inl ⟨by rfl, ?hyT11x19⟩) (by exact hS) ?rsT11x19
            case hyT11x19 => (intro w hSw; (try dsimp only at hSw); unfold Rl.SU at hSw; go_simp; try with_reducible rfl)
            try simp only [Act.put, List.setIfInBounds_toArray, List.set_cons_zero, List.set_cons_succ]
            refine wpAnyH_done (by kernel_rfl) ?_ _
            go_wp2_with fail
            go_meet
            exact ⟨b9, a9, c9, rfl, rfl, hset, hl, hqW⟩
          · go_simp
            have hq := (Q.refl yT11x0).alloc (.cells #[.bool false, .slice none 0 0, .int .i64 0] 24)
            have hB := heap_alloc_new yT11x0 (.cells #[.bool false, .slice none 0 0, .int .i64 0] 24)
            have hbu : yT11x0.heap.size < (yT11x0.alloc (.cells #[.bool false, .slice none 0 0, .int .i64 0] 24)).heap.size := by rw [World.size_alloc]; omega
            have hWb := (Rl.SU.here hS).le
            have hS2 := SQ.out _ (Q.trans (Rl.SU.here hS) hq)
            refine hK.out _ _ (by exact hS2) (fun hHeld => ?_)
            clear hK K hHeld hS hq
            have hS := hS2
            clear hS2
            generalize yT11x0.alloc (.cells #[.bool false, .slice none 0 0, .int .i64 0] 24) = yT11x20 at *
            generalize yT11x0.heap.size = b9 at *
            try simp only [Act.put, List.setIfInBounds_toArray, List.set_cons_zero, List.set_cons_succ]
            refine wpAnyH_ready (rs := [12]) (by kernel_rfl) (by simp) ?_
            refine (AllReadyH.cons (o := { dst := some 68, op := Op.call { callee := Callee.value (Operand.func 27), args := #[Operand.tmp 59, Operand.tmp 63, Operand.tmp 67], argTypes := #[24, 24, 24] }, type := 32, pos := "law.go:107", after := #[{ on := 3, ground := Ground.data }, { on := 7, ground := Ground.data }, { on := 11, ground := Ground.data }], guard := none }) rfl (fun K hK => ?_) AllReadyH.nil)
            go_simp
            refine (RA.out _ _ _ _ (L61_E.out.q (Rl.SU.here hS)) (L61_F.out.q (Rl.SU.here hS)) (L61_G.out.q (Rl.SU.here hS))).mono ?_
            rintro e yT11x21 ⟨a9, c9, rfl, hx9, hq⟩
            try (go_wp2_with fail)
            have hB := (Q.block hq (lt_of_block hB)).trans hB
            have hlf := hx9
            have hx9 := Rr.lf_lst hlf
            have hne : ∀ (a : Addr) (n c : Nat), (.slice a9 z c9 : Value) = .slice (some a) n c → n ≠ 0 → a.block ≠ b9 := Rr.lf_ne hlf hbu
            clear hlf
            have hS2 := SQ.out _ (Q.trans (Rl.SU.here hS) hq)
            have hbu := Nat.lt_of_lt_of_le hbu hq.le
            refine hK.out _ _ (by exact hS2) (fun hHeld => ?_)
            clear hK K hHeld hS hq
            have hS := hS2
            clear hS2
            try simp only [Act.put, List.setIfInBounds_toArray, List.set_cons_zero, List.set_cons_succ]
            refine wpAnyH_take (i := 13) (oi := { dst := some 55, op := Op.move (Operand.tmp 68), type := 32, pos := "law.go:107", after := #[{ on := 12, ground := Ground.data }], guard := none }) (v := ?vT11x22) rfl (by kernel_rfl) (by kernel_rfl) (by kernel_rfl) (fun _ _ _ h => h) (Or.inl ⟨by rfl, ?hyT11x22⟩) (by exact hS) ?rsT11x22
            case hyT11x22 => (intro w hSw; (try dsimp only at hSw); unfold Rl.SU at hSw; go_simp; try with_reducible rfl)
            try simp only [Act.put, List.setIfInBounds_toArray, List.set_cons_zero, List.set_cons_succ]
            refine wpAnyH_take (i := 14) (oi := { dst := some 69, op := Op.extract (Operand.tmp 55) 0, type := 24, pos := "law.go:107", after := #[{ on := 13, ground := Ground.data }], guard := none }) (v := ?vT11x23) rfl (by kernel_rfl) (by kernel_rfl) (by kernel_rfl) (fun _ _ _ h => h) (Or.inl ⟨by rfl, ?hyT11x23⟩) (by exact hS) ?rsT11x23
            case hyT11x23 => (intro w hSw; (try dsimp only at hSw); unfold Rl.SU at hSw; go_simp; try with_reducible rfl)
            try simp only [Act.put, List.setIfInBounds_toArray, List.set_cons_zero, List.set_cons_succ]
            refine wpAnyH_take (i := 15) (oi := { dst := some 70, op := Op.extract (Operand.tmp 55) 1, type := 28, pos := "law.go:107", after := #[{ on := 13, ground := Ground.data }, { on := 17, ground := Ground.gcOnly Departure.lateStores }], guard := none }) (v := ?vT11x24) rfl (by kernel_rfl) (by kernel_rfl) (by kernel_rfl) (fun _ _ _ h => h) (Or.inl ⟨by rfl, ?hyT11x24⟩) (by exact hS) ?rsT11x24
            case hyT11x24 => (intro w hSw; (try dsimp only at hSw); unfold Rl.SU at hSw; go_simp; try with_reducible rfl)
            try simp only [Act.put, List.setIfInBounds_toArray, List.set_cons_zero, List.set_cons_succ]
            refine wpAnyH_ready (rs := [17]) (by kernel_rfl) (by simp) ?_
            refine (AllReadyH.cons (o := { dst := none, op := Op.store 24 (Operand.tmp 13) (Operand.tmp 69), type := 0, pos := "law.go:107", after := #[{ on := 16, ground := Ground.data }, { on := 14, ground := Ground.data }, { on := 12, ground := Ground.chain }, { on := 0, ground := Ground.phase }, { on := 1, ground := Ground.phase }, { on := 2, ground := Ground.phase }, { on := 3, ground := Ground.phase }, { on := 4, ground := Ground.phase }, { on := 5, ground := Ground.phase }, { on := 6, ground := Ground.phase }, { on := 7, ground := Ground.phase }, { on := 8, ground := Ground.phase }, { on := 9, ground := Ground.phase }, { on := 10, ground := Ground.phase }, { on := 11, ground := Ground.phase }, { on := 12, ground := Ground.phase }, { on := 13, ground := Ground.phase }, { on := 14, ground := Ground.phase }, { on := 15, ground := Ground.textOnly Departure.lateStores }, { on := 16, ground := Ground.phase }], guard := none }) rfl (fun K hK => ?_) AllReadyH.nil)
            obtain ⟨f0, f1, f2, f3, f4, f5⟩ := Er.block_cells hB
            have hset := Er.block_set (x' := .bool gr) (y' := .slice a9 z c9) (z' := .int .i64 sr) hB
            have hqW := ((Q.setCell (Q.setCell (Q.setCell (Rl.SU.here hS) (ad := ⟨b9, 0, none⟩) hWb (.bool gr)) (ad := ⟨b9, 1, none⟩) hWb (.slice a9 z c9)) (ad := ⟨b9, 2, none⟩) hWb (.int .i64 sr)))
            have hl := Lst.setCell (Lst.setCell (Lst.setCell hx9 (ad := ⟨b9, 0, none⟩) (.bool gr) hne) (ad := ⟨b9, 1, none⟩) (.slice a9 z c9) hne) (ad := ⟨b9, 2, none⟩) (.int .i64 sr) hne
            go_simp
            have hS2 := SQ.out _ hqW
            refine hK.out _ _ (by exact hS2) (fun hHeld => ?_)
            clear hK K hHeld hS
            have hS := hS2
            clear hS2 f0 f1 f2 f3 f4 f5
            try simp only [Act.put, List.setIfInBounds_toArray, List.set_cons_zero, List.set_cons_succ]
            refine wpAnyH_take (i := 18) (oi := { dst := some 14, op := Op.assign (Operand.tmp 70), type := 28, pos := "law.go:107", after := #[{ on := 15, ground := Ground.data }, { on := 17, ground := Ground.chain }, { on := 0, ground := Ground.phase }, { on := 1, ground := Ground.phase }, { on := 2, ground := Ground.phase }, { on := 3, ground := Ground.phase }, { on := 4, ground := Ground.phase }, { on := 5, ground := Ground.phase }, { on := 6, ground := Ground.phase }, { on := 7, ground := Ground.phase }, { on := 8, ground := Ground.phase }, { on := 9, ground := Ground.phase }, { on := 10, ground := Ground.phase }, { on := 11, ground := Ground.phase }, { on := 12, ground := Ground.phase }, { on := 13, ground := Ground.phase }, { on := 14, ground := Ground.phase }, { on := 15, ground := Ground.phase }, { on := 16, ground := Ground.phase }, { on := 17, ground := Ground.phase }], guard := none }) (v := ?vT11x26) rfl (by kernel_rfl) (by kernel_rfl) (by kernel_rfl) (fun _ _ _ h => h) (Or.inl ⟨by rfl, ?hyT11x26⟩) (by exact hS) ?rsT11x26
            case hyT11x26 => (intro w hSw; (try dsimp only at hSw); unfold Rl.SU at hSw; go_simp; try with_reducible rfl)
            try simp only [Act.put, List.setIfInBounds_toArray, List.set_cons_zero, List.set_cons_succ]
            refine wpAnyH_done (by kernel_rfl) ?_ _
            go_wp2_with fail
            go_meet
            exact ⟨b9, a9, c9, rfl, rfl, hset, hl, hqW⟩
        case rest =>
          obtain ⟨b13, a13, c13, rfl, rfl, hb13, hl13, hqc⟩ := hcut
          obtain ⟨w13, hw13⟩ : ∃ x, x = wc := ⟨_, rfl⟩
          subst hw13
          have HB13 := Lib.hid hb13
          have LZ13 := Lib.hid hl13
          clear SQ hb13 hl13
          have L62_E := Lib.hid (Lst.q L61_E.out hqc)
          clear L61_E
          have L62_F := Lib.hid (Lst.q L61_F.out hqc)
          clear L61_F
          have L62_G := Lib.hid (Lst.q L61_G.out hqc)
          clear L61_G
          have L62_Z11 := Lib.hid (Lst.q LZ11.out hqc)
          clear LZ11
          have B62_b11 := Lib.hid ((Q.block hqc (lt_of_block HB11.out)).trans HB11.out)
          clear HB11
          have H62_X := Lib.hid ((Q.block hqc (lt_of_block H61_X.out)).trans H61_X.out)
          clear H61_X
          have H62_Y := Lib.hid ((Q.block hqc (lt_of_block H61_Y.out)).trans H61_Y.out)
          clear H61_Y
          have H62_O := Lib.hid ((Q.block hqc (lt_of_block H61_O.out)).trans H61_O.out)
          clear H61_O
          have Q62 := Lib.hid (Q.trans Q61.out hqc)
          clear Q61
          clear hqc
          have SQ := Lib.hid (fun u (q : Q (w13) u) => (Ep.SB2.of B62_b11.out HB13.out q : Ep.SB2 (w13) (b11) gr (.slice a11 z c11) (sr) (b13) gr (.slice a13 z c13) (sr) u))
          go_wp2_with fail
          refine wp_region_held_drew (S := fun u => Ep.SB2 (w13) (b11) gr (.slice a11 z c11) (sr) (b13) gr (.slice a13 z c13) (sr) u) (by kernel_rfl) (by exact SQ.out _ ((Q.refl w13).drew)) (fun hHeld => ?_)
          have hS : Ep.SB2 (w13) (b11) gr (.slice a11 z c11) (sr) (b13) gr (.slice a13 z c13) (sr) w13.drew := hHeld
          clear hHeld
          generalize w13.drew = yT12x0 at hS ⊢
          refine wpAnyH_take (i := 0) (oi := { dst := some 71, op := Op.move (Operand.tmp 12), type := 28, pos := "law.go:108", after := #[], guard := none }) (v := ?vT12x1) rfl (by kernel_rfl) (by kernel_rfl) (by kernel_rfl) (fun _ _ _ h => h) (Or.inl ⟨by rfl, ?hyT12x1⟩) (by exact hS) ?rsT12x1
          case hyT12x1 => (intro w hSw; (try dsimp only at hSw); unfold Ep.SB2 at hSw; go_simp; try with_reducible rfl)
          try simp only [Act.put, List.setIfInBounds_toArray, List.set_cons_zero, List.set_cons_succ]
          refine wpAnyH_take (i := 1) (oi := { dst := some 72, op := Op.move (Operand.tmp 14), type := 28, pos := "law.go:108", after := #[], guard := none }) (v := ?vT12x2) rfl (by kernel_rfl) (by kernel_rfl) (by kernel_rfl) (fun _ _ _ h => h) (Or.inl ⟨by rfl, ?hyT12x2⟩) (by exact hS) ?rsT12x2
          case hyT12x2 => (intro w hSw; (try dsimp only at hSw); unfold Ep.SB2 at hSw; go_simp; try with_reducible rfl)
          try simp only [Act.put, List.setIfInBounds_toArray, List.set_cons_zero, List.set_cons_succ]
          refine wpAnyH_take (i := 2) (oi := { dst := some 73, op := Op.binOp BinOp.neq 28 (Operand.tmp 71) (Operand.tmp 72) 28, type := 4, pos := "law.go:108", after := #[{ on := 0, ground := Ground.data }, { on := 1, ground := Ground.data }], guard := none }) (v := ?vT12x3) rfl (by kernel_rfl) (by kernel_rfl) (by kernel_rfl) (fun _ _ _ h => h) (Or.inl ⟨by rfl, ?hyT12x3⟩) (by exact hS) ?rsT12x3
          case hyT12x3 => (intro w hSw; (try dsimp only at hSw); unfold Ep.SB2 at hSw; go_simp; try with_reducible rfl)
          try simp only [Act.put, List.setIfInBounds_toArray, List.set_cons_zero, List.set_cons_succ]
          refine wpAnyH_take (i := 3) (oi := { dst := some 74, op := Op.move (Operand.tmp 73), type := 4, pos := "law.go:108", after := #[{ on := 2, ground := Ground.data }], guard := none }) (v := ?vT12x4) rfl (by kernel_rfl) (by kernel_rfl) (by kernel_rfl) (fun _ _ _ h => h) (Or.inl ⟨by rfl, ?hyT12x4⟩) (by exact hS) ?rsT12x4
          case hyT12x4 => (intro w hSw; (try dsimp only at hSw); unfold Ep.SB2 at hSw; go_simp; try with_reducible rfl)
          try simp only [Act.put, List.setIfInBounds_toArray, List.set_cons_zero, List.set_cons_succ]
          refine wpAnyH_take (i := 4) (oi := { dst := some 75, op := Op.load 27 (Operand.tmp 11), type := 27, pos := "law.go:108", after := #[{ on := 3, ground := Ground.guard }], guard := some (3, false) }) (v := ?vT12x5) rfl (by kernel_rfl) (by kernel_rfl) (by kernel_rfl) (fun _ _ _ h => h) (Or.inl ⟨by rfl, ?hyT12x5⟩) (by exact hS) ?rsT12x5
          case hyT12x5 => (intro w hSw; (try dsimp only at hSw); unfold Ep.SB2 at hSw; go_simp; try with_reducible rfl)
          try simp only [Act.put, List.setIfInBounds_toArray, List.set_cons_zero, List.set_cons_succ]
          refine wpAnyH_take (i := 6) (oi := { dst := some 77, op := Op.load 24 (Operand.tmp 13), type := 24, pos := "law.go:108", after := #[{ on := 3, ground := Ground.guard }], guard := some (3, false) }) (v := ?vT12x6) rfl (by kernel_rfl) (by kernel_rfl) (by kernel_rfl) (fun _ _ _ h => h) (Or.inl ⟨by rfl, ?hyT12x6⟩) (by exact hS) ?rsT12x6
          case hyT12x6 => (intro w hSw; (try dsimp only at hSw); unfold Ep.SB2 at hSw; go_simp; try with_reducible rfl)
          try simp only [Act.put, List.setIfInBounds_toArray, List.set_cons_zero, List.set_cons_succ]
          refine wpAnyH_ready (rs := [5]) (by kernel_rfl) (by simp) ?_
          refine (AllReadyH.cons (o := { dst := some 76, op := Op.call { callee := Callee.value (Operand.func 17), args := #[Operand.tmp 75], argTypes := #[27] }, type := 24, pos := "law.go:108", after := #[{ on := 4, ground := Ground.data }, { on := 3, ground := Ground.chain }, { on := 3, ground := Ground.guard }], guard := some (3, false) }) rfl (fun K hK => ?_) AllReadyH.nil)
          go_simp
          refine (Rl.as_sh _ _ _ _ _ _).mono ?_
          rintro e yT12x7 ⟨rfl, hq⟩
          try (go_wp2_with fail)
          have hS2 := SQ.out _ (Q.trans (Ep.SB2.here hS) hq)
          refine hK.out _ _ (by exact hS2) (fun hHeld => ?_)
          clear hK K hHeld hS hq
          have hS := hS2
          clear hS2
          try simp only [Act.put, List.setIfInBounds_toArray, List.set_cons_zero, List.set_cons_succ]
          refine wpAnyH_ready (rs := [7]) (by kernel_rfl) (by simp) ?_
          refine (AllReadyH.cons (o := { dst := some 78, op := Op.call { callee := Callee.value (Operand.func 16), args := #[Operand.tmp 76, Operand.tmp 77], argTypes := #[24, 24] }, type := 4, pos := "law.go:108", after := #[{ on := 5, ground := Ground.data }, { on := 6, ground := Ground.data }, { on := 5, ground := Ground.chain }, { on := 3, ground := Ground.guard }], guard := some (3, false) }) rfl (fun K hK => ?_) AllReadyH.nil)
          go_simp
          refine (HSM.out _ _ _ _ _ (L62_Z11.out.q (Ep.SB2.here hS)) (LZ13.out.q (Ep.SB2.here hS))).mono ?_
          rintro e yT12x8 ⟨rfl, hq⟩
          try (go_wp2_with fail)
          have hS2 := SQ.out _ (Q.trans (Ep.SB2.here hS) hq)
          refine hK.out _ _ (by exact hS2) (fun hHeld => ?_)
          clear hK K hHeld hS hq
          have hS := hS2
          clear hS2
          try simp only [Act.put, List.setIfInBounds_toArray, List.set_cons_zero, List.set_cons_succ]
          refine wpAnyH_take (i := 8) (oi := { dst := some 79, op := Op.unOp UnOp.not 4 (Operand.tmp 78), type := 4, pos := "law.go:108", after := #[{ on := 7, ground := Ground.data }, { on := 3, ground := Ground.guard }], guard := some (3, false) }) (v := ?vT12x9) rfl (by kernel_rfl) (by kernel_rfl) (by kernel_rfl) (fun _ _ _ h => h) (Or.inl ⟨by rfl, ?hyT12x9⟩) (by exact hS) ?rsT12x9
          case hyT12x9 => (intro w hSw; (try dsimp only at hSw); unfold Ep.SB2 at hSw; go_simp; try with_reducible rfl)
          try simp only [Act.put, List.setIfInBounds_toArray, List.set_cons_zero, List.set_cons_succ]
          refine wpAnyH_take (i := 9) (oi := { dst := some 80, op := Op.pick (Operand.tmp 74) (Operand.const (Value.bool true)) (Operand.tmp 79), type := 4, pos := "law.go:108", after := #[{ on := 3, ground := Ground.data }, { on := 8, ground := Ground.data }], guard := none }) (v := ?vT12x10) rfl (by kernel_rfl) (by kernel_rfl) (by kernel_rfl) (fun _ _ _ h => h) (Or.inl ⟨by rfl, ?hyT12x10⟩) (by exact hS) ?rsT12x10
          case hyT12x10 => (intro w hSw; (try dsimp only at hSw); unfold Ep.SB2 at hSw; go_simp; try with_reducible rfl)
          try simp only [Act.put, List.setIfInBounds_toArray, List.set_cons_zero, List.set_cons_succ]
          refine wpAnyH_done (by kernel_rfl) ?_ _
          have hqr := Ep.SB2.here hS
          clear hS SQ
          have L63_E := Lib.hid (Lst.q L62_E.out hqr)
          clear L62_E
          have L63_F := Lib.hid (Lst.q L62_F.out hqr)
          clear L62_F
          have L63_G := Lib.hid (Lst.q L62_G.out hqr)
          clear L62_G
          have L63_Z11 := Lib.hid (Lst.q L62_Z11.out hqr)
          clear L62_Z11
          have L63_Z13 := Lib.hid (Lst.q LZ13.out hqr)
          clear LZ13
          have B63_b11 := Lib.hid ((Q.block hqr (lt_of_block B62_b11.out)).trans B62_b11.out)
          clear B62_b11
          have B63_b13 := Lib.hid ((Q.block hqr (lt_of_block HB13.out)).trans HB13.out)
          clear HB13
          have H63_X := Lib.hid ((Q.block hqr (lt_of_block H62_X.out)).trans H62_X.out)
          clear H62_X
          have H63_Y := Lib.hid ((Q.block hqr (lt_of_block H62_Y.out)).trans H62_Y.out)
          clear H62_Y
          have H63_O := Lib.hid ((Q.block hqr (lt_of_block H62_O.out)).trans H62_O.out)
          clear H62_O
          have Q63 := Lib.hid (Q.trans Q62.out hqr)
          clear Q62
          clear hqr
          rcases HBK.out with he | ⟨he, pb⟩
          · have hed : decide (er = 0) = false := by simp [he]
            have hee : (er == 0) = false := by simp [he]
            have hen : (er != 0) = true := by simp [he]
            go_wp2_with fail
            exact ⟨⟨i + 1, by go_num, by omega, H63_X.out, H63_Y.out, H63_O.out, Q63.out⟩, by simp [intOf]; omega⟩
          · subst he
            have PB := Lib.hid pb
            clear pb HBK
            have SQ := Lib.hid (fun u (q : Q yT12x8 u) => (by
              obtain ⟨x0, x1, x2⟩ := CX.out u ((Q.block q (lt_of_block H63_X.out)).trans H63_X.out)
              obtain ⟨x3, x4, x5⟩ := CY.out u ((Q.block q (lt_of_block H63_Y.out)).trans H63_Y.out)
              obtain ⟨x6, x7, x8⟩ := CO.out u ((Q.block q (lt_of_block H63_O.out)).trans H63_O.out)
              obtain ⟨x9, x10, x11, _, _, _⟩ := Er.block_cells ((Q.block q (lt_of_block B63_b11.out)).trans B63_b11.out)
              exact ⟨x0, x1, x2, x3, x4, x5, x6, x7, x8, x9, x10, x11, q⟩ : Rl.SV yT12x8 X Y O i g0 (.slice a n c) s g1 (.slice b m d) t g2 (.slice e0 o f0) r b11 gr (.slice a11 z c11) sr u))
            go_upto_region 12 with fail
            go_cut [15, 16] from 32 to 106 (fun p e wx => ∃ b9 a9 c9, p = .pointer (some ⟨b9, 0, none⟩) ∧ e = .int .i64 0 ∧ wx.heap[b9]? = some (.cells #[.bool gr, .slice a9 z c9, .int .i64 sr] 27) ∧ Lst wx (.slice a9 z c9) Z ∧ Q yT12x8 wx)
            case first =>
              refine wp_region_held_drew (S := fun u => Rl.SV yT12x8 X Y O i g0 (.slice a n c) s g1 (.slice b m d) t g2 (.slice e0 o f0) r b11 gr (.slice a11 z c11) sr u) (by kernel_rfl) (by exact SQ.out _ ((Q.refl yT12x8).drew)) (fun hHeld => ?_)
              have hS : Rl.SV yT12x8 X Y O i g0 (.slice a n c) s g1 (.slice b m d) t g2 (.slice e0 o f0) r b11 gr (.slice a11 z c11) sr yT12x8.drew := hHeld
              clear hHeld
              generalize yT12x8.drew = yT13x0 at hS ⊢
              refine wpAnyH_take (i := 0) (oi := { dst := some 84, op := Op.load 27 (Operand.tmp 11), type := 27, pos := "law.go:114", after := #[], guard := none }) (v := ?vT13x1) rfl (by kernel_rfl) (by kernel_rfl) (by kernel_rfl) (fun _ _ _ h => h) (Or.inl ⟨by rfl, ?hyT13x1⟩) (by exact hS) ?rsT13x1
              case hyT13x1 => (intro w hSw; (try dsimp only at hSw); unfold Rl.SV at hSw; go_simp; try with_reducible rfl)
              try simp only [Act.put, List.setIfInBounds_toArray, List.set_cons_zero, List.set_cons_succ]
              refine wpAnyH_take (i := 1) (oi := { dst := some 85, op := Op.move (Operand.tmp 8), type := 46, pos := "law.go:114", after := #[], guard := none }) (v := ?vT13x2) rfl (by kernel_rfl) (by kernel_rfl) (by kernel_rfl) (fun _ _ _ h => h) (Or.inl ⟨by rfl, ?hyT13x2⟩) (by exact hS) ?rsT13x2
              case hyT13x2 => (intro w hSw; (try dsimp only at hSw); unfold Rl.SV at hSw; go_simp; try with_reducible rfl)
              try simp only [Act.put, List.setIfInBounds_toArray, List.set_cons_zero, List.set_cons_succ]
              refine wpAnyH_take (i := 2) (oi := { dst := some 86, op := Op.move (Operand.tmp 10), type := 3, pos := "law.go:114", after := #[], guard := none }) (v := ?vT13x3) rfl (by kernel_rfl) (by kernel_rfl) (by kernel_rfl) (fun _ _ _ h => h) (Or.inl ⟨by rfl, ?hyT13x3⟩) (by exact hS) ?rsT13x3
              case hyT13x3 => (intro w hSw; (try dsimp only at hSw); unfold Rl.SV at hSw; go_simp; try with_reducible rfl)
              try simp only [Act.put, List.setIfInBounds_toArray, List.set_cons_zero, List.set_cons_succ]
              refine wpAnyH_take (i := 3) (oi := { dst := some 87, op := Op.indexAddr 46 (Operand.tmp 85) (Operand.tmp 86), type := 0, pos := "law.go:114", after := #[{ on := 1, ground := Ground.data }, { on := 2, ground := Ground.data }], guard := none }) (v := ?vT13x4) rfl (by kernel_rfl) (by kernel_rfl) (by kernel_rfl) (fun _ _ _ h => h) (Or.inl ⟨by rfl, ?hyT13x4⟩) (by exact hS) ?rsT13x4
              case hyT13x4 => (intro w hSw; (try dsimp only at hSw); unfold Rl.SV at hSw; go_simp; try with_reducible rfl)
              try simp only [Act.put, List.setIfInBounds_toArray, List.set_cons_zero, List.set_cons_succ]
              refine wpAnyH_take (i := 4) (oi := { dst := some 88, op := Op.load 24 (Operand.tmp 87), type := 24, pos := "law.go:114", after := #[{ on := 3, ground := Ground.data }], guard := none }) (v := ?vT13x5) rfl (by kernel_rfl) (by kernel_rfl) (by kernel_rfl) (fun _ _ _ h => h) (Or.inl ⟨by rfl, ?hyT13x5⟩) (by exact hS) ?rsT13x5
              case hyT13x5 => (intro w hSw; (try dsimp only at hSw); unfold Rl.SV at hSw; go_simp; try with_reducible rfl)
              try simp only [Act.put, List.setIfInBounds_toArray, List.set_cons_zero, List.set_cons_succ]
              refine wpAnyH_take (i := 6) (oi := { dst := some 90, op := Op.move (Operand.tmp 9), type := 46, pos := "law.go:114", after := #[], guard := none }) (v := ?vT13x6) rfl (by kernel_rfl) (by kernel_rfl) (by kernel_rfl) (fun _ _ _ h => h) (Or.inl ⟨by rfl, ?hyT13x6⟩) (by exact hS) ?rsT13x6
              case hyT13x6 => (intro w hSw; (try dsimp only at hSw); unfold Rl.SV at hSw; go_simp; try with_reducible rfl)
              try simp only [Act.put, List.setIfInBounds_toArray, List.set_cons_zero, List.set_cons_succ]
              refine wpAnyH_take (i := 7) (oi := { dst := some 91, op := Op.move (Operand.tmp 10), type := 3, pos := "law.go:114", after := #[], guard := none }) (v := ?vT13x7) rfl (by kernel_rfl) (by kernel_rfl) (by kernel_rfl) (fun _ _ _ h => h) (Or.inl ⟨by rfl, ?hyT13x7⟩) (by exact hS) ?rsT13x7
              case hyT13x7 => (intro w hSw; (try dsimp only at hSw); unfold Rl.SV at hSw; go_simp; try with_reducible rfl)
              try simp only [Act.put, List.setIfInBounds_toArray, List.set_cons_zero, List.set_cons_succ]
              refine wpAnyH_take (i := 8) (oi := { dst := some 92, op := Op.indexAddr 46 (Operand.tmp 90) (Operand.tmp 91), type := 0, pos := "law.go:114", after := #[{ on := 6, ground := Ground.data }, { on := 7, ground := Ground.data }], guard := none }) (v := ?vT13x8) rfl (by kernel_rfl) (by kernel_rfl) (by kernel_rfl) (fun _ _ _ h => h) (Or.inl ⟨by rfl, ?hyT13x8⟩) (by exact hS) ?rsT13x8
              case hyT13x8 => (intro w hSw; (try dsimp only at hSw); unfold Rl.SV at hSw; go_simp; try with_reducible rfl)
              try simp only [Act.put, List.setIfInBounds_toArray, List.set_cons_zero, List.set_cons_succ]
              refine wpAnyH_take (i := 9) (oi := { dst := some 93, op := Op.load 24 (Operand.tmp 92), type := 24, pos := "law.go:114", after := #[{ on := 8, ground := Ground.data }], guard := none }) (v := ?vT13x9) rfl (by kernel_rfl) (by kernel_rfl) (by kernel_rfl) (fun _ _ _ h => h) (Or.inl ⟨by rfl, ?hyT13x9⟩) (by exact hS) ?rsT13x9
              case hyT13x9 => (intro w hSw; (try dsimp only at hSw); unfold Rl.SV at hSw; go_simp; try with_reducible rfl)
              try simp only [Act.put, List.setIfInBounds_toArray, List.set_cons_zero, List.set_cons_succ]
              refine wpAnyH_ready (rs := [5, 15]) (by kernel_rfl) (by simp) ?_
              refine (AllReadyH.cons (o := { dst := some 89, op := Op.call { callee := Callee.value (Operand.func 14), args := #[Operand.tmp 88], argTypes := #[24] }, type := 27, pos := "law.go:114", after := #[{ on := 4, ground := Ground.data }], guard := none }) rfl (fun K hK => ?_) (AllReadyH.cons (o := { dst := some 15, op := Op.alloc 27, type := 0, pos := "law.go:114", after := #[], guard := none }) rfl (fun K hK => ?_) AllReadyH.nil))
              · go_simp
                refine (Rl.of_sh _ _ _ _ _ _).mono ?_
                rintro e yT13x10 ⟨rfl, hq⟩
                try (go_wp2_with fail)
                have hS2 := SQ.out _ (Q.trans (Rl.SV.here hS) hq)
                refine hK.out _ _ (by exact hS2) (fun hHeld => ?_)
                clear hK K hHeld hS hq
                have hS := hS2
                clear hS2
                try simp only [Act.put, List.setIfInBounds_toArray, List.set_cons_zero, List.set_cons_succ]
                refine wpAnyH_ready (rs := [10, 15]) (by kernel_rfl) (by simp) ?_
                refine (AllReadyH.cons (o := { dst := some 94, op := Op.call { callee := Callee.value (Operand.func 14), args := #[Operand.tmp 93], argTypes := #[24] }, type := 27, pos := "law.go:114", after := #[{ on := 9, ground := Ground.data }, { on := 5, ground := Ground.chain }], guard := none }) rfl (fun K hK => ?_) (AllReadyH.cons (o := { dst := some 15, op := Op.alloc 27, type := 0, pos := "law.go:114", after := #[], guard := none }) rfl (fun K hK => ?_) AllReadyH.nil))
                · go_simp
                  refine (Rl.of_sh _ _ _ _ _ _).mono ?_
                  rintro e yT13x11 ⟨rfl, hq⟩
                  try (go_wp2_with fail)
                  have hS2 := SQ.out _ (Q.trans (Rl.SV.here hS) hq)
                  refine hK.out _ _ (by exact hS2) (fun hHeld => ?_)
                  clear hK K hHeld hS hq
                  have hS := hS2
                  clear hS2
                  try simp only [Act.put, List.setIfInBounds_toArray, List.set_cons_zero, List.set_cons_succ]
                  refine wpAnyH_ready (rs := [11, 15]) (by kernel_rfl) (by simp) ?_
                  refine (AllReadyH.cons (o := { dst := some 95, op := Op.call { callee := Callee.value (Operand.func 26), args := #[Operand.tmp 84, Operand.tmp 89, Operand.tmp 94], argTypes := #[27, 27, 27] }, type := 29, pos := "law.go:114", after := #[{ on := 0, ground := Ground.data }, { on := 5, ground := Ground.data }, { on := 10, ground := Ground.data }, { on := 10, ground := Ground.chain }], guard := none }) rfl (fun K hK => ?_) (AllReadyH.cons (o := { dst := some 15, op := Op.alloc 27, type := 0, pos := "law.go:114", after := #[], guard := none }) rfl (fun K hK => ?_) AllReadyH.nil))
                  · go_simp
                    refine (PB.out _ _ _ _ (L63_Z11.out.q (Rl.SV.here hS)) (L63_F.out.q (Rl.SV.here hS)) (L63_G.out.q (Rl.SV.here hS))).mono ?_
                    rintro e yT13x12 ⟨a9, c9, rfl, hx9, hq⟩
                    try (go_wp2_with fail)
                    have hlf := hx9
                    have hx9 := Rr.lf_lst hlf
                    clear hlf
                    have hS2 := SQ.out _ (Q.trans (Rl.SV.here hS) hq)
                    refine hK.out _ _ (by exact hS2) (fun hHeld => ?_)
                    clear hK K hHeld hS hq
                    have hS := hS2
                    clear hS2
                    try simp only [Act.put, List.setIfInBounds_toArray, List.set_cons_zero, List.set_cons_succ]
                    refine wpAnyH_take (i := 12) (oi := { dst := some 83, op := Op.move (Operand.tmp 95), type := 29, pos := "law.go:114", after := #[{ on := 11, ground := Ground.data }], guard := none }) (v := ?vT13x13) rfl (by kernel_rfl) (by kernel_rfl) (by kernel_rfl) (fun _ _ _ h => h) (Or.inl ⟨by rfl, ?hyT13x13⟩) (by exact hS) ?rsT13x13
                    case hyT13x13 => (intro w hSw; (try dsimp only at hSw); unfold Rl.SV at hSw; go_simp; try with_reducible rfl)
                    try simp only [Act.put, List.setIfInBounds_toArray, List.set_cons_zero, List.set_cons_succ]
                    refine wpAnyH_take (i := 13) (oi := { dst := some 96, op := Op.extract (Operand.tmp 83) 0, type := 27, pos := "law.go:114", after := #[{ on := 12, ground := Ground.data }], guard := none }) (v := ?vT13x14) rfl (by kernel_rfl) (by kernel_rfl) (by kernel_rfl) (fun _ _ _ h => h) (Or.inl ⟨by rfl, ?hyT13x14⟩) (by exact hS) ?rsT13x14
                    case hyT13x14 => (intro w hSw; (try dsimp only at hSw); unfold Rl.SV at hSw; go_simp; try with_reducible rfl)
                    try simp only [Act.put, List.setIfInBounds_toArray, List.set_cons_zero, List.set_cons_succ]
                    refine wpAnyH_take (i := 14) (oi := { dst := some 97, op := Op.extract (Operand.tmp 83) 1, type := 28, pos := "law.go:114", after := #[{ on := 12, ground := Ground.data }, { on := 16, ground := Ground.gcOnly Departure.lateStores }], guard := none }) (v := ?vT13x15) rfl (by kernel_rfl) (by kernel_rfl) (by kernel_rfl) (fun _ _ _ h => h) (Or.inl ⟨by rfl, ?hyT13x15⟩) (by exact hS) ?rsT13x15
                    case hyT13x15 => (intro w hSw; (try dsimp only at hSw); unfold Rl.SV at hSw; go_simp; try with_reducible rfl)
                    try simp only [Act.put, List.setIfInBounds_toArray, List.set_cons_zero, List.set_cons_succ]
                    refine wpAnyH_ready (rs := [15]) (by kernel_rfl) (by simp) ?_
                    refine (AllReadyH.cons (o := { dst := some 15, op := Op.alloc 27, type := 0, pos := "law.go:114", after := #[], guard := none }) rfl (fun K hK => ?_) AllReadyH.nil)
                    go_simp
                    have hq := (Q.refl yT13x12).alloc (.cells #[.bool false, .slice none 0 0, .int .i64 0] 27)
                    have hB := heap_alloc_new yT13x12 (.cells #[.bool false, .slice none 0 0, .int .i64 0] 27)
                    have hbu : yT13x12.heap.size < (yT13x12.alloc (.cells #[.bool false, .slice none 0 0, .int .i64 0] 27)).heap.size := by rw [World.size_alloc]; omega
                    have hWb := (Rl.SV.here hS).le
                    have hne_hx9 : ∀ (a : Addr) (n c : Nat), (.slice a9 z c9 : Value) = .slice (some a) n c → n ≠ 0 → a.block ≠ yT13x12.heap.size := fun a n c h1 h2 => Nat.ne_of_lt (Lst.old hx9 a n c h1 h2)
                    have hx9 := Lst.q hx9 hq
                    have hS2 := SQ.out _ (Q.trans (Rl.SV.here hS) hq)
                    refine hK.out _ _ (by exact hS2) (fun hHeld => ?_)
                    clear hK K hHeld hS hq
                    have hS := hS2
                    clear hS2
                    generalize yT13x12.alloc (.cells #[.bool false, .slice none 0 0, .int .i64 0] 27) = yT13x16 at *
                    generalize yT13x12.heap.size = b9 at *
                    have hne := hne_hx9
                    try simp only [Act.put, List.setIfInBounds_toArray, List.set_cons_zero, List.set_cons_succ]
                    refine wpAnyH_ready (rs := [16]) (by kernel_rfl) (by simp) ?_
                    refine (AllReadyH.cons (o := { dst := none, op := Op.store 27 (Operand.tmp 15) (Operand.tmp 96), type := 0, pos := "law.go:114", after := #[{ on := 15, ground := Ground.data }, { on := 13, ground := Ground.data }, { on := 11, ground := Ground.chain }, { on := 0, ground := Ground.phase }, { on := 1, ground := Ground.phase }, { on := 2, ground := Ground.phase }, { on := 3, ground := Ground.phase }, { on := 4, ground := Ground.phase }, { on := 5, ground := Ground.phase }, { on := 6, ground := Ground.phase }, { on := 7, ground := Ground.phase }, { on := 8, ground := Ground.phase }, { on := 9, ground := Ground.phase }, { on := 10, ground := Ground.phase }, { on := 11, ground := Ground.phase }, { on := 12, ground := Ground.phase }, { on := 13, ground := Ground.phase }, { on := 14, ground := Ground.textOnly Departure.lateStores }, { on := 15, ground := Ground.phase }], guard := none }) rfl (fun K hK => ?_) AllReadyH.nil)
                    obtain ⟨f0, f1, f2, f3, f4, f5⟩ := Er.block_cells hB
                    have hset := Er.block_set (x' := .bool gr) (y' := .slice a9 z c9) (z' := .int .i64 sr) hB
                    have hqW := ((Q.setCell (Q.setCell (Q.setCell (Rl.SV.here hS) (ad := ⟨b9, 0, none⟩) hWb (.bool gr)) (ad := ⟨b9, 1, none⟩) hWb (.slice a9 z c9)) (ad := ⟨b9, 2, none⟩) hWb (.int .i64 sr)))
                    have hl := Lst.setCell (Lst.setCell (Lst.setCell hx9 (ad := ⟨b9, 0, none⟩) (.bool gr) hne) (ad := ⟨b9, 1, none⟩) (.slice a9 z c9) hne) (ad := ⟨b9, 2, none⟩) (.int .i64 sr) hne
                    go_simp
                    have hS2 := SQ.out _ hqW
                    refine hK.out _ _ (by exact hS2) (fun hHeld => ?_)
                    clear hK K hHeld hS
                    have hS := hS2
                    clear hS2 f0 f1 f2 f3 f4 f5
                    try simp only [Act.put, List.setIfInBounds_toArray, List.set_cons_zero, List.set_cons_succ]
                    refine wpAnyH_take (i := 17) (oi := { dst := some 16, op := Op.assign (Operand.tmp 97), type := 28, pos := "law.go:114", after := #[{ on := 14, ground := Ground.data }, { on := 16, ground := Ground.chain }, { on := 0, ground := Ground.phase }, { on := 1, ground := Ground.phase }, { on := 2, ground := Ground.phase }, { on := 3, ground := Ground.phase }, { on := 4, ground := Ground.phase }, { on := 5, ground := Ground.phase }, { on := 6, ground := Ground.phase }, { on := 7, ground := Ground.phase }, { on := 8, ground := Ground.phase }, { on := 9, ground := Ground.phase }, { on := 10, ground := Ground.phase }, { on := 11, ground := Ground.phase }, { on := 12, ground := Ground.phase }, { on := 13, ground := Ground.phase }, { on := 14, ground := Ground.phase }, { on := 15, ground := Ground.phase }, { on := 16, ground := Ground.phase }], guard := none }) (v := ?vT13x18) rfl (by kernel_rfl) (by kernel_rfl) (by kernel_rfl) (fun _ _ _ h => h) (Or.inl ⟨by rfl, ?hyT13x18⟩) (by exact hS) ?rsT13x18
                    case hyT13x18 => (intro w hSw; (try dsimp only at hSw); unfold Rl.SV at hSw; go_simp; try with_reducible rfl)
                    try simp only [Act.put, List.setIfInBounds_toArray, List.set_cons_zero, List.set_cons_succ]
                    refine wpAnyH_done (by kernel_rfl) ?_ _
                    go_wp2_with fail
                    go_meet
                    exact ⟨b9, a9, c9, rfl, rfl, hset, hl, hqW⟩
                  · go_simp
                    have hq := (Q.refl yT13x11).alloc (.cells #[.bool false, .slice none 0 0, .int .i64 0] 27)
                    have hB := heap_alloc_new yT13x11 (.cells #[.bool false, .slice none 0 0, .int .i64 0] 27)
                    have hbu : yT13x11.heap.size < (yT13x11.alloc (.cells #[.bool false, .slice none 0 0, .int .i64 0] 27)).heap.size := by rw [World.size_alloc]; omega
                    have hWb := (Rl.SV.here hS).le
                    have hS2 := SQ.out _ (Q.trans (Rl.SV.here hS) hq)
                    refine hK.out _ _ (by exact hS2) (fun hHeld => ?_)
                    clear hK K hHeld hS hq
                    have hS := hS2
                    clear hS2
                    generalize yT13x11.alloc (.cells #[.bool false, .slice none 0 0, .int .i64 0] 27) = yT13x19 at *
                    generalize yT13x11.heap.size = b9 at *
                    try simp only [Act.put, List.setIfInBounds_toArray, List.set_cons_zero, List.set_cons_succ]
                    refine wpAnyH_ready (rs := [11]) (by kernel_rfl) (by simp) ?_
                    refine (AllReadyH.cons (o := { dst := some 95, op := Op.call { callee := Callee.value (Operand.func 26), args := #[Operand.tmp 84, Operand.tmp 89, Operand.tmp 94], argTypes := #[27, 27, 27] }, type := 29, pos := "law.go:114", after := #[{ on := 0, ground := Ground.data }, { on := 5, ground := Ground.data }, { on := 10, ground := Ground.data }, { on := 10, ground := Ground.chain }], guard := none }) rfl (fun K hK => ?_) AllReadyH.nil)
                    go_simp
                    refine (PB.out _ _ _ _ (L63_Z11.out.q (Rl.SV.here hS)) (L63_F.out.q (Rl.SV.here hS)) (L63_G.out.q (Rl.SV.here hS))).mono ?_
                    rintro e yT13x20 ⟨a9, c9, rfl, hx9, hq⟩
                    try (go_wp2_with fail)
                    have hB := (Q.block hq (lt_of_block hB)).trans hB
                    have hlf := hx9
                    have hx9 := Rr.lf_lst hlf
                    have hne : ∀ (a : Addr) (n c : Nat), (.slice a9 z c9 : Value) = .slice (some a) n c → n ≠ 0 → a.block ≠ b9 := Rr.lf_ne hlf hbu
                    clear hlf
                    have hS2 := SQ.out _ (Q.trans (Rl.SV.here hS) hq)
                    have hbu := Nat.lt_of_lt_of_le hbu hq.le
                    refine hK.out _ _ (by exact hS2) (fun hHeld => ?_)
                    clear hK K hHeld hS hq
                    have hS := hS2
                    clear hS2
                    try simp only [Act.put, List.setIfInBounds_toArray, List.set_cons_zero, List.set_cons_succ]
                    refine wpAnyH_take (i := 12) (oi := { dst := some 83, op := Op.move (Operand.tmp 95), type := 29, pos := "law.go:114", after := #[{ on := 11, ground := Ground.data }], guard := none }) (v := ?vT13x21) rfl (by kernel_rfl) (by kernel_rfl) (by kernel_rfl) (fun _ _ _ h => h) (Or.inl ⟨by rfl, ?hyT13x21⟩) (by exact hS) ?rsT13x21
                    case hyT13x21 => (intro w hSw; (try dsimp only at hSw); unfold Rl.SV at hSw; go_simp; try with_reducible rfl)
                    try simp only [Act.put, List.setIfInBounds_toArray, List.set_cons_zero, List.set_cons_succ]
                    refine wpAnyH_take (i := 13) (oi := { dst := some 96, op := Op.extract (Operand.tmp 83) 0, type := 27, pos := "law.go:114", after := #[{ on := 12, ground := Ground.data }], guard := none }) (v := ?vT13x22) rfl (by kernel_rfl) (by kernel_rfl) (by kernel_rfl) (fun _ _ _ h => h) (Or.inl ⟨by rfl, ?hyT13x22⟩) (by exact hS) ?rsT13x22
                    case hyT13x22 => (intro w hSw; (try dsimp only at hSw); unfold Rl.SV at hSw; go_simp; try with_reducible rfl)
                    try simp only [Act.put, List.setIfInBounds_toArray, List.set_cons_zero, List.set_cons_succ]
                    refine wpAnyH_take (i := 14) (oi := { dst := some 97, op := Op.extract (Operand.tmp 83) 1, type := 28, pos := "law.go:114", after := #[{ on := 12, ground := Ground.data }, { on := 16, ground := Ground.gcOnly Departure.lateStores }], guard := none }) (v := ?vT13x23) rfl (by kernel_rfl) (by kernel_rfl) (by kernel_rfl) (fun _ _ _ h => h) (Or.inl ⟨by rfl, ?hyT13x23⟩) (by exact hS) ?rsT13x23
                    case hyT13x23 => (intro w hSw; (try dsimp only at hSw); unfold Rl.SV at hSw; go_simp; try with_reducible rfl)
                    try simp only [Act.put, List.setIfInBounds_toArray, List.set_cons_zero, List.set_cons_succ]
                    refine wpAnyH_ready (rs := [16]) (by kernel_rfl) (by simp) ?_
                    refine (AllReadyH.cons (o := { dst := none, op := Op.store 27 (Operand.tmp 15) (Operand.tmp 96), type := 0, pos := "law.go:114", after := #[{ on := 15, ground := Ground.data }, { on := 13, ground := Ground.data }, { on := 11, ground := Ground.chain }, { on := 0, ground := Ground.phase }, { on := 1, ground := Ground.phase }, { on := 2, ground := Ground.phase }, { on := 3, ground := Ground.phase }, { on := 4, ground := Ground.phase }, { on := 5, ground := Ground.phase }, { on := 6, ground := Ground.phase }, { on := 7, ground := Ground.phase }, { on := 8, ground := Ground.phase }, { on := 9, ground := Ground.phase }, { on := 10, ground := Ground.phase }, { on := 11, ground := Ground.phase }, { on := 12, ground := Ground.phase }, { on := 13, ground := Ground.phase }, { on := 14, ground := Ground.textOnly Departure.lateStores }, { on := 15, ground := Ground.phase }], guard := none }) rfl (fun K hK => ?_) AllReadyH.nil)
                    obtain ⟨f0, f1, f2, f3, f4, f5⟩ := Er.block_cells hB
                    have hset := Er.block_set (x' := .bool gr) (y' := .slice a9 z c9) (z' := .int .i64 sr) hB
                    have hqW := ((Q.setCell (Q.setCell (Q.setCell (Rl.SV.here hS) (ad := ⟨b9, 0, none⟩) hWb (.bool gr)) (ad := ⟨b9, 1, none⟩) hWb (.slice a9 z c9)) (ad := ⟨b9, 2, none⟩) hWb (.int .i64 sr)))
                    have hl := Lst.setCell (Lst.setCell (Lst.setCell hx9 (ad := ⟨b9, 0, none⟩) (.bool gr) hne) (ad := ⟨b9, 1, none⟩) (.slice a9 z c9) hne) (ad := ⟨b9, 2, none⟩) (.int .i64 sr) hne
                    go_simp
                    have hS2 := SQ.out _ hqW
                    refine hK.out _ _ (by exact hS2) (fun hHeld => ?_)
                    clear hK K hHeld hS
                    have hS := hS2
                    clear hS2 f0 f1 f2 f3 f4 f5
                    try simp only [Act.put, List.setIfInBounds_toArray, List.set_cons_zero, List.set_cons_succ]
                    refine wpAnyH_take (i := 17) (oi := { dst := some 16, op := Op.assign (Operand.tmp 97), type := 28, pos := "law.go:114", after := #[{ on := 14, ground := Ground.data }, { on := 16, ground := Ground.chain }, { on := 0, ground := Ground.phase }, { on := 1, ground := Ground.phase }, { on := 2, ground := Ground.phase }, { on := 3, ground := Ground.phase }, { on := 4, ground := Ground.phase }, { on := 5, ground := Ground.phase }, { on := 6, ground := Ground.phase }, { on := 7, ground := Ground.phase }, { on := 8, ground := Ground.phase }, { on := 9, ground := Ground.phase }, { on := 10, ground := Ground.phase }, { on := 11, ground := Ground.phase }, { on := 12, ground := Ground.phase }, { on := 13, ground := Ground.phase }, { on := 14, ground := Ground.phase }, { on := 15, ground := Ground.phase }, { on := 16, ground := Ground.phase }], guard := none }) (v := ?vT13x25) rfl (by kernel_rfl) (by kernel_rfl) (by kernel_rfl) (fun _ _ _ h => h) (Or.inl ⟨by rfl, ?hyT13x25⟩) (by exact hS) ?rsT13x25
                    case hyT13x25 => (intro w hSw; (try dsimp only at hSw); unfold Rl.SV at hSw; go_simp; try with_reducible rfl)
                    try simp only [Act.put, List.setIfInBounds_toArray, List.set_cons_zero, List.set_cons_succ]
                    refine wpAnyH_done (by kernel_rfl) ?_ _
                    go_wp2_with fail
                    go_meet
                    exact ⟨b9, a9, c9, rfl, rfl, hset, hl, hqW⟩
                · go_simp
                  have hq := (Q.refl yT13x10).alloc (.cells #[.bool false, .slice none 0 0, .int .i64 0] 27)
                  have hB := heap_alloc_new yT13x10 (.cells #[.bool false, .slice none 0 0, .int .i64 0] 27)
                  have hbu : yT13x10.heap.size < (yT13x10.alloc (.cells #[.bool false, .slice none 0 0, .int .i64 0] 27)).heap.size := by rw [World.size_alloc]; omega
                  have hWb := (Rl.SV.here hS).le
                  have hS2 := SQ.out _ (Q.trans (Rl.SV.here hS) hq)
                  refine hK.out _ _ (by exact hS2) (fun hHeld => ?_)
                  clear hK K hHeld hS hq
                  have hS := hS2
                  clear hS2
                  generalize yT13x10.alloc (.cells #[.bool false, .slice none 0 0, .int .i64 0] 27) = yT13x26 at *
                  generalize yT13x10.heap.size = b9 at *
                  try simp only [Act.put, List.setIfInBounds_toArray, List.set_cons_zero, List.set_cons_succ]
                  refine wpAnyH_ready (rs := [10]) (by kernel_rfl) (by simp) ?_
                  refine (AllReadyH.cons (o := { dst := some 94, op := Op.call { callee := Callee.value (Operand.func 14), args := #[Operand.tmp 93], argTypes := #[24] }, type := 27, pos := "law.go:114", after := #[{ on := 9, ground := Ground.data }, { on := 5, ground := Ground.chain }], guard := none }) rfl (fun K hK => ?_) AllReadyH.nil)
                  go_simp
                  refine (Rl.of_sh _ _ _ _ _ _).mono ?_
                  rintro e yT13x27 ⟨rfl, hq⟩
                  try (go_wp2_with fail)
                  have hB := (Q.block hq (lt_of_block hB)).trans hB
                  have hS2 := SQ.out _ (Q.trans (Rl.SV.here hS) hq)
                  have hbu := Nat.lt_of_lt_of_le hbu hq.le
                  refine hK.out _ _ (by exact hS2) (fun hHeld => ?_)
                  clear hK K hHeld hS hq
                  have hS := hS2
                  clear hS2
                  try simp only [Act.put, List.setIfInBounds_toArray, List.set_cons_zero, List.set_cons_succ]
                  refine wpAnyH_ready (rs := [11]) (by kernel_rfl) (by simp) ?_
                  refine (AllReadyH.cons (o := { dst := some 95, op := Op.call { callee := Callee.value (Operand.func 26), args := #[Operand.tmp 84, Operand.tmp 89, Operand.tmp 94], argTypes := #[27, 27, 27] }, type := 29, pos := "law.go:114", after := #[{ on := 0, ground := Ground.data }, { on := 5, ground := Ground.data }, { on := 10, ground := Ground.data }, { on := 10, ground := Ground.chain }], guard := none }) rfl (fun K hK => ?_) AllReadyH.nil)
                  go_simp
                  refine (PB.out _ _ _ _ (L63_Z11.out.q (Rl.SV.here hS)) (L63_F.out.q (Rl.SV.here hS)) (L63_G.out.q (Rl.SV.here hS))).mono ?_
                  rintro e yT13x28 ⟨a9, c9, rfl, hx9, hq⟩
                  try (go_wp2_with fail)
                  have hB := (Q.block hq (lt_of_block hB)).trans hB
                  have hlf := hx9
                  have hx9 := Rr.lf_lst hlf
                  have hne : ∀ (a : Addr) (n c : Nat), (.slice a9 z c9 : Value) = .slice (some a) n c → n ≠ 0 → a.block ≠ b9 := Rr.lf_ne hlf hbu
                  clear hlf
                  have hS2 := SQ.out _ (Q.trans (Rl.SV.here hS) hq)
                  have hbu := Nat.lt_of_lt_of_le hbu hq.le
                  refine hK.out _ _ (by exact hS2) (fun hHeld => ?_)
                  clear hK K hHeld hS hq
                  have hS := hS2
                  clear hS2
                  try simp only [Act.put, List.setIfInBounds_toArray, List.set_cons_zero, List.set_cons_succ]
                  refine wpAnyH_take (i := 12) (oi := { dst := some 83, op := Op.move (Operand.tmp 95), type := 29, pos := "law.go:114", after := #[{ on := 11, ground := Ground.data }], guard := none }) (v := ?vT13x29) rfl (by kernel_rfl) (by kernel_rfl) (by kernel_rfl) (fun _ _ _ h => h) (Or.inl ⟨by rfl, ?hyT13x29⟩) (by exact hS) ?rsT13x29
                  case hyT13x29 => (intro w hSw; (try dsimp only at hSw); unfold Rl.SV at hSw; go_simp; try with_reducible rfl)
                  try simp only [Act.put, List.setIfInBounds_toArray, List.set_cons_zero, List.set_cons_succ]
                  refine wpAnyH_take (i := 13) (oi := { dst := some 96, op := Op.extract (Operand.tmp 83) 0, type := 27, pos := "law.go:114", after := #[{ on := 12, ground := Ground.data }], guard := none }) (v := ?vT13x30) rfl (by kernel_rfl) (by kernel_rfl) (by kernel_rfl) (fun _ _ _ h => h) (Or.inl ⟨by rfl, ?hyT13x30⟩) (by exact hS) ?rsT13x30
                  case hyT13x30 => (intro w hSw; (try dsimp only at hSw); unfold Rl.SV at hSw; go_simp; try with_reducible rfl)
                  try simp only [Act.put, List.setIfInBounds_toArray, List.set_cons_zero, List.set_cons_succ]
                  refine wpAnyH_take (i := 14) (oi := { dst := some 97, op := Op.extract (Operand.tmp 83) 1, type := 28, pos := "law.go:114", after := #[{ on := 12, ground := Ground.data }, { on := 16, ground := Ground.gcOnly Departure.lateStores }], guard := none }) (v := ?vT13x31) rfl (by kernel_rfl) (by kernel_rfl) (by kernel_rfl) (fun _ _ _ h => h) (Or.inl ⟨by rfl, ?hyT13x31⟩) (by exact hS) ?rsT13x31
                  case hyT13x31 => (intro w hSw; (try dsimp only at hSw); unfold Rl.SV at hSw; go_simp; try with_reducible rfl)
                  try simp only [Act.put, List.setIfInBounds_toArray, List.set_cons_zero, List.set_cons_succ]
                  refine wpAnyH_ready (rs := [16]) (by kernel_rfl) (by simp) ?_
                  refine (AllReadyH.cons (o := { dst := none, op := Op.store 27 (Operand.tmp 15) (Operand.tmp 96), type := 0, pos := "law.go:114", after := #[{ on := 15, ground := Ground.data }, { on := 13, ground := Ground.data }, { on := 11, ground := Ground.chain }, { on := 0, ground := Ground.phase }, { on := 1, ground := Ground.phase }, { on := 2, ground := Ground.phase }, { on := 3, ground := Ground.phase }, { on := 4, ground := Ground.phase }, { on := 5, ground := Ground.phase }, { on := 6, ground := Ground.phase }, { on := 7, ground := Ground.phase }, { on := 8, ground := Ground.phase }, { on := 9, ground := Ground.phase }, { on := 10, ground := Ground.phase }, { on := 11, ground := Ground.phase }, { on := 12, ground := Ground.phase }, { on := 13, ground := Ground.phase }, { on := 14, ground := Ground.textOnly Departure.lateStores }, { on := 15, ground := Ground.phase }], guard := none }) rfl (fun K hK => ?_) AllReadyH.nil)
                  obtain ⟨f0, f1, f2, f3, f4, f5⟩ := Er.block_cells hB
                  have hset := Er.block_set (x' := .bool gr) (y' := .slice a9 z c9) (z' := .int .i64 sr) hB
                  have hqW := ((Q.setCell (Q.setCell (Q.setCell (Rl.SV.here hS) (ad := ⟨b9, 0, none⟩) hWb (.bool gr)) (ad := ⟨b9, 1, none⟩) hWb (.slice a9 z c9)) (ad := ⟨b9, 2, none⟩) hWb (.int .i64 sr)))
                  have hl := Lst.setCell (Lst.setCell (Lst.setCell hx9 (ad := ⟨b9, 0, none⟩) (.bool gr) hne) (ad := ⟨b9, 1, none⟩) (.slice a9 z c9) hne) (ad := ⟨b9, 2, none⟩) (.int .i64 sr) hne
                  go_simp
                  have hS2 := SQ.out _ hqW
                  refine hK.out _ _ (by exact hS2) (fun hHeld => ?_)
                  clear hK K hHeld hS
                  have hS := hS2
                  clear hS2 f0 f1 f2 f3 f4 f5
                  try simp only [Act.put, List.setIfInBounds_toArray, List.set_cons_zero, List.set_cons_succ]
                  refine wpAnyH_take (i := 17) (oi := { dst := some 16, op := Op.assign (Operand.tmp 97), type := 28, pos := "law.go:114", after := #[{ on := 14, ground := Ground.data }, { on := 16, ground := Ground.chain }, { on := 0, ground := Ground.phase }, { on := 1, ground := Ground.phase }, { on := 2, ground := Ground.phase }, { on := 3, ground := Ground.phase }, { on := 4, ground := Ground.phase }, { on := 5, ground := Ground.phase }, { on := 6, ground := Ground.phase }, { on := 7, ground := Ground.phase }, { on := 8, ground := Ground.phase }, { on := 9, ground := Ground.phase }, { on := 10, ground := Ground.phase }, { on := 11, ground := Ground.phase }, { on := 12, ground := Ground.phase }, { on := 13, ground := Ground.phase }, { on := 14, ground := Ground.phase }, { on := 15, ground := Ground.phase }, { on := 16, ground := Ground.phase }], guard := none }) (v := ?vT13x33) rfl (by kernel_rfl) (by kernel_rfl) (by kernel_rfl) (fun _ _ _ h => h) (Or.inl ⟨by rfl, ?hyT13x33⟩) (by exact hS) ?rsT13x33
                  case hyT13x33 => (intro w hSw; (try dsimp only at hSw); unfold Rl.SV at hSw; go_simp; try with_reducible rfl)
                  try simp only [Act.put, List.setIfInBounds_toArray, List.set_cons_zero, List.set_cons_succ]
                  refine wpAnyH_done (by kernel_rfl) ?_ _
                  go_wp2_with fail
                  go_meet
                  exact ⟨b9, a9, c9, rfl, rfl, hset, hl, hqW⟩
              · go_simp
                have hq := (Q.refl yT13x0).alloc (.cells #[.bool false, .slice none 0 0, .int .i64 0] 27)
                have hB := heap_alloc_new yT13x0 (.cells #[.bool false, .slice none 0 0, .int .i64 0] 27)
                have hbu : yT13x0.heap.size < (yT13x0.alloc (.cells #[.bool false, .slice none 0 0, .int .i64 0] 27)).heap.size := by rw [World.size_alloc]; omega
                have hWb := (Rl.SV.here hS).le
                have hS2 := SQ.out _ (Q.trans (Rl.SV.here hS) hq)
                refine hK.out _ _ (by exact hS2) (fun hHeld => ?_)
                clear hK K hHeld hS hq
                have hS := hS2
                clear hS2
                generalize yT13x0.alloc (.cells #[.bool false, .slice none 0 0, .int .i64 0] 27) = yT13x34 at *
                generalize yT13x0.heap.size = b9 at *
                try simp only [Act.put, List.setIfInBounds_toArray, List.set_cons_zero, List.set_cons_succ]
                refine wpAnyH_ready (rs := [5]) (by kernel_rfl) (by simp) ?_
                refine (AllReadyH.cons (o := { dst := some 89, op := Op.call { callee := Callee.value (Operand.func 14), args := #[Operand.tmp 88], argTypes := #[24] }, type := 27, pos := "law.go:114", after := #[{ on := 4, ground := Ground.data }], guard := none }) rfl (fun K hK => ?_) AllReadyH.nil)
                go_simp
                refine (Rl.of_sh _ _ _ _ _ _).mono ?_
                rintro e yT13x35 ⟨rfl, hq⟩
                try (go_wp2_with fail)
                have hB := (Q.block hq (lt_of_block hB)).trans hB
                have hS2 := SQ.out _ (Q.trans (Rl.SV.here hS) hq)
                have hbu := Nat.lt_of_lt_of_le hbu hq.le
                refine hK.out _ _ (by exact hS2) (fun hHeld => ?_)
                clear hK K hHeld hS hq
                have hS := hS2
                clear hS2
                try simp only [Act.put, List.setIfInBounds_toArray, List.set_cons_zero, List.set_cons_succ]
                refine wpAnyH_ready (rs := [10]) (by kernel_rfl) (by simp) ?_
                refine (AllReadyH.cons (o := { dst := some 94, op := Op.call { callee := Callee.value (Operand.func 14), args := #[Operand.tmp 93], argTypes := #[24] }, type := 27, pos := "law.go:114", after := #[{ on := 9, ground := Ground.data }, { on := 5, ground := Ground.chain }], guard := none }) rfl (fun K hK => ?_) AllReadyH.nil)
                go_simp
                refine (Rl.of_sh _ _ _ _ _ _).mono ?_
                rintro e yT13x36 ⟨rfl, hq⟩
                try (go_wp2_with fail)
                have hB := (Q.block hq (lt_of_block hB)).trans hB
                have hS2 := SQ.out _ (Q.trans (Rl.SV.here hS) hq)
                have hbu := Nat.lt_of_lt_of_le hbu hq.le
                refine hK.out _ _ (by exact hS2) (fun hHeld => ?_)
                clear hK K hHeld hS hq
                have hS := hS2
                clear hS2
                try simp only [Act.put, List.setIfInBounds_toArray, List.set_cons_zero, List.set_cons_succ]
                refine wpAnyH_ready (rs := [11]) (by kernel_rfl) (by simp) ?_
                refine (AllReadyH.cons (o := { dst := some 95, op := Op.call { callee := Callee.value (Operand.func 26), args := #[Operand.tmp 84, Operand.tmp 89, Operand.tmp 94], argTypes := #[27, 27, 27] }, type := 29, pos := "law.go:114", after := #[{ on := 0, ground := Ground.data }, { on := 5, ground := Ground.data }, { on := 10, ground := Ground.data }, { on := 10, ground := Ground.chain }], guard := none }) rfl (fun K hK => ?_) AllReadyH.nil)
                go_simp
                refine (PB.out _ _ _ _ (L63_Z11.out.q (Rl.SV.here hS)) (L63_F.out.q (Rl.SV.here hS)) (L63_G.out.q (Rl.SV.here hS))).mono ?_
                rintro e yT13x37 ⟨a9, c9, rfl, hx9, hq⟩
                try (go_wp2_with fail)
                have hB := (Q.block hq (lt_of_block hB)).trans hB
                have hlf := hx9
                have hx9 := Rr.lf_lst hlf
                have hne : ∀ (a : Addr) (n c : Nat), (.slice a9 z c9 : Value) = .slice (some a) n c → n ≠ 0 → a.block ≠ b9 := Rr.lf_ne hlf hbu
                clear hlf
                have hS2 := SQ.out _ (Q.trans (Rl.SV.here hS) hq)
                have hbu := Nat.lt_of_lt_of_le hbu hq.le
                refine hK.out _ _ (by exact hS2) (fun hHeld => ?_)
                clear hK K hHeld hS hq
                have hS := hS2
                clear hS2
                try simp only [Act.put, List.setIfInBounds_toArray, List.set_cons_zero, List.set_cons_succ]
                refine wpAnyH_take (i := 12) (oi := { dst := some 83, op := Op.move (Operand.tmp 95), type := 29, pos := "law.go:114", after := #[{ on := 11, ground := Ground.data }], guard := none }) (v := ?vT13x38) rfl (by kernel_rfl) (by kernel_rfl) (by kernel_rfl) (fun _ _ _ h => h) (Or.inl ⟨by rfl, ?hyT13x38⟩) (by exact hS) ?rsT13x38
                case hyT13x38 => (intro w hSw; (try dsimp only at hSw); unfold Rl.SV at hSw; go_simp; try with_reducible rfl)
                try simp only [Act.put, List.setIfInBounds_toArray, List.set_cons_zero, List.set_cons_succ]
                refine wpAnyH_take (i := 13) (oi := { dst := some 96, op := Op.extract (Operand.tmp 83) 0, type := 27, pos := "law.go:114", after := #[{ on := 12, ground := Ground.data }], guard := none }) (v := ?vT13x39) rfl (by kernel_rfl) (by kernel_rfl) (by kernel_rfl) (fun _ _ _ h => h) (Or.inl ⟨by rfl, ?hyT13x39⟩) (by exact hS) ?rsT13x39
                case hyT13x39 => (intro w hSw; (try dsimp only at hSw); unfold Rl.SV at hSw; go_simp; try with_reducible rfl)
                try simp only [Act.put, List.setIfInBounds_toArray, List.set_cons_zero, List.set_cons_succ]
                refine wpAnyH_take (i := 14) (oi := { dst := some 97, op := Op.extract (Operand.tmp 83) 1, type := 28, pos := "law.go:114", after := #[{ on := 12, ground := Ground.data }, { on := 16, ground := Ground.gcOnly Departure.lateStores }], guard := none }) (v := ?vT13x40) rfl (by kernel_rfl) (by kernel_rfl) (by kernel_rfl) (fun _ _ _ h => h) (Or.inl ⟨by rfl, ?hyT13x40⟩) (by exact hS) ?rsT13x40
                case hyT13x40 => (intro w hSw; (try dsimp only at hSw); unfold Rl.SV at hSw; go_simp; try with_reducible rfl)
                try simp only [Act.put, List.setIfInBounds_toArray, List.set_cons_zero, List.set_cons_succ]
                refine wpAnyH_ready (rs := [16]) (by kernel_rfl) (by simp) ?_
                refine (AllReadyH.cons (o := { dst := none, op := Op.store 27 (Operand.tmp 15) (Operand.tmp 96), type := 0, pos := "law.go:114", after := #[{ on := 15, ground := Ground.data }, { on := 13, ground := Ground.data }, { on := 11, ground := Ground.chain }, { on := 0, ground := Ground.phase }, { on := 1, ground := Ground.phase }, { on := 2, ground := Ground.phase }, { on := 3, ground := Ground.phase }, { on := 4, ground := Ground.phase }, { on := 5, ground := Ground.phase }, { on := 6, ground := Ground.phase }, { on := 7, ground := Ground.phase }, { on := 8, ground := Ground.phase }, { on := 9, ground := Ground.phase }, { on := 10, ground := Ground.phase }, { on := 11, ground := Ground.phase }, { on := 12, ground := Ground.phase }, { on := 13, ground := Ground.phase }, { on := 14, ground := Ground.textOnly Departure.lateStores }, { on := 15, ground := Ground.phase }], guard := none }) rfl (fun K hK => ?_) AllReadyH.nil)
                obtain ⟨f0, f1, f2, f3, f4, f5⟩ := Er.block_cells hB
                have hset := Er.block_set (x' := .bool gr) (y' := .slice a9 z c9) (z' := .int .i64 sr) hB
                have hqW := ((Q.setCell (Q.setCell (Q.setCell (Rl.SV.here hS) (ad := ⟨b9, 0, none⟩) hWb (.bool gr)) (ad := ⟨b9, 1, none⟩) hWb (.slice a9 z c9)) (ad := ⟨b9, 2, none⟩) hWb (.int .i64 sr)))
                have hl := Lst.setCell (Lst.setCell (Lst.setCell hx9 (ad := ⟨b9, 0, none⟩) (.bool gr) hne) (ad := ⟨b9, 1, none⟩) (.slice a9 z c9) hne) (ad := ⟨b9, 2, none⟩) (.int .i64 sr) hne
                go_simp
                have hS2 := SQ.out _ hqW
                refine hK.out _ _ (by exact hS2) (fun hHeld => ?_)
                clear hK K hHeld hS
                have hS := hS2
                clear hS2 f0 f1 f2 f3 f4 f5
                try simp only [Act.put, List.setIfInBounds_toArray, List.set_cons_zero, List.set_cons_succ]
                refine wpAnyH_take (i := 17) (oi := { dst := some 16, op := Op.assign (Operand.tmp 97), type := 28, pos := "law.go:114", after := #[{ on := 14, ground := Ground.data }, { on := 16, ground := Ground.chain }, { on := 0, ground := Ground.phase }, { on := 1, ground := Ground.phase }, { on := 2, ground := Ground.phase }, { on := 3, ground := Ground.phase }, { on := 4, ground := Ground.phase }, { on := 5, ground := Ground.phase }, { on := 6, ground := Ground.phase }, { on := 7, ground := Ground.phase }, { on := 8, ground := Ground.phase }, { on := 9, ground := Ground.phase }, { on := 10, ground := Ground.phase }, { on := 11, ground := Ground.phase }, { on := 12, ground := Ground.phase }, { on := 13, ground := Ground.phase }, { on := 14, ground := Ground.phase }, { on := 15, ground := Ground.phase }, { on := 16, ground := Ground.phase }], guard := none }) (v := ?vT13x42) rfl (by kernel_rfl) (by kernel_rfl) (by kernel_rfl) (fun _ _ _ h => h) (Or.inl ⟨by rfl, ?hyT13x42⟩) (by exact hS) ?rsT13x42
                case hyT13x42 => (intro w hSw; (try dsimp only at hSw); unfold Rl.SV at hSw; go_simp; try with_reducible rfl)
                try simp only [Act.put, List.setIfInBounds_toArray, List.set_cons_zero, List.set_cons_succ]
                refine wpAnyH_done (by kernel_rfl) ?_ _
                go_wp2_with fail
                go_meet
                exact ⟨b9, a9, c9, rfl, rfl, hset, hl, hqW⟩
            case rest =>
              obtain ⟨b15, a15, c15, rfl, rfl, hb15, hl15, hqc⟩ := hcut
              obtain ⟨w15, hw15⟩ : ∃ x, x = wc := ⟨_, rfl⟩
              subst hw15
              have HB15 := Lib.hid hb15
              have LZ15 := Lib.hid hl15
              clear SQ hb15 hl15
              have L64_E := Lib.hid (Lst.q L63_E.out hqc)
              clear L63_E
              have L64_F := Lib.hid (Lst.q L63_F.out hqc)
              clear L63_F
              have L64_G := Lib.hid (Lst.q L63_G.out hqc)
              clear L63_G
              have L64_Z11 := Lib.hid (Lst.q L63_Z11.out hqc)
              clear L63_Z11
              have L64_Z13 := Lib.hid (Lst.q L63_Z13.out hqc)
              clear L63_Z13
              have B64_b11 := Lib.hid ((Q.block hqc (lt_of_block B63_b11.out)).trans B63_b11.out)
              clear B63_b11
              have B64_b13 := Lib.hid ((Q.block hqc (lt_of_block B63_b13.out)).trans B63_b13.out)
              clear B63_b13
              have H64_X := Lib.hid ((Q.block hqc (lt_of_block H63_X.out)).trans H63_X.out)
              clear H63_X
              have H64_Y := Lib.hid ((Q.block hqc (lt_of_block H63_Y.out)).trans H63_Y.out)
              clear H63_Y
              have H64_O := Lib.hid ((Q.block hqc (lt_of_block H63_O.out)).trans H63_O.out)
              clear H63_O
              have Q64 := Lib.hid (Q.trans Q63.out hqc)
              clear Q63
              clear hqc
              have SQ := Lib.hid (fun u (q : Q (w15) u) => (Ep.SB2.of HB15.out B64_b13.out q : Ep.SB2 (w15) (b15) gr (.slice a15 z c15) (sr) (b13) gr (.slice a13 z c13) (sr) u))
              go_wp2_with fail
              refine wp_region_held_drew (S := fun u => Ep.SB2 (w15) (b15) gr (.slice a15 z c15) (sr) (b13) gr (.slice a13 z c13) (sr) u) (by kernel_rfl) (by exact SQ.out _ ((Q.refl w15).drew)) (fun hHeld => ?_)
              have hS : Ep.SB2 (w15) (b15) gr (.slice a15 z c15) (sr) (b13) gr (.slice a13 z c13) (sr) w15.drew := hHeld
              clear hHeld
              generalize w15.drew = yT14x0 at hS ⊢
              refine wpAnyH_take (i := 0) (oi := { dst := some 98, op := Op.move (Operand.tmp 16), type := 28, pos := "law.go:115", after := #[], guard := none }) (v := ?vT14x1) rfl (by kernel_rfl) (by kernel_rfl) (by kernel_rfl) (fun _ _ _ h => h) (Or.inl ⟨by rfl, ?hyT14x1⟩) (by exact hS) ?rsT14x1
              case hyT14x1 => (intro w hSw; (try dsimp only at hSw); unfold Ep.SB2 at hSw; go_simp; try with_reducible rfl)
              try simp only [Act.put, List.setIfInBounds_toArray, List.set_cons_zero, List.set_cons_succ]
              refine wpAnyH_take (i := 1) (oi := { dst := some 99, op := Op.binOp BinOp.neq 28 (Operand.tmp 98) (Operand.const (Value.int IntKind.i64 0)) 28, type := 4, pos := "law.go:115", after := #[{ on := 0, ground := Ground.data }], guard := none }) (v := ?vT14x2) rfl (by kernel_rfl) (by kernel_rfl) (by kernel_rfl) (fun _ _ _ h => h) (Or.inl ⟨by rfl, ?hyT14x2⟩) (by exact hS) ?rsT14x2
              case hyT14x2 => (intro w hSw; (try dsimp only at hSw); unfold Ep.SB2 at hSw; go_simp; try with_reducible rfl)
              try simp only [Act.put, List.setIfInBounds_toArray, List.set_cons_zero, List.set_cons_succ]
              refine wpAnyH_take (i := 2) (oi := { dst := some 100, op := Op.move (Operand.tmp 99), type := 4, pos := "law.go:115", after := #[{ on := 1, ground := Ground.data }], guard := none }) (v := ?vT14x3) rfl (by kernel_rfl) (by kernel_rfl) (by kernel_rfl) (fun _ _ _ h => h) (Or.inl ⟨by rfl, ?hyT14x3⟩) (by exact hS) ?rsT14x3
              case hyT14x3 => (intro w hSw; (try dsimp only at hSw); unfold Ep.SB2 at hSw; go_simp; try with_reducible rfl)
              try simp only [Act.put, List.setIfInBounds_toArray, List.set_cons_zero, List.set_cons_succ]
              refine wpAnyH_take (i := 3) (oi := { dst := some 101, op := Op.load 27 (Operand.tmp 15), type := 27, pos := "law.go:115", after := #[{ on := 2, ground := Ground.guard }], guard := some (2, false) }) (v := ?vT14x4) rfl (by kernel_rfl) (by kernel_rfl) (by kernel_rfl) (fun _ _ _ h => h) (Or.inl ⟨by rfl, ?hyT14x4⟩) (by exact hS) ?rsT14x4
              case hyT14x4 => (intro w hSw; (try dsimp only at hSw); unfold Ep.SB2 at hSw; go_simp; try with_reducible rfl)
              try simp only [Act.put, List.setIfInBounds_toArray, List.set_cons_zero, List.set_cons_succ]
              refine wpAnyH_take (i := 5) (oi := { dst := some 103, op := Op.load 24 (Operand.tmp 13), type := 24, pos := "law.go:115", after := #[{ on := 2, ground := Ground.guard }], guard := some (2, false) }) (v := ?vT14x5) rfl (by kernel_rfl) (by kernel_rfl) (by kernel_rfl) (fun _ _ _ h => h) (Or.inl ⟨by rfl, ?hyT14x5⟩) (by exact hS) ?rsT14x5
              case hyT14x5 => (intro w hSw; (try dsimp only at hSw); unfold Ep.SB2 at hSw; go_simp; try with_reducible rfl)
              try simp only [Act.put, List.setIfInBounds_toArray, List.set_cons_zero, List.set_cons_succ]
              refine wpAnyH_ready (rs := [4]) (by kernel_rfl) (by simp) ?_
              refine (AllReadyH.cons (o := { dst := some 102, op := Op.call { callee := Callee.value (Operand.func 17), args := #[Operand.tmp 101], argTypes := #[27] }, type := 24, pos := "law.go:115", after := #[{ on := 3, ground := Ground.data }, { on := 2, ground := Ground.chain }, { on := 2, ground := Ground.guard }], guard := some (2, false) }) rfl (fun K hK => ?_) AllReadyH.nil)
              go_simp
              refine (Rl.as_sh _ _ _ _ _ _).mono ?_
              rintro e yT14x6 ⟨rfl, hq⟩
              try (go_wp2_with fail)
              have hS2 := SQ.out _ (Q.trans (Ep.SB2.here hS) hq)
              refine hK.out _ _ (by exact hS2) (fun hHeld => ?_)
              clear hK K hHeld hS hq
              have hS := hS2
              clear hS2
              try simp only [Act.put, List.setIfInBounds_toArray, List.set_cons_zero, List.set_cons_succ]
              refine wpAnyH_ready (rs := [6]) (by kernel_rfl) (by simp) ?_
              refine (AllReadyH.cons (o := { dst := some 104, op := Op.call { callee := Callee.value (Operand.func 16), args := #[Operand.tmp 102, Operand.tmp 103], argTypes := #[24, 24] }, type := 4, pos := "law.go:115", after := #[{ on := 4, ground := Ground.data }, { on := 5, ground := Ground.data }, { on := 4, ground := Ground.chain }, { on := 2, ground := Ground.guard }], guard := some (2, false) }) rfl (fun K hK => ?_) AllReadyH.nil)
              go_simp
              refine (HSM.out _ _ _ _ _ (LZ15.out.q (Ep.SB2.here hS)) (L64_Z13.out.q (Ep.SB2.here hS))).mono ?_
              rintro e yT14x7 ⟨rfl, hq⟩
              try (go_wp2_with fail)
              have hS2 := SQ.out _ (Q.trans (Ep.SB2.here hS) hq)
              refine hK.out _ _ (by exact hS2) (fun hHeld => ?_)
              clear hK K hHeld hS hq
              have hS := hS2
              clear hS2
              try simp only [Act.put, List.setIfInBounds_toArray, List.set_cons_zero, List.set_cons_succ]
              refine wpAnyH_take (i := 7) (oi := { dst := some 105, op := Op.unOp UnOp.not 4 (Operand.tmp 104), type := 4, pos := "law.go:115", after := #[{ on := 6, ground := Ground.data }, { on := 2, ground := Ground.guard }], guard := some (2, false) }) (v := ?vT14x8) rfl (by kernel_rfl) (by kernel_rfl) (by kernel_rfl) (fun _ _ _ h => h) (Or.inl ⟨by rfl, ?hyT14x8⟩) (by exact hS) ?rsT14x8
              case hyT14x8 => (intro w hSw; (try dsimp only at hSw); unfold Ep.SB2 at hSw; go_simp; try with_reducible rfl)
              try simp only [Act.put, List.setIfInBounds_toArray, List.set_cons_zero, List.set_cons_succ]
              refine wpAnyH_take (i := 8) (oi := { dst := some 106, op := Op.pick (Operand.tmp 100) (Operand.const (Value.bool true)) (Operand.tmp 105), type := 4, pos := "law.go:115", after := #[{ on := 2, ground := Ground.data }, { on := 7, ground := Ground.data }], guard := none }) (v := ?vT14x9) rfl (by kernel_rfl) (by kernel_rfl) (by kernel_rfl) (fun _ _ _ h => h) (Or.inl ⟨by rfl, ?hyT14x9⟩) (by exact hS) ?rsT14x9
              case hyT14x9 => (intro w hSw; (try dsimp only at hSw); unfold Ep.SB2 at hSw; go_simp; try with_reducible rfl)
              try simp only [Act.put, List.setIfInBounds_toArray, List.set_cons_zero, List.set_cons_succ]
              refine wpAnyH_done (by kernel_rfl) ?_ _
              have hqr := Ep.SB2.here hS
              clear hS SQ
              have L65_E := Lib.hid (Lst.q L64_E.out hqr)
              clear L64_E
              have L65_F := Lib.hid (Lst.q L64_F.out hqr)
              clear L64_F
              have L65_G := Lib.hid (Lst.q L64_G.out hqr)
              clear L64_G
              have L65_Z11 := Lib.hid (Lst.q L64_Z11.out hqr)
              clear L64_Z11
              have L65_Z13 := Lib.hid (Lst.q L64_Z13.out hqr)
              clear L64_Z13
              have L65_Z15 := Lib.hid (Lst.q LZ15.out hqr)
              clear LZ15
              have B65_b11 := Lib.hid ((Q.block hqr (lt_of_block B64_b11.out)).trans B64_b11.out)
              clear B64_b11
              have B65_b13 := Lib.hid ((Q.block hqr (lt_of_block B64_b13.out)).trans B64_b13.out)
              clear B64_b13
              have B65_b15 := Lib.hid ((Q.block hqr (lt_of_block HB15.out)).trans HB15.out)
              clear HB15
              have H65_X := Lib.hid ((Q.block hqr (lt_of_block H64_X.out)).trans H64_X.out)
              clear H64_X
              have H65_Y := Lib.hid ((Q.block hqr (lt_of_block H64_Y.out)).trans H64_Y.out)
              clear H64_Y
              have H65_O := Lib.hid ((Q.block hqr (lt_of_block H64_O.out)).trans H64_O.out)
              clear H64_O
              have Q65 := Lib.hid (Q.trans Q64.out hqr)
              clear Q64
              clear hqr
              go_wp2_with fail
              exact ⟨⟨i + 1, by go_num, by omega, H65_X.out, H65_Y.out, H65_O.out, Q65.out⟩, by simp [intOf]; omega⟩
    · have hi3 : i = 2 := by omega
      subst hi3
      have HQE := Lib.hid (Q3.out.trans hq)
      clear hq hb0 hb1 hb2
      go_wp2_with fail
      refine (LV.out _).mono ?_
      rintro e z9 ⟨rfl, hq9⟩
      have HQ9 := Lib.hid (HQE.out.trans hq9)
      clear hq9
      go_wp2_with fail
      go_ret
      exact ⟨rfl, HQ9.out⟩

set_option maxRecDepth 100000 in
theorem lifted (os : Os) (started : os.Started) (H : Type) (enc : TypeId × Value → H) :
    ReturnsInHanded {} Try.checked os 8 .any (Rows.roundClampsSpec.pre6 enc Try.prog Try.f8 Rows.roundClampsRow.domain false) (Rows.roundClampsSpec.post enc Try.prog Try.f8 false true false false) := by
  refine returnsInHanded_of_change (C := Try.checked) own started (by kernel_rfl) Try.func8
    (ChangeSpec.witness6 (enc := enc) (C := Try.checked) false ⟨#[], #[.agg #[.bool false, .slice none 0 0, .int .i64 0], .agg #[.bool false, .slice none 0 0, .int .i64 0], .agg #[.bool false, .slice none 0 0, .int .i64 0]], []⟩ 8 (by kernel_rfl) (by kernel_rfl) (by kernel_rfl) (by kernel_rfl)) ?_
  intro W base args ds gs before hval0 hW hcnd _
  have hval : ∀ (j : Nat) t v, Try.f8.params[j]? = some t → args[j]? = some v → Value.okWide Try.prog W .any base t v := hval0
  have hW' := hW
  obtain ⟨p, q, hA0, hV, rfl, hfz, hnd⟩ := hW
  have hA : DataW.TrodAll enc Try.prog W 0 (fun _ => true) true Try.f8.params.toList args.toList ds p := hA0
  rw [Try.params8] at hA hval
  obtain ⟨v0, vs0, d0, ds0, p0, q0, hargs, rfl, rfl, h0, r0⟩ := trodAll_cons hA
  obtain ⟨v1, vs1, d1, ds1, p1, q1, rfl, rfl, rfl, h1, r1⟩ := trodAll_cons r0
  obtain ⟨v2, vs2, d2, ds2, p2, q2, rfl, rfl, rfl, h2, r2⟩ := trodAll_cons r1
  obtain ⟨rfl, rfl, rfl⟩ := trodAll_nil r2
  obtain rfl : args = #[v0, v1, v2] := by cases args; simp_all
  obtain ⟨rfl, rfl⟩ := trodVars_none hV
  have k0 := h0
  have lt0 : ∀ x ∈ p0, x.block < W.heap.size := by obtain ⟨m, hm⟩ := k0; exact DataW.trod_lt m _ _ _ hm
  obtain ⟨c00, c01, c02, y00, y01, y02, m0, rfl, _, _, hy00, hy01, hy02⟩ := Joins.open_agg3 Try.underlying24 (by kernel_rfl) (by kernel_rfl) (hval 0 24 v0 rfl rfl) h0
  obtain ⟨g0, rfl⟩ : ∃ b, c00 = .bool b := by
    obtain ⟨b, h, _⟩ := DataW.trod_bool Try.underlying4 hy00
    exact ⟨b, by simpa using h⟩
  obtain ⟨s0, rfl, ws0⟩ : ∃ n, c02 = .int .i64 n ∧ (Lit.int .i64 n).wf = true := by
    obtain ⟨n, h, _, hw⟩ := DataW.trod_int Try.underlying3 hy02
    exact ⟨n, by simpa using h, hw⟩
  obtain ⟨a0, len0, cap0, z0, rfl, w0⟩ : ∃ a len cap zs, c01 = .slice a len cap ∧ IsRow .i64 W a len cap zs := by
    rcases open_ints Try.underlying22 Try.underlying3 (by kernel_rfl) hy01 with ⟨hcs, _⟩ | ⟨x, l, c, zs, hcs, _, hl, hm, hz, _, hcell, hwz⟩
    · exact ⟨none, 0, 0, [], by simpa using hcs, .inl ⟨rfl, rfl, rfl, rfl⟩⟩
    · exact ⟨some x, l, c, zs, by simpa using hcs, .inr ⟨_, rfl, hl, hm, by simpa using hz, hcell, hwz⟩⟩
  obtain ⟨xs0, l0, _, b0⟩ := w0.lst
  have k1 := h1
  have lt1 : ∀ x ∈ p1, x.block < W.heap.size := by obtain ⟨m, hm⟩ := k1; exact DataW.trod_lt m _ _ _ hm
  obtain ⟨c10, c11, c12, y10, y11, y12, m1, rfl, _, _, hy10, hy11, hy12⟩ := Joins.open_agg3 Try.underlying24 (by kernel_rfl) (by kernel_rfl) (hval 1 24 v1 rfl rfl) h1
  obtain ⟨g1, rfl⟩ : ∃ b, c10 = .bool b := by
    obtain ⟨b, h, _⟩ := DataW.trod_bool Try.underlying4 hy10
    exact ⟨b, by simpa using h⟩
  obtain ⟨s1, rfl, ws1⟩ : ∃ n, c12 = .int .i64 n ∧ (Lit.int .i64 n).wf = true := by
    obtain ⟨n, h, _, hw⟩ := DataW.trod_int Try.underlying3 hy12
    exact ⟨n, by simpa using h, hw⟩
  obtain ⟨a1, len1, cap1, z1, rfl, w1⟩ : ∃ a len cap zs, c11 = .slice a len cap ∧ IsRow .i64 W a len cap zs := by
    rcases open_ints Try.underlying22 Try.underlying3 (by kernel_rfl) hy11 with ⟨hcs, _⟩ | ⟨x, l, c, zs, hcs, _, hl, hm, hz, _, hcell, hwz⟩
    · exact ⟨none, 0, 0, [], by simpa using hcs, .inl ⟨rfl, rfl, rfl, rfl⟩⟩
    · exact ⟨some x, l, c, zs, by simpa using hcs, .inr ⟨_, rfl, hl, hm, by simpa using hz, hcell, hwz⟩⟩
  obtain ⟨xs1, l1, _, b1⟩ := w1.lst
  have k2 := h2
  have lt2 : ∀ x ∈ p2, x.block < W.heap.size := by obtain ⟨m, hm⟩ := k2; exact DataW.trod_lt m _ _ _ hm
  obtain ⟨c20, c21, c22, y20, y21, y22, m2, rfl, _, _, hy20, hy21, hy22⟩ := Joins.open_agg3 Try.underlying24 (by kernel_rfl) (by kernel_rfl) (hval 2 24 v2 rfl rfl) h2
  obtain ⟨g2, rfl⟩ : ∃ b, c20 = .bool b := by
    obtain ⟨b, h, _⟩ := DataW.trod_bool Try.underlying4 hy20
    exact ⟨b, by simpa using h⟩
  obtain ⟨s2, rfl, ws2⟩ : ∃ n, c22 = .int .i64 n ∧ (Lit.int .i64 n).wf = true := by
    obtain ⟨n, h, _, hw⟩ := DataW.trod_int Try.underlying3 hy22
    exact ⟨n, by simpa using h, hw⟩
  obtain ⟨a2, len2, cap2, z2, rfl, w2⟩ : ∃ a len cap zs, c21 = .slice a len cap ∧ IsRow .i64 W a len cap zs := by
    rcases open_ints Try.underlying22 Try.underlying3 (by kernel_rfl) hy21 with ⟨hcs, _⟩ | ⟨x, l, c, zs, hcs, _, hl, hm, hz, _, hcell, hwz⟩
    · exact ⟨none, 0, 0, [], by simpa using hcs, .inl ⟨rfl, rfl, rfl, rfl⟩⟩
    · exact ⟨some x, l, c, zs, by simpa using hcs, .inr ⟨_, rfl, hl, hm, by simpa using hz, hcell, hwz⟩⟩
  obtain ⟨xs2, l2, _, b2⟩ := w2.lst
  clear hA0 hval0
  refine (walk W g0 (.slice a0 len0 cap0) xs0 l0 b0 s0 (bounds_i64 ws0) g1 (.slice a1 len1 cap1) xs1 l1 b1 s1 (bounds_i64 ws1) g2 (.slice a2 len2 cap2) xs2 l2 b2 s2 (bounds_i64 ws2)).mono fun e W' ⟨he, bel⟩ => ?_
  subst he
  exact ⟨_, rfl, _, _, _, [], _, [], hW', trodAll_mk1 (shut_bool Try.underlying4 _), (trodAll_cons_mk (Below.trod laidOut (by kernel_rfl) (of_decide_eq_true (by kernel_rfl)) k0 bel lt0) (trodAll_cons_mk (Below.trod laidOut (by kernel_rfl) (of_decide_eq_true (by kernel_rfl)) k1 bel lt1) (trodAll_cons_mk (Below.trod laidOut (by kernel_rfl) (of_decide_eq_true (by kernel_rfl)) k2 bel lt2) trodAll_mk0))), rfl, bel.below.frame _, fun h => by cases h⟩

/-- The statement. -/
theorem proved : Rows.RoundClampsSaid :=
  OpenClaim.holds_of_wide 8 Try.f8 rfl rfl rfl rfl rfl rfl rfl ⟨rfl, rfl, rfl, rfl, rfl⟩ rfl rfl rfl rfl rfl (by kernel_rfl) Try.func8 (by kernel_rfl)
    (of_decide_eq_true (by kernel_rfl)) (by unfold Func.isWrapper; first | (rw [if_pos (by decide +kernel)]; kernel_rfl) | (rw [if_neg (by decide +kernel)]; exact ⟨rfl, rfl⟩))
    (fun os started H enc _ => lifted os started H enc)
#print axioms proved
end Go.Proofs.Ytebcgpoemppljaa.roundClamps
