/- DecimalAdds: of whatever two decimals (their first 12 numbers; as they are, and made digits, their scales made 0 to 9) both together, and one less the other one, are the document's, or refused; what is added is taken away again; no conditions. -/
import Derived.Test.YtilbefdeanhnpaaRows
import Derived.WalkKit
import Derived.ProofKit
import Derived.OpenShut
import Derived.ShutString
import Derived.ChangeOld
import Derived.Below
import Derived.Lib.SmallJoins
import Derived.Test.YtilbefdeanhnpaaInts
import Derived.Test.YtilbefdeanhnpaaUtfM
import Derived.Test.YtilbefdeanhnpaaUtfG
import Derived.Test.YtilbefdeanhnpaaUtfR
import Derived.Test.YtilbefdeanhnpaaDigM
import Derived.Test.YtilbefdeanhnpaaDigL
import Derived.Test.YtilbefdeanhnpaaDigR
import Derived.Test.YtilbefdeanhnpaaDecM
import Derived.Test.YtilbefdeanhnpaaDecR
import Derived.Test.YtilbefdeanhnpaaDecS
import Derived.Test.YtilbefdeanhnpaaDecC
import Derived.Test.YtilbefdeanhnpaaDecF
import Derived.Test.YtilbefdeanhnpaaDecG
import Derived.Test.YtilbefdeanhnpaaDecQ
import Derived.Test.YtilbefdeanhnpaaDecH
import Derived.Test.YtilbefdeanhnpaaDecI
import Derived.Test.YtilbefdeanhnpaaDecJ
import Derived.Test.YtilbefdeanhnpaaDecK
import Derived.Test.YtilbefdeanhnpaaDecO
import Derived.Test.YtilbefdeanhnpaaDecZ
import Derived.Test.YtilbefdeanhnpaaDecX
import Derived.Test.YtilbefdeanhnpaaDecY
import Derived.Test.YtilbefdeanhnpaaDecA
import Derived.Test.YtilbefdeanhnpaaDecB
import Derived.Test.YtilbefdeanhnpaaDecAB
import Derived.Test.YtilbefdeanhnpaaDecAC
set_option linter.unusedVariables false
set_option linter.unusedSimpArgs false
namespace Go.Proofs.Ytilbefdeanhnpaa.decimalAdds
open Go.ChangeShapes Go.WideShapes Go.ChangeAt Go.RowKit
open Go.ChangeMaps (open_string shut_string)

theorem own : ownKnob Try.prog.godebug = none := by kernel_rfl
theorem laidOut : laidOutB Try.prog = true := by kernel_rfl


set_option maxHeartbeats 8000000 in
set_option maxRecDepth 100000 in
theorem walk (w : World) (g0 : Bool) (v0 : Value) (xs0 : List Int) (w0 : Lst w v0 xs0) (b0 : ∀ n ∈ xs0, -9223372036854775808 ≤ n ∧ n ≤ 9223372036854775807) (s0 : Int) (ws0 : -9223372036854775808 ≤ s0 ∧ s0 ≤ 9223372036854775807) (g1 : Bool) (v1 : Value) (xs1 : List Int) (w1 : Lst w v1 xs1) (b1 : ∀ n ∈ xs1, -9223372036854775808 ≤ n ∧ n ≤ 9223372036854775807) (s1 : Int) (ws1 : -9223372036854775808 ≤ s1 ∧ s1 ≤ 9223372036854775807) :
    Calls Try.prog 7 #[.agg #[.bool g0, v0, .int .i64 s0], .agg #[.bool g1, v1, .int .i64 s1]] w fun e w' => e = .returned (.bool true) ∧ Q w w' := by
  have hR0 := w0
  obtain ⟨A0, C0, rfl, hnc0, hcm0⟩ := w0.shape2
  have hgl0 := Dm.gdL_len xs0 12
  have kX0 := Dm.gdL_ok xs0 12
  have hab0 := Um.around_bd s0 10 (by omega)
  obtain ⟨t0, ht0⟩ : ∃ t : Nat, Um.around s0 10 = (t : Int) := ⟨(Um.around s0 10).toNat, by omega⟩
  rw [ht0] at hab0
  have hs0 : t0 ≤ 9 := by omega
  obtain ⟨p0, hp0⟩ : ∃ p, (Dm.gdL xs0 12).length = p := ⟨_, rfl⟩
  have hpm0 : p0 ≤ 12 := by omega
  have G0 := Lib.hid (fun u (q : Q w u) => Ep.good_sh u g0 A0 xs0.length C0 s0 xs0 12 (w0.q q) rfl ws0 (by omega) b0 t0 p0 ht0 hp0)
  obtain ⟨q0, hq0⟩ : ∃ q, min xs0.length 12 = q := ⟨_, rfl⟩
  have FW0 := Lib.hid (fun u => Ep.few_sh u g0 A0 xs0.length C0 s0 12 q0 hnc0 hcm0 (by omega) hq0)
  have hT0 := w0.take q0 (by omega)
  have hRl0 : (xs0.take q0).length = q0 := by rw [List.length_take]; omega
  generalize xs0.take q0 = RR0 at *
  have HR0 := Lib.hid hT0
  generalize Dm.gdL xs0 12 = X0 at *
  generalize hn0 : xs0.length = n0 at *
  have HP0 := Lib.hid hp0
  have hql0 : q0 ≤ 12 := by omega
  have HRL0 := Lib.hid hRl0
  clear hgl0 hab0 ht0
  have hR1 := w1
  obtain ⟨A1, C1, rfl, hnc1, hcm1⟩ := w1.shape2
  have hgl1 := Dm.gdL_len xs1 12
  have kX1 := Dm.gdL_ok xs1 12
  have hab1 := Um.around_bd s1 10 (by omega)
  obtain ⟨t1, ht1⟩ : ∃ t : Nat, Um.around s1 10 = (t : Int) := ⟨(Um.around s1 10).toNat, by omega⟩
  rw [ht1] at hab1
  have hs1 : t1 ≤ 9 := by omega
  obtain ⟨p1, hp1⟩ : ∃ p, (Dm.gdL xs1 12).length = p := ⟨_, rfl⟩
  have hpm1 : p1 ≤ 12 := by omega
  have G1 := Lib.hid (fun u (q : Q w u) => Ep.good_sh u g1 A1 xs1.length C1 s1 xs1 12 (w1.q q) rfl ws1 (by omega) b1 t1 p1 ht1 hp1)
  obtain ⟨q1, hq1⟩ : ∃ q, min xs1.length 12 = q := ⟨_, rfl⟩
  have FW1 := Lib.hid (fun u => Ep.few_sh u g1 A1 xs1.length C1 s1 12 q1 hnc1 hcm1 (by omega) hq1)
  have hT1 := w1.take q1 (by omega)
  have hRl1 : (xs1.take q1).length = q1 := by rw [List.length_take]; omega
  generalize xs1.take q1 = RR1 at *
  have HR1 := Lib.hid hT1
  generalize Dm.gdL xs1 12 = X1 at *
  generalize hn1 : xs1.length = n1 at *
  have HP1 := Lib.hid hp1
  have hql1 : q1 ≤ 12 := by omega
  have HRL1 := Lib.hid hRl1
  clear hgl1 hab1 ht1
  obtain ⟨nh, hnh⟩ : ∃ nh, (!g1) = nh := ⟨_, rfl⟩
  have AL0 := Lib.hid (Ep.sums_both g0 g1 nh hnh t0 t1 X0 X1 (by omega) (by omega) (by omega) (by omega))
  have AL1 := Lib.hid (Ep.sums_both g0 g1 nh hnh s0 s1 RR0 RR1 (by omega) (by omega) (by omega) (by omega))
  have HNH := Lib.hid hnh
  have LV := Lib.hid Ep.lives_any
  clear hnh hR0 hnc0 hcm0 hs0 hpm0 hq0 hT0 hRl0 hql0 kX0 hp0 w0 b0 hR1 hnc1 hcm1 hs1 hpm1 hq1 hT1 hRl1 hql1 kX1 hp1 w1 b1
  go_enter Try.func7, Try.ntmps7
  have Q0 := Lib.hid (show Q w ((w.alloc (.cells #[.bool g0, .slice A0 n0 C0, .int .i64 s0] 24)).alloc (.cells #[.bool g1, .slice A1 n1 C1, .int .i64 s1] 24)) from (((Q.refl w).alloc (.cells #[.bool g0, .slice A0 n0 C0, .int .i64 s0] 24)).alloc (.cells #[.bool g1, .slice A1 n1 C1, .int .i64 s1] 24)))
  have B0_i := Lib.hid (show ((w.alloc (.cells #[.bool g0, .slice A0 n0 C0, .int .i64 s0] 24)).alloc (.cells #[.bool g1, .slice A1 n1 C1, .int .i64 s1] 24)).heap[w.heap.size]? = some (.cells #[.bool g0, .slice A0 n0 C0, .int .i64 s0] 24) from by exact heap_alloc2_old _ _ _)
  have B0_j := Lib.hid (show ((w.alloc (.cells #[.bool g0, .slice A0 n0 C0, .int .i64 s0] 24)).alloc (.cells #[.bool g1, .slice A1 n1 C1, .int .i64 s1] 24)).heap[w.heap.size + 1]? = some (.cells #[.bool g1, .slice A1 n1 C1, .int .i64 s1] 24) from by exact heap_alloc2_new _ _ _)
  obtain ⟨k_i0, k_i1, k_i2, _, _, _⟩ := Er.block_cells B0_i.out
  obtain ⟨k_j0, k_j1, k_j2, _, _, _⟩ := Er.block_cells B0_j.out
  go_wp2_with fail
  have SQ := Lib.hid (fun u (q : Q (((w.alloc (.cells #[.bool g0, .slice A0 n0 C0, .int .i64 s0] 24)).alloc (.cells #[.bool g1, .slice A1 n1 C1, .int .i64 s1] 24))) u) => (Ep.SB1.of B0_i.out q : Ep.SB1 (((w.alloc (.cells #[.bool g0, .slice A0 n0 C0, .int .i64 s0] 24)).alloc (.cells #[.bool g1, .slice A1 n1 C1, .int .i64 s1] 24))) (w.heap.size) g0 (.slice A0 n0 C0) s0 u))
  clear k_i0 k_i1 k_i2 k_j0 k_j1 k_j2
  refine wp_region_held_drew (S := fun u => Ep.SB1 (((w.alloc (.cells #[.bool g0, .slice A0 n0 C0, .int .i64 s0] 24)).alloc (.cells #[.bool g1, .slice A1 n1 C1, .int .i64 s1] 24))) (w.heap.size) g0 (.slice A0 n0 C0) s0 u) (by kernel_rfl) (by exact SQ.out _ ((Q.refl ((w.alloc (.cells #[.bool g0, .slice A0 n0 C0, .int .i64 s0] 24)).alloc (.cells #[.bool g1, .slice A1 n1 C1, .int .i64 s1] 24))).drew)) (fun hHeld => ?_)
  have hS : Ep.SB1 (((w.alloc (.cells #[.bool g0, .slice A0 n0 C0, .int .i64 s0] 24)).alloc (.cells #[.bool g1, .slice A1 n1 C1, .int .i64 s1] 24))) (w.heap.size) g0 (.slice A0 n0 C0) s0 ((w.alloc (.cells #[.bool g0, .slice A0 n0 C0, .int .i64 s0] 24)).alloc (.cells #[.bool g1, .slice A1 n1 C1, .int .i64 s1] 24)).drew := hHeld
  clear hHeld
  generalize ((w.alloc (.cells #[.bool g0, .slice A0 n0 C0, .int .i64 s0] 24)).alloc (.cells #[.bool g1, .slice A1 n1 C1, .int .i64 s1] 24)).drew = yx0 at hS ⊢
  refine wpAnyH_take (i := 0) (oi := { dst := some 18, op := Op.load 24 (Operand.tmp 2), type := 24, pos := "law.go:71", after := #[], guard := none }) (v := ?vx1) rfl (by kernel_rfl) (by kernel_rfl) (by kernel_rfl) (fun _ _ _ h => h) (Or.inl ⟨by rfl, ?hyx1⟩) (by exact hS) ?rsx1
  case hyx1 => (intro w hSw; (try dsimp only at hSw); unfold Ep.SB1 at hSw; go_simp; try with_reducible rfl)
  try simp only [Act.put, List.setIfInBounds_toArray, List.set_cons_zero, List.set_cons_succ]
  refine wpAnyH_take (i := 2) (oi := { dst := some 20, op := Op.load 24 (Operand.tmp 2), type := 24, pos := "law.go:71", after := #[], guard := none }) (v := ?vx2) rfl (by kernel_rfl) (by kernel_rfl) (by kernel_rfl) (fun _ _ _ h => h) (Or.inl ⟨by rfl, ?hyx2⟩) (by exact hS) ?rsx2
  case hyx2 => (intro w hSw; (try dsimp only at hSw); unfold Ep.SB1 at hSw; go_simp; try with_reducible rfl)
  try simp only [Act.put, List.setIfInBounds_toArray, List.set_cons_zero, List.set_cons_succ]
  refine wpAnyH_ready (rs := [1]) (by kernel_rfl) (by simp) ?_
  refine (AllReadyH.cons (o := { dst := some 19, op := Op.call { callee := Callee.value (Operand.func 12), args := #[Operand.tmp 18, Operand.const (Value.int IntKind.i64 12)], argTypes := #[24, 3] }, type := 24, pos := "law.go:71", after := #[{ on := 0, ground := Ground.data }], guard := none }) rfl (fun K hK => ?_) AllReadyH.nil)
  go_simp
  refine (G0.out _ (Q0.out.trans (Ep.SB1.here hS))).mono ?_
  rintro e yx3 ⟨a1x, c1x, rfl, hx1, hq⟩
  try (go_wp2_with fail)
  have hS2 := SQ.out _ (Q.trans (Ep.SB1.here hS) hq)
  refine hK.out _ _ (by exact hS2) (fun hHeld => ?_)
  clear hK K hHeld hS hq
  have hS := hS2
  clear hS2
  try simp only [Act.put, List.setIfInBounds_toArray, List.set_cons_zero, List.set_cons_succ]
  refine wpAnyH_ready (rs := [3]) (by kernel_rfl) (by simp) ?_
  refine (AllReadyH.cons (o := { dst := some 21, op := Op.call { callee := Callee.value (Operand.func 20), args := #[Operand.tmp 20, Operand.const (Value.int IntKind.i64 12)], argTypes := #[24, 3] }, type := 24, pos := "law.go:71", after := #[{ on := 2, ground := Ground.data }, { on := 1, ground := Ground.chain }], guard := none }) rfl (fun K hK => ?_) AllReadyH.nil)
  go_simp
  refine (FW0.out _).mono ?_
  rintro e yx4 ⟨rfl, hq⟩
  try (go_wp2_with fail)
  have hx1 := Lst.q hx1 hq
  have hS2 := SQ.out _ (Q.trans (Ep.SB1.here hS) hq)
  refine hK.out _ _ (by exact hS2) (fun hHeld => ?_)
  clear hK K hHeld hS hq
  have hS := hS2
  clear hS2
  try simp only [Act.put, List.setIfInBounds_toArray, List.set_cons_zero, List.set_cons_succ]
  refine wpAnyH_ready (rs := [4]) (by kernel_rfl) (by simp) ?_
  refine (AllReadyH.cons (o := { dst := some 22, op := Op.buildSlice 54 2 #[(0, Operand.tmp 19), (1, Operand.tmp 21)], type := 54, pos := "law.go:71", after := #[{ on := 1, ground := Ground.data }, { on := 3, ground := Ground.data }], guard := none }) rfl (fun K hK => ?_) AllReadyH.nil)
  go_simp
  have hq := (Q.refl yx4).alloc (.cells #[.bool g0, .slice a1x p0 c1x, .int .i64 t0, .bool g0, .slice A0 q0 C0, .int .i64 s0] 24)
  have HBX := heap_alloc_new yx4 (.cells #[.bool g0, .slice a1x p0 c1x, .int .i64 t0, .bool g0, .slice A0 q0 C0, .int .i64 s0] 24)
  have hx1 := Lst.q hx1 hq
  have hS2 := SQ.out _ (Q.trans (Ep.SB1.here hS) hq)
  refine hK.out _ _ (by exact hS2) (fun hHeld => ?_)
  clear hK K hHeld hS hq
  have hS := hS2
  clear hS2
  generalize yx4.alloc (.cells #[.bool g0, .slice a1x p0 c1x, .int .i64 t0, .bool g0, .slice A0 q0 C0, .int .i64 s0] 24) = yx5 at *
  generalize yx4.heap.size = X at *
  try simp only [Act.put, List.setIfInBounds_toArray, List.set_cons_zero, List.set_cons_succ]
  refine wpAnyH_take (i := 5) (oi := { dst := some 5, op := Op.assign (Operand.tmp 22), type := 54, pos := "law.go:71", after := #[{ on := 4, ground := Ground.data }, { on := 3, ground := Ground.chain }, { on := 0, ground := Ground.phase }, { on := 1, ground := Ground.phase }, { on := 2, ground := Ground.phase }, { on := 3, ground := Ground.phase }, { on := 4, ground := Ground.phase }], guard := none }) (v := ?vx6) rfl (by kernel_rfl) (by kernel_rfl) (by kernel_rfl) (fun _ _ _ h => h) (Or.inl ⟨by rfl, ?hyx6⟩) (by exact hS) ?rsx6
  case hyx6 => (intro w hSw; (try dsimp only at hSw); unfold Ep.SB1 at hSw; go_simp; try with_reducible rfl)
  try simp only [Act.put, List.setIfInBounds_toArray, List.set_cons_zero, List.set_cons_succ]
  refine wpAnyH_done (by kernel_rfl) ?_ _
  have hqr := Ep.SB1.here hS
  have HLx := Lib.hid hx1
  have HX := Lib.hid HBX
  clear hS hx1 HBX SQ
  have B1_i := Lib.hid ((Q.block hqr (lt_of_block B0_i.out)).trans B0_i.out)
  clear B0_i
  have B1_j := Lib.hid ((Q.block hqr (lt_of_block B0_j.out)).trans B0_j.out)
  clear B0_j
  have Q1 := Lib.hid (Q.trans Q0.out hqr)
  clear Q0
  clear hqr
  obtain ⟨k_i0, k_i1, k_i2, _, _, _⟩ := Er.block_cells B1_i.out
  obtain ⟨k_j0, k_j1, k_j2, _, _, _⟩ := Er.block_cells B1_j.out
  go_wp2_with fail
  have SQ := Lib.hid (fun u (q : Q (yx5) u) => (Ep.SB1.of B1_j.out q : Ep.SB1 (yx5) (w.heap.size + 1) g1 (.slice A1 n1 C1) s1 u))
  clear k_i0 k_i1 k_i2 k_j0 k_j1 k_j2
  refine wp_region_held_drew (S := fun u => Ep.SB1 (yx5) (w.heap.size + 1) g1 (.slice A1 n1 C1) s1 u) (by kernel_rfl) (by exact SQ.out _ ((Q.refl yx5).drew)) (fun hHeld => ?_)
  have hS : Ep.SB1 (yx5) (w.heap.size + 1) g1 (.slice A1 n1 C1) s1 yx5.drew := hHeld
  clear hHeld
  generalize yx5.drew = yy0 at hS ⊢
  refine wpAnyH_take (i := 0) (oi := { dst := some 23, op := Op.load 24 (Operand.tmp 3), type := 24, pos := "law.go:72", after := #[], guard := none }) (v := ?vy1) rfl (by kernel_rfl) (by kernel_rfl) (by kernel_rfl) (fun _ _ _ h => h) (Or.inl ⟨by rfl, ?hyy1⟩) (by exact hS) ?rsy1
  case hyy1 => (intro w hSw; (try dsimp only at hSw); unfold Ep.SB1 at hSw; go_simp; try with_reducible rfl)
  try simp only [Act.put, List.setIfInBounds_toArray, List.set_cons_zero, List.set_cons_succ]
  refine wpAnyH_take (i := 2) (oi := { dst := some 25, op := Op.load 24 (Operand.tmp 3), type := 24, pos := "law.go:72", after := #[], guard := none }) (v := ?vy2) rfl (by kernel_rfl) (by kernel_rfl) (by kernel_rfl) (fun _ _ _ h => h) (Or.inl ⟨by rfl, ?hyy2⟩) (by exact hS) ?rsy2
  case hyy2 => (intro w hSw; (try dsimp only at hSw); unfold Ep.SB1 at hSw; go_simp; try with_reducible rfl)
  try simp only [Act.put, List.setIfInBounds_toArray, List.set_cons_zero, List.set_cons_succ]
  refine wpAnyH_ready (rs := [1]) (by kernel_rfl) (by simp) ?_
  refine (AllReadyH.cons (o := { dst := some 24, op := Op.call { callee := Callee.value (Operand.func 12), args := #[Operand.tmp 23, Operand.const (Value.int IntKind.i64 12)], argTypes := #[24, 3] }, type := 24, pos := "law.go:72", after := #[{ on := 0, ground := Ground.data }], guard := none }) rfl (fun K hK => ?_) AllReadyH.nil)
  go_simp
  refine (G1.out _ (Q1.out.trans (Ep.SB1.here hS))).mono ?_
  rintro e yy3 ⟨a1y, c1y, rfl, hx1, hq⟩
  try (go_wp2_with fail)
  have hS2 := SQ.out _ (Q.trans (Ep.SB1.here hS) hq)
  refine hK.out _ _ (by exact hS2) (fun hHeld => ?_)
  clear hK K hHeld hS hq
  have hS := hS2
  clear hS2
  try simp only [Act.put, List.setIfInBounds_toArray, List.set_cons_zero, List.set_cons_succ]
  refine wpAnyH_ready (rs := [3]) (by kernel_rfl) (by simp) ?_
  refine (AllReadyH.cons (o := { dst := some 26, op := Op.call { callee := Callee.value (Operand.func 20), args := #[Operand.tmp 25, Operand.const (Value.int IntKind.i64 12)], argTypes := #[24, 3] }, type := 24, pos := "law.go:72", after := #[{ on := 2, ground := Ground.data }, { on := 1, ground := Ground.chain }], guard := none }) rfl (fun K hK => ?_) AllReadyH.nil)
  go_simp
  refine (FW1.out _).mono ?_
  rintro e yy4 ⟨rfl, hq⟩
  try (go_wp2_with fail)
  have hx1 := Lst.q hx1 hq
  have hS2 := SQ.out _ (Q.trans (Ep.SB1.here hS) hq)
  refine hK.out _ _ (by exact hS2) (fun hHeld => ?_)
  clear hK K hHeld hS hq
  have hS := hS2
  clear hS2
  try simp only [Act.put, List.setIfInBounds_toArray, List.set_cons_zero, List.set_cons_succ]
  refine wpAnyH_ready (rs := [4]) (by kernel_rfl) (by simp) ?_
  refine (AllReadyH.cons (o := { dst := some 27, op := Op.buildSlice 54 2 #[(0, Operand.tmp 24), (1, Operand.tmp 26)], type := 54, pos := "law.go:72", after := #[{ on := 1, ground := Ground.data }, { on := 3, ground := Ground.data }], guard := none }) rfl (fun K hK => ?_) AllReadyH.nil)
  go_simp
  have hq := (Q.refl yy4).alloc (.cells #[.bool g1, .slice a1y p1 c1y, .int .i64 t1, .bool g1, .slice A1 q1 C1, .int .i64 s1] 24)
  have HBY := heap_alloc_new yy4 (.cells #[.bool g1, .slice a1y p1 c1y, .int .i64 t1, .bool g1, .slice A1 q1 C1, .int .i64 s1] 24)
  have hx1 := Lst.q hx1 hq
  have hS2 := SQ.out _ (Q.trans (Ep.SB1.here hS) hq)
  refine hK.out _ _ (by exact hS2) (fun hHeld => ?_)
  clear hK K hHeld hS hq
  have hS := hS2
  clear hS2
  generalize yy4.alloc (.cells #[.bool g1, .slice a1y p1 c1y, .int .i64 t1, .bool g1, .slice A1 q1 C1, .int .i64 s1] 24) = yy5 at *
  generalize yy4.heap.size = Y at *
  try simp only [Act.put, List.setIfInBounds_toArray, List.set_cons_zero, List.set_cons_succ]
  refine wpAnyH_take (i := 5) (oi := { dst := some 6, op := Op.assign (Operand.tmp 27), type := 54, pos := "law.go:72", after := #[{ on := 4, ground := Ground.data }, { on := 3, ground := Ground.chain }, { on := 0, ground := Ground.phase }, { on := 1, ground := Ground.phase }, { on := 2, ground := Ground.phase }, { on := 3, ground := Ground.phase }, { on := 4, ground := Ground.phase }], guard := none }) (v := ?vy6) rfl (by kernel_rfl) (by kernel_rfl) (by kernel_rfl) (fun _ _ _ h => h) (Or.inl ⟨by rfl, ?hyy6⟩) (by exact hS) ?rsy6
  case hyy6 => (intro w hSw; (try dsimp only at hSw); unfold Ep.SB1 at hSw; go_simp; try with_reducible rfl)
  try simp only [Act.put, List.setIfInBounds_toArray, List.set_cons_zero, List.set_cons_succ]
  refine wpAnyH_done (by kernel_rfl) ?_ _
  have hqr := Ep.SB1.here hS
  have HLy := Lib.hid hx1
  have HY := Lib.hid HBY
  clear hS hx1 HBY SQ
  have L2_Gx := Lib.hid (Lst.q HLx.out hqr)
  clear HLx
  have B2_i := Lib.hid ((Q.block hqr (lt_of_block B1_i.out)).trans B1_i.out)
  clear B1_i
  have B2_j := Lib.hid ((Q.block hqr (lt_of_block B1_j.out)).trans B1_j.out)
  clear B1_j
  have H2_X := Lib.hid ((Q.block hqr (lt_of_block HX.out)).trans HX.out)
  clear HX
  have Q2 := Lib.hid (Q.trans Q1.out hqr)
  clear Q1
  clear hqr
  go_wp2_with fail
  have HR02 := Lib.hid (HR0.out.q Q2.out)
  have HR12 := Lib.hid (HR1.out.q Q2.out)
  have HGX := Lib.hid L2_Gx.out
  have HGY := Lib.hid HLy.out
  have hel : ∀ i : Nat, i < 2 → ∃ a n c s L b m d t M ga Za sa gd Zd sd er, (∀ u : World, u.heap[X]? = some (.cells #[.bool g0, .slice a1x p0 c1x, .int .i64 t0, .bool g0, .slice A0 q0 C0, .int .i64 s0] 24) → u.cell? ⟨X, i * 3, none⟩ = some (.bool g0) ∧ u.cell? ⟨X, i * 3 + 1, none⟩ = some (.slice a n c) ∧ u.cell? ⟨X, i * 3 + 2, none⟩ = some (.int .i64 s)) ∧ (∀ u : World, u.heap[Y]? = some (.cells #[.bool g1, .slice a1y p1 c1y, .int .i64 t1, .bool g1, .slice A1 q1 C1, .int .i64 s1] 24) → u.cell? ⟨Y, i * 3, none⟩ = some (.bool g1) ∧ u.cell? ⟨Y, i * 3 + 1, none⟩ = some (.slice b m d) ∧ u.cell? ⟨Y, i * 3 + 2, none⟩ = some (.int .i64 t)) ∧ Lst yy5 (.slice a n c) L ∧ Lst yy5 (.slice b m d) M ∧
      Ep.F2 32 g0 s L g1 t M ga Za sa er ∧ Ep.F2 33 g0 s L g1 t M ga Za sa er ∧ Ep.F2 34 g0 s L g1 t M gd Zd sd er ∧ Ep.F2 33 g0 s L nh t M gd Zd sd er ∧ Za.length < 9000 ∧ Zd.length < 9000 ∧
        (er ≠ 0 ∨ (er = 0 ∧ ∃ gb Zb sb, Ep.F2 34 ga sa Za g1 t M gb Zb sb 0 ∧ Ep.F0 29 g0 s L gb Zb sb ∧ Zb.length < 9000)) := by
    intro i hi
    obtain ⟨x1, x2, x3, x4, x5, x6, x7, f1, f2, f3, f4, f5, f6, f7⟩ := AL0.out
    obtain ⟨y1, y2, y3, y4, y5, y6, y7, k1, k2, k3, k4, k5, k6, k7⟩ := AL1.out
    rcases (show i = 0 ∨ i = 1 from by omega) with rfl | rfl
    · exact ⟨_, _, _, _, _, _, _, _, _, _, _, _, _, _, _, _, _, fun u h => ⟨by simp [World.cell?, h], by simp [World.cell?, h], by simp [World.cell?, h]⟩, fun u h => ⟨by simp [World.cell?, h], by simp [World.cell?, h], by simp [World.cell?, h]⟩, HGX.out, HGY.out, f1, f2, f3, f4, f5, f6, f7⟩
    · exact ⟨_, _, _, _, _, _, _, _, _, _, _, _, _, _, _, _, _, fun u h => ⟨by simp [World.cell?, h], by simp [World.cell?, h], by simp [World.cell?, h]⟩, fun u h => ⟨by simp [World.cell?, h], by simp [World.cell?, h], by simp [World.cell?, h]⟩, HR02.out, HR12.out, k1, k2, k3, k4, k5, k6, k7⟩
  have HEL := Lib.hid hel
  clear hel AL0 AL1 HR02 HR12 HGX HGY HR0 HR1 G0 G1 FW0 FW1
  go_loopw [7] (fun iv wr => ∃ i : Nat, iv = .int .i64 i ∧ i ≤ 2 ∧ wr.heap[X]? = some (.cells #[.bool g0, .slice a1x p0 c1x, .int .i64 t0, .bool g0, .slice A0 q0 C0, .int .i64 s0] 24) ∧ wr.heap[Y]? = some (.cells #[.bool g1, .slice a1y p1 c1y, .int .i64 t1, .bool g1, .slice A1 q1 C1, .int .i64 s1] 24) ∧ Q yy5 wr) (fun iv _ => 2 - (intOf iv).toNat)
  case atStart => exact ⟨0, rfl, by omega, H2_X.out, HY.out, Q.refl _⟩
  case round =>
    obtain ⟨i, rfl, hi, hbx, hby, hq⟩ := hrel
    by_cases hlt : i < 2
    · have HBX := Lib.hid hbx
      have HBY := Lib.hid hby
      have QR := Lib.hid hq
      clear hbx hby hq
      obtain ⟨a, n, c, s, L, b, m, d, t, M, ga, Za, sa, gd, Zd, sd, er, hcx, hcy, hl, hm, pa, ra, ps, rs, hza, hzd, hback⟩ := HEL.out i hlt
      obtain ⟨za, hzae⟩ : ∃ z, Za.length = z := ⟨_, rfl⟩
      obtain ⟨zd, hzde⟩ : ∃ z, Zd.length = z := ⟨_, rfl⟩
      unfold Ep.F2 at pa ra ps rs
      simp only [hzae] at pa ra
      simp only [hzde] at ps rs
      have CX := Lib.hid hcx
      have CY := Lib.hid hcy
      have HL := Lib.hid (hl.q QR.out)
      have HM := Lib.hid (hm.q QR.out)
      have PA := Lib.hid pa
      have RA := Lib.hid ra
      have PS := Lib.hid ps
      have RS := Lib.hid rs
      have HZA := Lib.hid hza
      have HZD := Lib.hid hzd
      have HBK := Lib.hid hback
      have hlti : (i : Int) < 2 := by omega
      clear hcx hcy hl hm pa ra ps rs hza hzd hzae hzde hback
      have SQ := Lib.hid (fun u (q : Q wr u) => (by
        obtain ⟨x0, x1, x2⟩ := CX.out u ((Q.block q (lt_of_block HBX.out)).trans HBX.out)
        obtain ⟨x3, x4, x5⟩ := CY.out u ((Q.block q (lt_of_block HBY.out)).trans HBY.out)
        exact ⟨x0, x1, x2, x3, x4, x5, q⟩ : Ep.SU wr X Y i g0 (.slice a n c) s g1 (.slice b m d) t u))
      go_upto_region 6 with fail
      go_cut [8, 9] from 28 to 131 (fun p e wx => ∃ b9 a9 c9, p = .pointer (some ⟨b9, 0, none⟩) ∧ e = .int .i64 er ∧ wx.heap[b9]? = some (.cells #[.bool ga, .slice a9 za c9, .int .i64 sa] 32) ∧ Lst wx (.slice a9 za c9) Za ∧ Q wr wx)
      case first =>
        refine wp_region_held_drew (S := fun u => Ep.SU wr X Y i g0 (.slice a n c) s g1 (.slice b m d) t u) (by kernel_rfl) (by exact SQ.out _ ((Q.refl wr).drew)) (fun hHeld => ?_)
        have hS : Ep.SU wr X Y i g0 (.slice a n c) s g1 (.slice b m d) t wr.drew := hHeld
        clear hHeld
        generalize wr.drew = yT3x0 at hS ⊢
        refine wpAnyH_take (i := 0) (oi := { dst := some 33, op := Op.move (Operand.tmp 5), type := 54, pos := "law.go:74", after := #[], guard := none }) (v := ?vT3x1) rfl (by kernel_rfl) (by kernel_rfl) (by kernel_rfl) (fun _ _ _ h => h) (Or.inl ⟨by rfl, ?hyT3x1⟩) (by exact hS) ?rsT3x1
        case hyT3x1 => (intro w hSw; (try dsimp only at hSw); unfold Ep.SU at hSw; go_simp; try with_reducible rfl)
        try simp only [Act.put, List.setIfInBounds_toArray, List.set_cons_zero, List.set_cons_succ]
        refine wpAnyH_take (i := 1) (oi := { dst := some 34, op := Op.move (Operand.tmp 7), type := 3, pos := "law.go:74", after := #[], guard := none }) (v := ?vT3x2) rfl (by kernel_rfl) (by kernel_rfl) (by kernel_rfl) (fun _ _ _ h => h) (Or.inl ⟨by rfl, ?hyT3x2⟩) (by exact hS) ?rsT3x2
        case hyT3x2 => (intro w hSw; (try dsimp only at hSw); unfold Ep.SU at hSw; go_simp; try with_reducible rfl)
        try simp only [Act.put, List.setIfInBounds_toArray, List.set_cons_zero, List.set_cons_succ]
        refine wpAnyH_take (i := 2) (oi := { dst := some 35, op := Op.indexAddr 54 (Operand.tmp 33) (Operand.tmp 34), type := 0, pos := "law.go:74", after := #[{ on := 0, ground := Ground.data }, { on := 1, ground := Ground.data }], guard := none }) (v := ?vT3x3) rfl (by kernel_rfl) (by kernel_rfl) (by kernel_rfl) (fun _ _ _ h => h) (Or.inl ⟨by rfl, ?hyT3x3⟩) (by exact hS) ?rsT3x3
        case hyT3x3 => (intro w hSw; (try dsimp only at hSw); unfold Ep.SU at hSw; go_simp; try with_reducible rfl)
        try simp only [Act.put, List.setIfInBounds_toArray, List.set_cons_zero, List.set_cons_succ]
        refine wpAnyH_take (i := 3) (oi := { dst := some 36, op := Op.load 24 (Operand.tmp 35), type := 24, pos := "law.go:74", after := #[{ on := 2, ground := Ground.data }], guard := none }) (v := ?vT3x4) rfl (by kernel_rfl) (by kernel_rfl) (by kernel_rfl) (fun _ _ _ h => h) (Or.inl ⟨by rfl, ?hyT3x4⟩) (by exact hS) ?rsT3x4
        case hyT3x4 => (intro w hSw; (try dsimp only at hSw); unfold Ep.SU at hSw; go_simp; try with_reducible rfl)
        try simp only [Act.put, List.setIfInBounds_toArray, List.set_cons_zero, List.set_cons_succ]
        refine wpAnyH_take (i := 5) (oi := { dst := some 38, op := Op.move (Operand.tmp 6), type := 54, pos := "law.go:74", after := #[], guard := none }) (v := ?vT3x5) rfl (by kernel_rfl) (by kernel_rfl) (by kernel_rfl) (fun _ _ _ h => h) (Or.inl ⟨by rfl, ?hyT3x5⟩) (by exact hS) ?rsT3x5
        case hyT3x5 => (intro w hSw; (try dsimp only at hSw); unfold Ep.SU at hSw; go_simp; try with_reducible rfl)
        try simp only [Act.put, List.setIfInBounds_toArray, List.set_cons_zero, List.set_cons_succ]
        refine wpAnyH_take (i := 6) (oi := { dst := some 39, op := Op.move (Operand.tmp 7), type := 3, pos := "law.go:74", after := #[], guard := none }) (v := ?vT3x6) rfl (by kernel_rfl) (by kernel_rfl) (by kernel_rfl) (fun _ _ _ h => h) (Or.inl ⟨by rfl, ?hyT3x6⟩) (by exact hS) ?rsT3x6
        case hyT3x6 => (intro w hSw; (try dsimp only at hSw); unfold Ep.SU at hSw; go_simp; try with_reducible rfl)
        try simp only [Act.put, List.setIfInBounds_toArray, List.set_cons_zero, List.set_cons_succ]
        refine wpAnyH_take (i := 7) (oi := { dst := some 40, op := Op.indexAddr 54 (Operand.tmp 38) (Operand.tmp 39), type := 0, pos := "law.go:74", after := #[{ on := 5, ground := Ground.data }, { on := 6, ground := Ground.data }], guard := none }) (v := ?vT3x7) rfl (by kernel_rfl) (by kernel_rfl) (by kernel_rfl) (fun _ _ _ h => h) (Or.inl ⟨by rfl, ?hyT3x7⟩) (by exact hS) ?rsT3x7
        case hyT3x7 => (intro w hSw; (try dsimp only at hSw); unfold Ep.SU at hSw; go_simp; try with_reducible rfl)
        try simp only [Act.put, List.setIfInBounds_toArray, List.set_cons_zero, List.set_cons_succ]
        refine wpAnyH_take (i := 8) (oi := { dst := some 41, op := Op.load 24 (Operand.tmp 40), type := 24, pos := "law.go:74", after := #[{ on := 7, ground := Ground.data }], guard := none }) (v := ?vT3x8) rfl (by kernel_rfl) (by kernel_rfl) (by kernel_rfl) (fun _ _ _ h => h) (Or.inl ⟨by rfl, ?hyT3x8⟩) (by exact hS) ?rsT3x8
        case hyT3x8 => (intro w hSw; (try dsimp only at hSw); unfold Ep.SU at hSw; go_simp; try with_reducible rfl)
        try simp only [Act.put, List.setIfInBounds_toArray, List.set_cons_zero, List.set_cons_succ]
        refine wpAnyH_ready (rs := [4, 14]) (by kernel_rfl) (by simp) ?_
        refine (AllReadyH.cons (o := { dst := some 37, op := Op.call { callee := Callee.value (Operand.func 22), args := #[Operand.tmp 36], argTypes := #[24] }, type := 32, pos := "law.go:74", after := #[{ on := 3, ground := Ground.data }], guard := none }) rfl (fun K hK => ?_) (AllReadyH.cons (o := { dst := some 8, op := Op.alloc 32, type := 0, pos := "law.go:74", after := #[], guard := none }) rfl (fun K hK => ?_) AllReadyH.nil))
        · go_simp
          refine (Ep.of_sh _ _ _ _ _ _).mono ?_
          rintro e yT3x9 ⟨rfl, hq⟩
          try (go_wp2_with fail)
          have hS2 := SQ.out _ (Q.trans (Ep.SU.here hS) hq)
          refine hK.out _ _ (by exact hS2) (fun hHeld => ?_)
          clear hK K hHeld hS hq
          have hS := hS2
          clear hS2
          try simp only [Act.put, List.setIfInBounds_toArray, List.set_cons_zero, List.set_cons_succ]
          refine wpAnyH_ready (rs := [9, 14]) (by kernel_rfl) (by simp) ?_
          refine (AllReadyH.cons (o := { dst := some 42, op := Op.call { callee := Callee.value (Operand.func 22), args := #[Operand.tmp 41], argTypes := #[24] }, type := 32, pos := "law.go:74", after := #[{ on := 8, ground := Ground.data }, { on := 4, ground := Ground.chain }], guard := none }) rfl (fun K hK => ?_) (AllReadyH.cons (o := { dst := some 8, op := Op.alloc 32, type := 0, pos := "law.go:74", after := #[], guard := none }) rfl (fun K hK => ?_) AllReadyH.nil))
          · go_simp
            refine (Ep.of_sh _ _ _ _ _ _).mono ?_
            rintro e yT3x10 ⟨rfl, hq⟩
            try (go_wp2_with fail)
            have hS2 := SQ.out _ (Q.trans (Ep.SU.here hS) hq)
            refine hK.out _ _ (by exact hS2) (fun hHeld => ?_)
            clear hK K hHeld hS hq
            have hS := hS2
            clear hS2
            try simp only [Act.put, List.setIfInBounds_toArray, List.set_cons_zero, List.set_cons_succ]
            refine wpAnyH_ready (rs := [10, 14]) (by kernel_rfl) (by simp) ?_
            refine (AllReadyH.cons (o := { dst := some 43, op := Op.call { callee := Callee.value (Operand.func 32), args := #[Operand.tmp 37, Operand.tmp 42], argTypes := #[32, 32] }, type := 34, pos := "law.go:74", after := #[{ on := 4, ground := Ground.data }, { on := 9, ground := Ground.data }, { on := 9, ground := Ground.chain }], guard := none }) rfl (fun K hK => ?_) (AllReadyH.cons (o := { dst := some 8, op := Op.alloc 32, type := 0, pos := "law.go:74", after := #[], guard := none }) rfl (fun K hK => ?_) AllReadyH.nil))
            · go_simp
              refine (PA.out _ _ _ (HL.out.q (Ep.SU.here hS)) (HM.out.q (Ep.SU.here hS))).mono ?_
              rintro e yT3x11 ⟨a9, c9, rfl, hx9, hq⟩
              try (go_wp2_with fail)
              have hlf := hx9
              have hx9 := Ep.lf_lst hlf
              clear hlf
              have hS2 := SQ.out _ (Q.trans (Ep.SU.here hS) hq)
              refine hK.out _ _ (by exact hS2) (fun hHeld => ?_)
              clear hK K hHeld hS hq
              have hS := hS2
              clear hS2
              try simp only [Act.put, List.setIfInBounds_toArray, List.set_cons_zero, List.set_cons_succ]
              refine wpAnyH_take (i := 11) (oi := { dst := some 32, op := Op.move (Operand.tmp 43), type := 34, pos := "law.go:74", after := #[{ on := 10, ground := Ground.data }], guard := none }) (v := ?vT3x12) rfl (by kernel_rfl) (by kernel_rfl) (by kernel_rfl) (fun _ _ _ h => h) (Or.inl ⟨by rfl, ?hyT3x12⟩) (by exact hS) ?rsT3x12
              case hyT3x12 => (intro w hSw; (try dsimp only at hSw); unfold Ep.SU at hSw; go_simp; try with_reducible rfl)
              try simp only [Act.put, List.setIfInBounds_toArray, List.set_cons_zero, List.set_cons_succ]
              refine wpAnyH_take (i := 12) (oi := { dst := some 44, op := Op.extract (Operand.tmp 32) 0, type := 32, pos := "law.go:74", after := #[{ on := 11, ground := Ground.data }], guard := none }) (v := ?vT3x13) rfl (by kernel_rfl) (by kernel_rfl) (by kernel_rfl) (fun _ _ _ h => h) (Or.inl ⟨by rfl, ?hyT3x13⟩) (by exact hS) ?rsT3x13
              case hyT3x13 => (intro w hSw; (try dsimp only at hSw); unfold Ep.SU at hSw; go_simp; try with_reducible rfl)
              try simp only [Act.put, List.setIfInBounds_toArray, List.set_cons_zero, List.set_cons_succ]
              refine wpAnyH_take (i := 13) (oi := { dst := some 45, op := Op.extract (Operand.tmp 32) 1, type := 33, pos := "law.go:74", after := #[{ on := 11, ground := Ground.data }, { on := 15, ground := Ground.gcOnly Departure.lateStores }], guard := none }) (v := ?vT3x14) rfl (by kernel_rfl) (by kernel_rfl) (by kernel_rfl) (fun _ _ _ h => h) (Or.inl ⟨by rfl, ?hyT3x14⟩) (by exact hS) ?rsT3x14
              case hyT3x14 => (intro w hSw; (try dsimp only at hSw); unfold Ep.SU at hSw; go_simp; try with_reducible rfl)
              try simp only [Act.put, List.setIfInBounds_toArray, List.set_cons_zero, List.set_cons_succ]
              refine wpAnyH_ready (rs := [14]) (by kernel_rfl) (by simp) ?_
              refine (AllReadyH.cons (o := { dst := some 8, op := Op.alloc 32, type := 0, pos := "law.go:74", after := #[], guard := none }) rfl (fun K hK => ?_) AllReadyH.nil)
              go_simp
              have hq := (Q.refl yT3x11).alloc (.cells #[.bool false, .slice none 0 0, .int .i64 0] 32)
              have hB := heap_alloc_new yT3x11 (.cells #[.bool false, .slice none 0 0, .int .i64 0] 32)
              have hbu : yT3x11.heap.size < (yT3x11.alloc (.cells #[.bool false, .slice none 0 0, .int .i64 0] 32)).heap.size := by rw [World.size_alloc]; omega
              have hWb := (Ep.SU.here hS).le
              have hne_hx9 : ∀ (a : Addr) (n c : Nat), (.slice a9 za c9 : Value) = .slice (some a) n c → n ≠ 0 → a.block ≠ yT3x11.heap.size := fun a n c h1 h2 => Nat.ne_of_lt (Lst.old hx9 a n c h1 h2)
              have hx9 := Lst.q hx9 hq
              have hS2 := SQ.out _ (Q.trans (Ep.SU.here hS) hq)
              refine hK.out _ _ (by exact hS2) (fun hHeld => ?_)
              clear hK K hHeld hS hq
              have hS := hS2
              clear hS2
              generalize yT3x11.alloc (.cells #[.bool false, .slice none 0 0, .int .i64 0] 32) = yT3x15 at *
              generalize yT3x11.heap.size = b9 at *
              have hne := hne_hx9
              try simp only [Act.put, List.setIfInBounds_toArray, List.set_cons_zero, List.set_cons_succ]
              refine wpAnyH_ready (rs := [15]) (by kernel_rfl) (by simp) ?_
              refine (AllReadyH.cons (o := { dst := none, op := Op.store 32 (Operand.tmp 8) (Operand.tmp 44), type := 0, pos := "law.go:74", after := #[{ on := 14, ground := Ground.data }, { on := 12, ground := Ground.data }, { on := 10, ground := Ground.chain }, { on := 0, ground := Ground.phase }, { on := 1, ground := Ground.phase }, { on := 2, ground := Ground.phase }, { on := 3, ground := Ground.phase }, { on := 4, ground := Ground.phase }, { on := 5, ground := Ground.phase }, { on := 6, ground := Ground.phase }, { on := 7, ground := Ground.phase }, { on := 8, ground := Ground.phase }, { on := 9, ground := Ground.phase }, { on := 10, ground := Ground.phase }, { on := 11, ground := Ground.phase }, { on := 12, ground := Ground.phase }, { on := 13, ground := Ground.textOnly Departure.lateStores }, { on := 14, ground := Ground.phase }], guard := none }) rfl (fun K hK => ?_) AllReadyH.nil)
              obtain ⟨f0, f1, f2, f3, f4, f5⟩ := Er.block_cells hB
              have hset := Er.block_set (x' := .bool ga) (y' := .slice a9 za c9) (z' := .int .i64 sa) hB
              have hqW := ((Q.setCell (Q.setCell (Q.setCell (Ep.SU.here hS) (ad := ⟨b9, 0, none⟩) hWb (.bool ga)) (ad := ⟨b9, 1, none⟩) hWb (.slice a9 za c9)) (ad := ⟨b9, 2, none⟩) hWb (.int .i64 sa)))
              have hl := Lst.setCell (Lst.setCell (Lst.setCell hx9 (ad := ⟨b9, 0, none⟩) (.bool ga) hne) (ad := ⟨b9, 1, none⟩) (.slice a9 za c9) hne) (ad := ⟨b9, 2, none⟩) (.int .i64 sa) hne
              go_simp
              have hS2 := SQ.out _ hqW
              refine hK.out _ _ (by exact hS2) (fun hHeld => ?_)
              clear hK K hHeld hS
              have hS := hS2
              clear hS2 f0 f1 f2 f3 f4 f5
              try simp only [Act.put, List.setIfInBounds_toArray, List.set_cons_zero, List.set_cons_succ]
              refine wpAnyH_take (i := 16) (oi := { dst := some 9, op := Op.assign (Operand.tmp 45), type := 33, pos := "law.go:74", after := #[{ on := 13, ground := Ground.data }, { on := 15, ground := Ground.chain }, { on := 0, ground := Ground.phase }, { on := 1, ground := Ground.phase }, { on := 2, ground := Ground.phase }, { on := 3, ground := Ground.phase }, { on := 4, ground := Ground.phase }, { on := 5, ground := Ground.phase }, { on := 6, ground := Ground.phase }, { on := 7, ground := Ground.phase }, { on := 8, ground := Ground.phase }, { on := 9, ground := Ground.phase }, { on := 10, ground := Ground.phase }, { on := 11, ground := Ground.phase }, { on := 12, ground := Ground.phase }, { on := 13, ground := Ground.phase }, { on := 14, ground := Ground.phase }, { on := 15, ground := Ground.phase }], guard := none }) (v := ?vT3x17) rfl (by kernel_rfl) (by kernel_rfl) (by kernel_rfl) (fun _ _ _ h => h) (Or.inl ⟨by rfl, ?hyT3x17⟩) (by exact hS) ?rsT3x17
              case hyT3x17 => (intro w hSw; (try dsimp only at hSw); unfold Ep.SU at hSw; go_simp; try with_reducible rfl)
              try simp only [Act.put, List.setIfInBounds_toArray, List.set_cons_zero, List.set_cons_succ]
              refine wpAnyH_done (by kernel_rfl) ?_ _
              go_wp2_with fail
              go_meet
              exact ⟨b9, a9, c9, rfl, rfl, hset, hl, hqW⟩
            · go_simp
              have hq := (Q.refl yT3x10).alloc (.cells #[.bool false, .slice none 0 0, .int .i64 0] 32)
              have hB := heap_alloc_new yT3x10 (.cells #[.bool false, .slice none 0 0, .int .i64 0] 32)
              have hbu : yT3x10.heap.size < (yT3x10.alloc (.cells #[.bool false, .slice none 0 0, .int .i64 0] 32)).heap.size := by rw [World.size_alloc]; omega
              have hWb := (Ep.SU.here hS).le
              have hS2 := SQ.out _ (Q.trans (Ep.SU.here hS) hq)
              refine hK.out _ _ (by exact hS2) (fun hHeld => ?_)
              clear hK K hHeld hS hq
              have hS := hS2
              clear hS2
              generalize yT3x10.alloc (.cells #[.bool false, .slice none 0 0, .int .i64 0] 32) = yT3x18 at *
              generalize yT3x10.heap.size = b9 at *
              try simp only [Act.put, List.setIfInBounds_toArray, List.set_cons_zero, List.set_cons_succ]
              refine wpAnyH_ready (rs := [10]) (by kernel_rfl) (by simp) ?_
              refine (AllReadyH.cons (o := { dst := some 43, op := Op.call { callee := Callee.value (Operand.func 32), args := #[Operand.tmp 37, Operand.tmp 42], argTypes := #[32, 32] }, type := 34, pos := "law.go:74", after := #[{ on := 4, ground := Ground.data }, { on := 9, ground := Ground.data }, { on := 9, ground := Ground.chain }], guard := none }) rfl (fun K hK => ?_) AllReadyH.nil)
              go_simp
              refine (PA.out _ _ _ (HL.out.q (Ep.SU.here hS)) (HM.out.q (Ep.SU.here hS))).mono ?_
              rintro e yT3x19 ⟨a9, c9, rfl, hx9, hq⟩
              try (go_wp2_with fail)
              have hB := (Q.block hq (lt_of_block hB)).trans hB
              have hlf := hx9
              have hx9 := Ep.lf_lst hlf
              have hne : ∀ (a : Addr) (n c : Nat), (.slice a9 za c9 : Value) = .slice (some a) n c → n ≠ 0 → a.block ≠ b9 := Ep.lf_ne hlf hbu
              clear hlf
              have hS2 := SQ.out _ (Q.trans (Ep.SU.here hS) hq)
              have hbu := Nat.lt_of_lt_of_le hbu hq.le
              refine hK.out _ _ (by exact hS2) (fun hHeld => ?_)
              clear hK K hHeld hS hq
              have hS := hS2
              clear hS2
              try simp only [Act.put, List.setIfInBounds_toArray, List.set_cons_zero, List.set_cons_succ]
              refine wpAnyH_take (i := 11) (oi := { dst := some 32, op := Op.move (Operand.tmp 43), type := 34, pos := "law.go:74", after := #[{ on := 10, ground := Ground.data }], guard := none }) (v := ?vT3x20) rfl (by kernel_rfl) (by kernel_rfl) (by kernel_rfl) (fun _ _ _ h => h) (Or.inl ⟨by rfl, ?hyT3x20⟩) (by exact hS) ?rsT3x20
              case hyT3x20 => (intro w hSw; (try dsimp only at hSw); unfold Ep.SU at hSw; go_simp; try with_reducible rfl)
              try simp only [Act.put, List.setIfInBounds_toArray, List.set_cons_zero, List.set_cons_succ]
              refine wpAnyH_take (i := 12) (oi := { dst := some 44, op := Op.extract (Operand.tmp 32) 0, type := 32, pos := "law.go:74", after := #[{ on := 11, ground := Ground.data }], guard := none }) (v := ?vT3x21) rfl (by kernel_rfl) (by kernel_rfl) (by kernel_rfl) (fun _ _ _ h => h) (Or.inl ⟨by rfl, ?hyT3x21⟩) (by exact hS) ?rsT3x21
              case hyT3x21 => (intro w hSw; (try dsimp only at hSw); unfold Ep.SU at hSw; go_simp; try with_reducible rfl)
              try simp only [Act.put, List.setIfInBounds_toArray, List.set_cons_zero, List.set_cons_succ]
              refine wpAnyH_take (i := 13) (oi := { dst := some 45, op := Op.extract (Operand.tmp 32) 1, type := 33, pos := "law.go:74", after := #[{ on := 11, ground := Ground.data }, { on := 15, ground := Ground.gcOnly Departure.lateStores }], guard := none }) (v := ?vT3x22) rfl (by kernel_rfl) (by kernel_rfl) (by kernel_rfl) (fun _ _ _ h => h) (Or.inl ⟨by rfl, ?hyT3x22⟩) (by exact hS) ?rsT3x22
              case hyT3x22 => (intro w hSw; (try dsimp only at hSw); unfold Ep.SU at hSw; go_simp; try with_reducible rfl)
              try simp only [Act.put, List.setIfInBounds_toArray, List.set_cons_zero, List.set_cons_succ]
              refine wpAnyH_ready (rs := [15]) (by kernel_rfl) (by simp) ?_
              refine (AllReadyH.cons (o := { dst := none, op := Op.store 32 (Operand.tmp 8) (Operand.tmp 44), type := 0, pos := "law.go:74", after := #[{ on := 14, ground := Ground.data }, { on := 12, ground := Ground.data }, { on := 10, ground := Ground.chain }, { on := 0, ground := Ground.phase }, { on := 1, ground := Ground.phase }, { on := 2, ground := Ground.phase }, { on := 3, ground := Ground.phase }, { on := 4, ground := Ground.phase }, { on := 5, ground := Ground.phase }, { on := 6, ground := Ground.phase }, { on := 7, ground := Ground.phase }, { on := 8, ground := Ground.phase }, { on := 9, ground := Ground.phase }, { on := 10, ground := Ground.phase }, { on := 11, ground := Ground.phase }, { on := 12, ground := Ground.phase }, { on := 13, ground := Ground.textOnly Departure.lateStores }, { on := 14, ground := Ground.phase }], guard := none }) rfl (fun K hK => ?_) AllReadyH.nil)
              obtain ⟨f0, f1, f2, f3, f4, f5⟩ := Er.block_cells hB
              have hset := Er.block_set (x' := .bool ga) (y' := .slice a9 za c9) (z' := .int .i64 sa) hB
              have hqW := ((Q.setCell (Q.setCell (Q.setCell (Ep.SU.here hS) (ad := ⟨b9, 0, none⟩) hWb (.bool ga)) (ad := ⟨b9, 1, none⟩) hWb (.slice a9 za c9)) (ad := ⟨b9, 2, none⟩) hWb (.int .i64 sa)))
              have hl := Lst.setCell (Lst.setCell (Lst.setCell hx9 (ad := ⟨b9, 0, none⟩) (.bool ga) hne) (ad := ⟨b9, 1, none⟩) (.slice a9 za c9) hne) (ad := ⟨b9, 2, none⟩) (.int .i64 sa) hne
              go_simp
              have hS2 := SQ.out _ hqW
              refine hK.out _ _ (by exact hS2) (fun hHeld => ?_)
              clear hK K hHeld hS
              have hS := hS2
              clear hS2 f0 f1 f2 f3 f4 f5
              try simp only [Act.put, List.setIfInBounds_toArray, List.set_cons_zero, List.set_cons_succ]
              refine wpAnyH_take (i := 16) (oi := { dst := some 9, op := Op.assign (Operand.tmp 45), type := 33, pos := "law.go:74", after := #[{ on := 13, ground := Ground.data }, { on := 15, ground := Ground.chain }, { on := 0, ground := Ground.phase }, { on := 1, ground := Ground.phase }, { on := 2, ground := Ground.phase }, { on := 3, ground := Ground.phase }, { on := 4, ground := Ground.phase }, { on := 5, ground := Ground.phase }, { on := 6, ground := Ground.phase }, { on := 7, ground := Ground.phase }, { on := 8, ground := Ground.phase }, { on := 9, ground := Ground.phase }, { on := 10, ground := Ground.phase }, { on := 11, ground := Ground.phase }, { on := 12, ground := Ground.phase }, { on := 13, ground := Ground.phase }, { on := 14, ground := Ground.phase }, { on := 15, ground := Ground.phase }], guard := none }) (v := ?vT3x24) rfl (by kernel_rfl) (by kernel_rfl) (by kernel_rfl) (fun _ _ _ h => h) (Or.inl ⟨by rfl, ?hyT3x24⟩) (by exact hS) ?rsT3x24
              case hyT3x24 => (intro w hSw; (try dsimp only at hSw); unfold Ep.SU at hSw; go_simp; try with_reducible rfl)
              try simp only [Act.put, List.setIfInBounds_toArray, List.set_cons_zero, List.set_cons_succ]
              refine wpAnyH_done (by kernel_rfl) ?_ _
              go_wp2_with fail
              go_meet
              exact ⟨b9, a9, c9, rfl, rfl, hset, hl, hqW⟩
          · go_simp
            have hq := (Q.refl yT3x9).alloc (.cells #[.bool false, .slice none 0 0, .int .i64 0] 32)
            have hB := heap_alloc_new yT3x9 (.cells #[.bool false, .slice none 0 0, .int .i64 0] 32)
            have hbu : yT3x9.heap.size < (yT3x9.alloc (.cells #[.bool false, .slice none 0 0, .int .i64 0] 32)).heap.size := by rw [World.size_alloc]; omega
            have hWb := (Ep.SU.here hS).le
            have hS2 := SQ.out _ (Q.trans (Ep.SU.here hS) hq)
            refine hK.out _ _ (by exact hS2) (fun hHeld => ?_)
            clear hK K hHeld hS hq
            have hS := hS2
            clear hS2
            generalize yT3x9.alloc (.cells #[.bool false, .slice none 0 0, .int .i64 0] 32) = yT3x25 at *
            generalize yT3x9.heap.size = b9 at *
            try simp only [Act.put, List.setIfInBounds_toArray, List.set_cons_zero, List.set_cons_succ]
            refine wpAnyH_ready (rs := [9]) (by kernel_rfl) (by simp) ?_
            refine (AllReadyH.cons (o := { dst := some 42, op := Op.call { callee := Callee.value (Operand.func 22), args := #[Operand.tmp 41], argTypes := #[24] }, type := 32, pos := "law.go:74", after := #[{ on := 8, ground := Ground.data }, { on := 4, ground := Ground.chain }], guard := none }) rfl (fun K hK => ?_) AllReadyH.nil)
            go_simp
            refine (Ep.of_sh _ _ _ _ _ _).mono ?_
            rintro e yT3x26 ⟨rfl, hq⟩
            try (go_wp2_with fail)
            have hB := (Q.block hq (lt_of_block hB)).trans hB
            have hS2 := SQ.out _ (Q.trans (Ep.SU.here hS) hq)
            have hbu := Nat.lt_of_lt_of_le hbu hq.le
            refine hK.out _ _ (by exact hS2) (fun hHeld => ?_)
            clear hK K hHeld hS hq
            have hS := hS2
            clear hS2
            try simp only [Act.put, List.setIfInBounds_toArray, List.set_cons_zero, List.set_cons_succ]
            refine wpAnyH_ready (rs := [10]) (by kernel_rfl) (by simp) ?_
            refine (AllReadyH.cons (o := { dst := some 43, op := Op.call { callee := Callee.value (Operand.func 32), args := #[Operand.tmp 37, Operand.tmp 42], argTypes := #[32, 32] }, type := 34, pos := "law.go:74", after := #[{ on := 4, ground := Ground.data }, { on := 9, ground := Ground.data }, { on := 9, ground := Ground.chain }], guard := none }) rfl (fun K hK => ?_) AllReadyH.nil)
            go_simp
            refine (PA.out _ _ _ (HL.out.q (Ep.SU.here hS)) (HM.out.q (Ep.SU.here hS))).mono ?_
            rintro e yT3x27 ⟨a9, c9, rfl, hx9, hq⟩
            try (go_wp2_with fail)
            have hB := (Q.block hq (lt_of_block hB)).trans hB
            have hlf := hx9
            have hx9 := Ep.lf_lst hlf
            have hne : ∀ (a : Addr) (n c : Nat), (.slice a9 za c9 : Value) = .slice (some a) n c → n ≠ 0 → a.block ≠ b9 := Ep.lf_ne hlf hbu
            clear hlf
            have hS2 := SQ.out _ (Q.trans (Ep.SU.here hS) hq)
            have hbu := Nat.lt_of_lt_of_le hbu hq.le
            refine hK.out _ _ (by exact hS2) (fun hHeld => ?_)
            clear hK K hHeld hS hq
            have hS := hS2
            clear hS2
            try simp only [Act.put, List.setIfInBounds_toArray, List.set_cons_zero, List.set_cons_succ]
            refine wpAnyH_take (i := 11) (oi := { dst := some 32, op := Op.move (Operand.tmp 43), type := 34, pos := "law.go:74", after := #[{ on := 10, ground := Ground.data }], guard := none }) (v := ?vT3x28) rfl (by kernel_rfl) (by kernel_rfl) (by kernel_rfl) (fun _ _ _ h => h) (Or.inl ⟨by rfl, ?hyT3x28⟩) (by exact hS) ?rsT3x28
            case hyT3x28 => (intro w hSw; (try dsimp only at hSw); unfold Ep.SU at hSw; go_simp; try with_reducible rfl)
            try simp only [Act.put, List.setIfInBounds_toArray, List.set_cons_zero, List.set_cons_succ]
            refine wpAnyH_take (i := 12) (oi := { dst := some 44, op := Op.extract (Operand.tmp 32) 0, type := 32, pos := "law.go:74", after := #[{ on := 11, ground := Ground.data }], guard := none }) (v := ?vT3x29) rfl (by kernel_rfl) (by kernel_rfl) (by kernel_rfl) (fun _ _ _ h => h) (Or.inl ⟨by rfl, ?hyT3x29⟩) (by exact hS) ?rsT3x29
            case hyT3x29 => (intro w hSw; (try dsimp only at hSw); unfold Ep.SU at hSw; go_simp; try with_reducible rfl)
            try simp only [Act.put, List.setIfInBounds_toArray, List.set_cons_zero, List.set_cons_succ]
            refine wpAnyH_take (i := 13) (oi := { dst := some 45, op := Op.extract (Operand.tmp 32) 1, type := 33, pos := "law.go:74", after := #[{ on := 11, ground := Ground.data }, { on := 15, ground := Ground.gcOnly Departure.lateStores }], guard := none }) (v := ?vT3x30) rfl (by kernel_rfl) (by kernel_rfl) (by kernel_rfl) (fun _ _ _ h => h) (Or.inl ⟨by rfl, ?hyT3x30⟩) (by exact hS) ?rsT3x30
            case hyT3x30 => (intro w hSw; (try dsimp only at hSw); unfold Ep.SU at hSw; go_simp; try with_reducible rfl)
            try simp only [Act.put, List.setIfInBounds_toArray, List.set_cons_zero, List.set_cons_succ]
            refine wpAnyH_ready (rs := [15]) (by kernel_rfl) (by simp) ?_
            refine (AllReadyH.cons (o := { dst := none, op := Op.store 32 (Operand.tmp 8) (Operand.tmp 44), type := 0, pos := "law.go:74", after := #[{ on := 14, ground := Ground.data }, { on := 12, ground := Ground.data }, { on := 10, ground := Ground.chain }, { on := 0, ground := Ground.phase }, { on := 1, ground := Ground.phase }, { on := 2, ground := Ground.phase }, { on := 3, ground := Ground.phase }, { on := 4, ground := Ground.phase }, { on := 5, ground := Ground.phase }, { on := 6, ground := Ground.phase }, { on := 7, ground := Ground.phase }, { on := 8, ground := Ground.phase }, { on := 9, ground := Ground.phase }, { on := 10, ground := Ground.phase }, { on := 11, ground := Ground.phase }, { on := 12, ground := Ground.phase }, { on := 13, ground := Ground.textOnly Departure.lateStores }, { on := 14, ground := Ground.phase }], guard := none }) rfl (fun K hK => ?_) AllReadyH.nil)
            obtain ⟨f0, f1, f2, f3, f4, f5⟩ := Er.block_cells hB
            have hset := Er.block_set (x' := .bool ga) (y' := .slice a9 za c9) (z' := .int .i64 sa) hB
            have hqW := ((Q.setCell (Q.setCell (Q.setCell (Ep.SU.here hS) (ad := ⟨b9, 0, none⟩) hWb (.bool ga)) (ad := ⟨b9, 1, none⟩) hWb (.slice a9 za c9)) (ad := ⟨b9, 2, none⟩) hWb (.int .i64 sa)))
            have hl := Lst.setCell (Lst.setCell (Lst.setCell hx9 (ad := ⟨b9, 0, none⟩) (.bool ga) hne) (ad := ⟨b9, 1, none⟩) (.slice a9 za c9) hne) (ad := ⟨b9, 2, none⟩) (.int .i64 sa) hne
            go_simp
            have hS2 := SQ.out _ hqW
            refine hK.out _ _ (by exact hS2) (fun hHeld => ?_)
            clear hK K hHeld hS
            have hS := hS2
            clear hS2 f0 f1 f2 f3 f4 f5
            try simp only [Act.put, List.setIfInBounds_toArray, List.set_cons_zero, List.set_cons_succ]
            refine wpAnyH_take (i := 16) (oi := { dst := some 9, op := Op.assign (Operand.tmp 45), type := 33, pos := "law.go:74", after := #[{ on := 13, ground := Ground.data }, { on := 15, ground := Ground.chain }, { on := 0, ground := Ground.phase }, { on := 1, ground := Ground.phase }, { on := 2, ground := Ground.phase }, { on := 3, ground := Ground.phase }, { on := 4, ground := Ground.phase }, { on := 5, ground := Ground.phase }, { on := 6, ground := Ground.phase }, { on := 7, ground := Ground.phase }, { on := 8, ground := Ground.phase }, { on := 9, ground := Ground.phase }, { on := 10, ground := Ground.phase }, { on := 11, ground := Ground.phase }, { on := 12, ground := Ground.phase }, { on := 13, ground := Ground.phase }, { on := 14, ground := Ground.phase }, { on := 15, ground := Ground.phase }], guard := none }) (v := ?vT3x32) rfl (by kernel_rfl) (by kernel_rfl) (by kernel_rfl) (fun _ _ _ h => h) (Or.inl ⟨by rfl, ?hyT3x32⟩) (by exact hS) ?rsT3x32
            case hyT3x32 => (intro w hSw; (try dsimp only at hSw); unfold Ep.SU at hSw; go_simp; try with_reducible rfl)
            try simp only [Act.put, List.setIfInBounds_toArray, List.set_cons_zero, List.set_cons_succ]
            refine wpAnyH_done (by kernel_rfl) ?_ _
            go_wp2_with fail
            go_meet
            exact ⟨b9, a9, c9, rfl, rfl, hset, hl, hqW⟩
        · go_simp
          have hq := (Q.refl yT3x0).alloc (.cells #[.bool false, .slice none 0 0, .int .i64 0] 32)
          have hB := heap_alloc_new yT3x0 (.cells #[.bool false, .slice none 0 0, .int .i64 0] 32)
          have hbu : yT3x0.heap.size < (yT3x0.alloc (.cells #[.bool false, .slice none 0 0, .int .i64 0] 32)).heap.size := by rw [World.size_alloc]; omega
          have hWb := (Ep.SU.here hS).le
          have hS2 := SQ.out _ (Q.trans (Ep.SU.here hS) hq)
          refine hK.out _ _ (by exact hS2) (fun hHeld => ?_)
          clear hK K hHeld hS hq
          have hS := hS2
          clear hS2
          generalize yT3x0.alloc (.cells #[.bool false, .slice none 0 0, .int .i64 0] 32) = yT3x33 at *
          generalize yT3x0.heap.size = b9 at *
          try simp only [Act.put, List.setIfInBounds_toArray, List.set_cons_zero, List.set_cons_succ]
          refine wpAnyH_ready (rs := [4]) (by kernel_rfl) (by simp) ?_
          refine (AllReadyH.cons (o := { dst := some 37, op := Op.call { callee := Callee.value (Operand.func 22), args := #[Operand.tmp 36], argTypes := #[24] }, type := 32, pos := "law.go:74", after := #[{ on := 3, ground := Ground.data }], guard := none }) rfl (fun K hK => ?_) AllReadyH.nil)
          go_simp
          refine (Ep.of_sh _ _ _ _ _ _).mono ?_
          rintro e yT3x34 ⟨rfl, hq⟩
          try (go_wp2_with fail)
          have hB := (Q.block hq (lt_of_block hB)).trans hB
          have hS2 := SQ.out _ (Q.trans (Ep.SU.here hS) hq)
          have hbu := Nat.lt_of_lt_of_le hbu hq.le
          refine hK.out _ _ (by exact hS2) (fun hHeld => ?_)
          clear hK K hHeld hS hq
          have hS := hS2
          clear hS2
          try simp only [Act.put, List.setIfInBounds_toArray, List.set_cons_zero, List.set_cons_succ]
          refine wpAnyH_ready (rs := [9]) (by kernel_rfl) (by simp) ?_
          refine (AllReadyH.cons (o := { dst := some 42, op := Op.call { callee := Callee.value (Operand.func 22), args := #[Operand.tmp 41], argTypes := #[24] }, type := 32, pos := "law.go:74", after := #[{ on := 8, ground := Ground.data }, { on := 4, ground := Ground.chain }], guard := none }) rfl (fun K hK => ?_) AllReadyH.nil)
          go_simp
          refine (Ep.of_sh _ _ _ _ _ _).mono ?_
          rintro e yT3x35 ⟨rfl, hq⟩
          try (go_wp2_with fail)
          have hB := (Q.block hq (lt_of_block hB)).trans hB
          have hS2 := SQ.out _ (Q.trans (Ep.SU.here hS) hq)
          have hbu := Nat.lt_of_lt_of_le hbu hq.le
          refine hK.out _ _ (by exact hS2) (fun hHeld => ?_)
          clear hK K hHeld hS hq
          have hS := hS2
          clear hS2
          try simp only [Act.put, List.setIfInBounds_toArray, List.set_cons_zero, List.set_cons_succ]
          refine wpAnyH_ready (rs := [10]) (by kernel_rfl) (by simp) ?_
          refine (AllReadyH.cons (o := { dst := some 43, op := Op.call { callee := Callee.value (Operand.func 32), args := #[Operand.tmp 37, Operand.tmp 42], argTypes := #[32, 32] }, type := 34, pos := "law.go:74", after := #[{ on := 4, ground := Ground.data }, { on := 9, ground := Ground.data }, { on := 9, ground := Ground.chain }], guard := none }) rfl (fun K hK => ?_) AllReadyH.nil)
          go_simp
          refine (PA.out _ _ _ (HL.out.q (Ep.SU.here hS)) (HM.out.q (Ep.SU.here hS))).mono ?_
          rintro e yT3x36 ⟨a9, c9, rfl, hx9, hq⟩
          try (go_wp2_with fail)
          have hB := (Q.block hq (lt_of_block hB)).trans hB
          have hlf := hx9
          have hx9 := Ep.lf_lst hlf
          have hne : ∀ (a : Addr) (n c : Nat), (.slice a9 za c9 : Value) = .slice (some a) n c → n ≠ 0 → a.block ≠ b9 := Ep.lf_ne hlf hbu
          clear hlf
          have hS2 := SQ.out _ (Q.trans (Ep.SU.here hS) hq)
          have hbu := Nat.lt_of_lt_of_le hbu hq.le
          refine hK.out _ _ (by exact hS2) (fun hHeld => ?_)
          clear hK K hHeld hS hq
          have hS := hS2
          clear hS2
          try simp only [Act.put, List.setIfInBounds_toArray, List.set_cons_zero, List.set_cons_succ]
          refine wpAnyH_take (i := 11) (oi := { dst := some 32, op := Op.move (Operand.tmp 43), type := 34, pos := "law.go:74", after := #[{ on := 10, ground := Ground.data }], guard := none }) (v := ?vT3x37) rfl (by kernel_rfl) (by kernel_rfl) (by kernel_rfl) (fun _ _ _ h => h) (Or.inl ⟨by rfl, ?hyT3x37⟩) (by exact hS) ?rsT3x37
          case hyT3x37 => (intro w hSw; (try dsimp only at hSw); unfold Ep.SU at hSw; go_simp; try with_reducible rfl)
          try simp only [Act.put, List.setIfInBounds_toArray, List.set_cons_zero, List.set_cons_succ]
          refine wpAnyH_take (i := 12) (oi := { dst := some 44, op := Op.extract (Operand.tmp 32) 0, type := 32, pos := "law.go:74", after := #[{ on := 11, ground := Ground.data }], guard := none }) (v := ?vT3x38) rfl (by kernel_rfl) (by kernel_rfl) (by kernel_rfl) (fun _ _ _ h => h) (Or.inl ⟨by rfl, ?hyT3x38⟩) (by exact hS) ?rsT3x38
          case hyT3x38 => (intro w hSw; (try dsimp only at hSw); unfold Ep.SU at hSw; go_simp; try with_reducible rfl)
          try simp only [Act.put, List.setIfInBounds_toArray, List.set_cons_zero, List.set_cons_succ]
          refine wpAnyH_take (i := 13) (oi := { dst := some 45, op := Op.extract (Operand.tmp 32) 1, type := 33, pos := "law.go:74", after := #[{ on := 11, ground := Ground.data }, { on := 15, ground := Ground.gcOnly Departure.lateStores }], guard := none }) (v := ?vT3x39) rfl (by kernel_rfl) (by kernel_rfl) (by kernel_rfl) (fun _ _ _ h => h) (Or.inl ⟨by rfl, ?hyT3x39⟩) (by exact hS) ?rsT3x39
          case hyT3x39 => (intro w hSw; (try dsimp only at hSw); unfold Ep.SU at hSw; go_simp; try with_reducible rfl)
          try simp only [Act.put, List.setIfInBounds_toArray, List.set_cons_zero, List.set_cons_succ]
          refine wpAnyH_ready (rs := [15]) (by kernel_rfl) (by simp) ?_
          refine (AllReadyH.cons (o := { dst := none, op := Op.store 32 (Operand.tmp 8) (Operand.tmp 44), type := 0, pos := "law.go:74", after := #[{ on := 14, ground := Ground.data }, { on := 12, ground := Ground.data }, { on := 10, ground := Ground.chain }, { on := 0, ground := Ground.phase }, { on := 1, ground := Ground.phase }, { on := 2, ground := Ground.phase }, { on := 3, ground := Ground.phase }, { on := 4, ground := Ground.phase }, { on := 5, ground := Ground.phase }, { on := 6, ground := Ground.phase }, { on := 7, ground := Ground.phase }, { on := 8, ground := Ground.phase }, { on := 9, ground := Ground.phase }, { on := 10, ground := Ground.phase }, { on := 11, ground := Ground.phase }, { on := 12, ground := Ground.phase }, { on := 13, ground := Ground.textOnly Departure.lateStores }, { on := 14, ground := Ground.phase }], guard := none }) rfl (fun K hK => ?_) AllReadyH.nil)
          obtain ⟨f0, f1, f2, f3, f4, f5⟩ := Er.block_cells hB
          have hset := Er.block_set (x' := .bool ga) (y' := .slice a9 za c9) (z' := .int .i64 sa) hB
          have hqW := ((Q.setCell (Q.setCell (Q.setCell (Ep.SU.here hS) (ad := ⟨b9, 0, none⟩) hWb (.bool ga)) (ad := ⟨b9, 1, none⟩) hWb (.slice a9 za c9)) (ad := ⟨b9, 2, none⟩) hWb (.int .i64 sa)))
          have hl := Lst.setCell (Lst.setCell (Lst.setCell hx9 (ad := ⟨b9, 0, none⟩) (.bool ga) hne) (ad := ⟨b9, 1, none⟩) (.slice a9 za c9) hne) (ad := ⟨b9, 2, none⟩) (.int .i64 sa) hne
          go_simp
          have hS2 := SQ.out _ hqW
          refine hK.out _ _ (by exact hS2) (fun hHeld => ?_)
          clear hK K hHeld hS
          have hS := hS2
          clear hS2 f0 f1 f2 f3 f4 f5
          try simp only [Act.put, List.setIfInBounds_toArray, List.set_cons_zero, List.set_cons_succ]
          refine wpAnyH_take (i := 16) (oi := { dst := some 9, op := Op.assign (Operand.tmp 45), type := 33, pos := "law.go:74", after := #[{ on := 13, ground := Ground.data }, { on := 15, ground := Ground.chain }, { on := 0, ground := Ground.phase }, { on := 1, ground := Ground.phase }, { on := 2, ground := Ground.phase }, { on := 3, ground := Ground.phase }, { on := 4, ground := Ground.phase }, { on := 5, ground := Ground.phase }, { on := 6, ground := Ground.phase }, { on := 7, ground := Ground.phase }, { on := 8, ground := Ground.phase }, { on := 9, ground := Ground.phase }, { on := 10, ground := Ground.phase }, { on := 11, ground := Ground.phase }, { on := 12, ground := Ground.phase }, { on := 13, ground := Ground.phase }, { on := 14, ground := Ground.phase }, { on := 15, ground := Ground.phase }], guard := none }) (v := ?vT3x41) rfl (by kernel_rfl) (by kernel_rfl) (by kernel_rfl) (fun _ _ _ h => h) (Or.inl ⟨by rfl, ?hyT3x41⟩) (by exact hS) ?rsT3x41
          case hyT3x41 => (intro w hSw; (try dsimp only at hSw); unfold Ep.SU at hSw; go_simp; try with_reducible rfl)
          try simp only [Act.put, List.setIfInBounds_toArray, List.set_cons_zero, List.set_cons_succ]
          refine wpAnyH_done (by kernel_rfl) ?_ _
          go_wp2_with fail
          go_meet
          exact ⟨b9, a9, c9, rfl, rfl, hset, hl, hqW⟩
      case rest =>
        obtain ⟨b6, a6, c6, rfl, rfl, hb6, hl6, hqc⟩ := hcut
        obtain ⟨w6, hw6⟩ : ∃ x, x = wc := ⟨_, rfl⟩
        subst hw6
        have HB6 := Lib.hid hb6
        have LZ6 := Lib.hid hl6
        clear SQ hb6 hl6
        have L61_E := Lib.hid (Lst.q HL.out hqc)
        clear HL
        have L61_F := Lib.hid (Lst.q HM.out hqc)
        clear HM
        have H61_X := Lib.hid ((Q.block hqc (lt_of_block HBX.out)).trans HBX.out)
        clear HBX
        have H61_Y := Lib.hid ((Q.block hqc (lt_of_block HBY.out)).trans HBY.out)
        clear HBY
        have Q61 := Lib.hid (Q.trans QR.out hqc)
        clear QR
        clear hqc
        have SQ := Lib.hid (fun u (q : Q w6 u) => (by
          obtain ⟨x0, x1, x2⟩ := CX.out u ((Q.block q (lt_of_block H61_X.out)).trans H61_X.out)
          obtain ⟨x3, x4, x5⟩ := CY.out u ((Q.block q (lt_of_block H61_Y.out)).trans H61_Y.out)
          exact ⟨x0, x1, x2, x3, x4, x5, q⟩ : Ep.SU w6 X Y i g0 (.slice a n c) s g1 (.slice b m d) t u))
        go_upto_region 7 with fail
        go_cut [10, 11] from 28 to 131 (fun p e wx => ∃ b9 a9 c9, p = .pointer (some ⟨b9, 0, none⟩) ∧ e = .int .i64 er ∧ wx.heap[b9]? = some (.cells #[.bool ga, .slice a9 za c9, .int .i64 sa] 24) ∧ Lst wx (.slice a9 za c9) Za ∧ Q w6 wx)
        case first =>
          refine wp_region_held_drew (S := fun u => Ep.SU w6 X Y i g0 (.slice a n c) s g1 (.slice b m d) t u) (by kernel_rfl) (by exact SQ.out _ ((Q.refl w6).drew)) (fun hHeld => ?_)
          have hS : Ep.SU w6 X Y i g0 (.slice a n c) s g1 (.slice b m d) t w6.drew := hHeld
          clear hHeld
          generalize w6.drew = yT4x0 at hS ⊢
          refine wpAnyH_take (i := 0) (oi := { dst := some 47, op := Op.move (Operand.tmp 5), type := 54, pos := "law.go:75", after := #[], guard := none }) (v := ?vT4x1) rfl (by kernel_rfl) (by kernel_rfl) (by kernel_rfl) (fun _ _ _ h => h) (Or.inl ⟨by rfl, ?hyT4x1⟩) (by exact hS) ?rsT4x1
          case hyT4x1 => (intro w hSw; (try dsimp only at hSw); unfold Ep.SU at hSw; go_simp; try with_reducible rfl)
          try simp only [Act.put, List.setIfInBounds_toArray, List.set_cons_zero, List.set_cons_succ]
          refine wpAnyH_take (i := 1) (oi := { dst := some 48, op := Op.move (Operand.tmp 7), type := 3, pos := "law.go:75", after := #[], guard := none }) (v := ?vT4x2) rfl (by kernel_rfl) (by kernel_rfl) (by kernel_rfl) (fun _ _ _ h => h) (Or.inl ⟨by rfl, ?hyT4x2⟩) (by exact hS) ?rsT4x2
          case hyT4x2 => (intro w hSw; (try dsimp only at hSw); unfold Ep.SU at hSw; go_simp; try with_reducible rfl)
          try simp only [Act.put, List.setIfInBounds_toArray, List.set_cons_zero, List.set_cons_succ]
          refine wpAnyH_take (i := 2) (oi := { dst := some 49, op := Op.indexAddr 54 (Operand.tmp 47) (Operand.tmp 48), type := 0, pos := "law.go:75", after := #[{ on := 0, ground := Ground.data }, { on := 1, ground := Ground.data }], guard := none }) (v := ?vT4x3) rfl (by kernel_rfl) (by kernel_rfl) (by kernel_rfl) (fun _ _ _ h => h) (Or.inl ⟨by rfl, ?hyT4x3⟩) (by exact hS) ?rsT4x3
          case hyT4x3 => (intro w hSw; (try dsimp only at hSw); unfold Ep.SU at hSw; go_simp; try with_reducible rfl)
          try simp only [Act.put, List.setIfInBounds_toArray, List.set_cons_zero, List.set_cons_succ]
          refine wpAnyH_take (i := 3) (oi := { dst := some 50, op := Op.load 24 (Operand.tmp 49), type := 24, pos := "law.go:75", after := #[{ on := 2, ground := Ground.data }], guard := none }) (v := ?vT4x4) rfl (by kernel_rfl) (by kernel_rfl) (by kernel_rfl) (fun _ _ _ h => h) (Or.inl ⟨by rfl, ?hyT4x4⟩) (by exact hS) ?rsT4x4
          case hyT4x4 => (intro w hSw; (try dsimp only at hSw); unfold Ep.SU at hSw; go_simp; try with_reducible rfl)
          try simp only [Act.put, List.setIfInBounds_toArray, List.set_cons_zero, List.set_cons_succ]
          refine wpAnyH_take (i := 4) (oi := { dst := some 51, op := Op.move (Operand.tmp 6), type := 54, pos := "law.go:75", after := #[], guard := none }) (v := ?vT4x5) rfl (by kernel_rfl) (by kernel_rfl) (by kernel_rfl) (fun _ _ _ h => h) (Or.inl ⟨by rfl, ?hyT4x5⟩) (by exact hS) ?rsT4x5
          case hyT4x5 => (intro w hSw; (try dsimp only at hSw); unfold Ep.SU at hSw; go_simp; try with_reducible rfl)
          try simp only [Act.put, List.setIfInBounds_toArray, List.set_cons_zero, List.set_cons_succ]
          refine wpAnyH_take (i := 5) (oi := { dst := some 52, op := Op.move (Operand.tmp 7), type := 3, pos := "law.go:75", after := #[], guard := none }) (v := ?vT4x6) rfl (by kernel_rfl) (by kernel_rfl) (by kernel_rfl) (fun _ _ _ h => h) (Or.inl ⟨by rfl, ?hyT4x6⟩) (by exact hS) ?rsT4x6
          case hyT4x6 => (intro w hSw; (try dsimp only at hSw); unfold Ep.SU at hSw; go_simp; try with_reducible rfl)
          try simp only [Act.put, List.setIfInBounds_toArray, List.set_cons_zero, List.set_cons_succ]
          refine wpAnyH_take (i := 6) (oi := { dst := some 53, op := Op.indexAddr 54 (Operand.tmp 51) (Operand.tmp 52), type := 0, pos := "law.go:75", after := #[{ on := 4, ground := Ground.data }, { on := 5, ground := Ground.data }], guard := none }) (v := ?vT4x7) rfl (by kernel_rfl) (by kernel_rfl) (by kernel_rfl) (fun _ _ _ h => h) (Or.inl ⟨by rfl, ?hyT4x7⟩) (by exact hS) ?rsT4x7
          case hyT4x7 => (intro w hSw; (try dsimp only at hSw); unfold Ep.SU at hSw; go_simp; try with_reducible rfl)
          try simp only [Act.put, List.setIfInBounds_toArray, List.set_cons_zero, List.set_cons_succ]
          refine wpAnyH_take (i := 7) (oi := { dst := some 54, op := Op.load 24 (Operand.tmp 53), type := 24, pos := "law.go:75", after := #[{ on := 6, ground := Ground.data }], guard := none }) (v := ?vT4x8) rfl (by kernel_rfl) (by kernel_rfl) (by kernel_rfl) (fun _ _ _ h => h) (Or.inl ⟨by rfl, ?hyT4x8⟩) (by exact hS) ?rsT4x8
          case hyT4x8 => (intro w hSw; (try dsimp only at hSw); unfold Ep.SU at hSw; go_simp; try with_reducible rfl)
          try simp only [Act.put, List.setIfInBounds_toArray, List.set_cons_zero, List.set_cons_succ]
          refine wpAnyH_ready (rs := [8, 12]) (by kernel_rfl) (by simp) ?_
          refine (AllReadyH.cons (o := { dst := some 55, op := Op.call { callee := Callee.value (Operand.func 33), args := #[Operand.tmp 50, Operand.tmp 54], argTypes := #[24, 24] }, type := 36, pos := "law.go:75", after := #[{ on := 3, ground := Ground.data }, { on := 7, ground := Ground.data }], guard := none }) rfl (fun K hK => ?_) (AllReadyH.cons (o := { dst := some 10, op := Op.alloc 24, type := 0, pos := "law.go:75", after := #[], guard := none }) rfl (fun K hK => ?_) AllReadyH.nil))
          · go_simp
            refine (RA.out _ _ _ (L61_E.out.q (Ep.SU.here hS)) (L61_F.out.q (Ep.SU.here hS))).mono ?_
            rintro e yT4x9 ⟨a9, c9, rfl, hx9, hq⟩
            try (go_wp2_with fail)
            have hlf := hx9
            have hx9 := Ep.lf_lst hlf
            clear hlf
            have hS2 := SQ.out _ (Q.trans (Ep.SU.here hS) hq)
            refine hK.out _ _ (by exact hS2) (fun hHeld => ?_)
            clear hK K hHeld hS hq
            have hS := hS2
            clear hS2
            try simp only [Act.put, List.setIfInBounds_toArray, List.set_cons_zero, List.set_cons_succ]
            refine wpAnyH_take (i := 9) (oi := { dst := some 46, op := Op.move (Operand.tmp 55), type := 36, pos := "law.go:75", after := #[{ on := 8, ground := Ground.data }], guard := none }) (v := ?vT4x10) rfl (by kernel_rfl) (by kernel_rfl) (by kernel_rfl) (fun _ _ _ h => h) (Or.inl ⟨by rfl, ?hyT4x10⟩) (by exact hS) ?rsT4x10
            case hyT4x10 => (intro w hSw; (try dsimp only at hSw); unfold Ep.SU at hSw; go_simp; try with_reducible rfl)
            try simp only [Act.put, List.setIfInBounds_toArray, List.set_cons_zero, List.set_cons_succ]
            refine wpAnyH_take (i := 10) (oi := { dst := some 56, op := Op.extract (Operand.tmp 46) 0, type := 24, pos := "law.go:75", after := #[{ on := 9, ground := Ground.data }], guard := none }) (v := ?vT4x11) rfl (by kernel_rfl) (by kernel_rfl) (by kernel_rfl) (fun _ _ _ h => h) (Or.inl ⟨by rfl, ?hyT4x11⟩) (by exact hS) ?rsT4x11
            case hyT4x11 => (intro w hSw; (try dsimp only at hSw); unfold Ep.SU at hSw; go_simp; try with_reducible rfl)
            try simp only [Act.put, List.setIfInBounds_toArray, List.set_cons_zero, List.set_cons_succ]
            refine wpAnyH_take (i := 11) (oi := { dst := some 57, op := Op.extract (Operand.tmp 46) 1, type := 33, pos := "law.go:75", after := #[{ on := 9, ground := Ground.data }, { on := 13, ground := Ground.gcOnly Departure.lateStores }], guard := none }) (v := ?vT4x12) rfl (by kernel_rfl) (by kernel_rfl) (by kernel_rfl) (fun _ _ _ h => h) (Or.inl ⟨by rfl, ?hyT4x12⟩) (by exact hS) ?rsT4x12
            case hyT4x12 => (intro w hSw; (try dsimp only at hSw); unfold Ep.SU at hSw; go_simp; try with_reducible rfl)
            try simp only [Act.put, List.setIfInBounds_toArray, List.set_cons_zero, List.set_cons_succ]
            refine wpAnyH_ready (rs := [12]) (by kernel_rfl) (by simp) ?_
            refine (AllReadyH.cons (o := { dst := some 10, op := Op.alloc 24, type := 0, pos := "law.go:75", after := #[], guard := none }) rfl (fun K hK => ?_) AllReadyH.nil)
            go_simp
            have hq := (Q.refl yT4x9).alloc (.cells #[.bool false, .slice none 0 0, .int .i64 0] 24)
            have hB := heap_alloc_new yT4x9 (.cells #[.bool false, .slice none 0 0, .int .i64 0] 24)
            have hbu : yT4x9.heap.size < (yT4x9.alloc (.cells #[.bool false, .slice none 0 0, .int .i64 0] 24)).heap.size := by rw [World.size_alloc]; omega
            have hWb := (Ep.SU.here hS).le
            have hne_hx9 : ∀ (a : Addr) (n c : Nat), (.slice a9 za c9 : Value) = .slice (some a) n c → n ≠ 0 → a.block ≠ yT4x9.heap.size := fun a n c h1 h2 => Nat.ne_of_lt (Lst.old hx9 a n c h1 h2)
            have hx9 := Lst.q hx9 hq
            have hS2 := SQ.out _ (Q.trans (Ep.SU.here hS) hq)
            refine hK.out _ _ (by exact hS2) (fun hHeld => ?_)
            clear hK K hHeld hS hq
            have hS := hS2
            clear hS2
            generalize yT4x9.alloc (.cells #[.bool false, .slice none 0 0, .int .i64 0] 24) = yT4x13 at *
            generalize yT4x9.heap.size = b9 at *
            have hne := hne_hx9
            try simp only [Act.put, List.setIfInBounds_toArray, List.set_cons_zero, List.set_cons_succ]
            refine wpAnyH_ready (rs := [13]) (by kernel_rfl) (by simp) ?_
            refine (AllReadyH.cons (o := { dst := none, op := Op.store 24 (Operand.tmp 10) (Operand.tmp 56), type := 0, pos := "law.go:75", after := #[{ on := 12, ground := Ground.data }, { on := 10, ground := Ground.data }, { on := 8, ground := Ground.chain }, { on := 0, ground := Ground.phase }, { on := 1, ground := Ground.phase }, { on := 2, ground := Ground.phase }, { on := 3, ground := Ground.phase }, { on := 4, ground := Ground.phase }, { on := 5, ground := Ground.phase }, { on := 6, ground := Ground.phase }, { on := 7, ground := Ground.phase }, { on := 8, ground := Ground.phase }, { on := 9, ground := Ground.phase }, { on := 10, ground := Ground.phase }, { on := 11, ground := Ground.textOnly Departure.lateStores }, { on := 12, ground := Ground.phase }], guard := none }) rfl (fun K hK => ?_) AllReadyH.nil)
            obtain ⟨f0, f1, f2, f3, f4, f5⟩ := Er.block_cells hB
            have hset := Er.block_set (x' := .bool ga) (y' := .slice a9 za c9) (z' := .int .i64 sa) hB
            have hqW := ((Q.setCell (Q.setCell (Q.setCell (Ep.SU.here hS) (ad := ⟨b9, 0, none⟩) hWb (.bool ga)) (ad := ⟨b9, 1, none⟩) hWb (.slice a9 za c9)) (ad := ⟨b9, 2, none⟩) hWb (.int .i64 sa)))
            have hl := Lst.setCell (Lst.setCell (Lst.setCell hx9 (ad := ⟨b9, 0, none⟩) (.bool ga) hne) (ad := ⟨b9, 1, none⟩) (.slice a9 za c9) hne) (ad := ⟨b9, 2, none⟩) (.int .i64 sa) hne
            go_simp
            have hS2 := SQ.out _ hqW
            refine hK.out _ _ (by exact hS2) (fun hHeld => ?_)
            clear hK K hHeld hS
            have hS := hS2
            clear hS2 f0 f1 f2 f3 f4 f5
            try simp only [Act.put, List.setIfInBounds_toArray, List.set_cons_zero, List.set_cons_succ]
            refine wpAnyH_take (i := 14) (oi := { dst := some 11, op := Op.assign (Operand.tmp 57), type := 33, pos := "law.go:75", after := #[{ on := 11, ground := Ground.data }, { on := 13, ground := Ground.chain }, { on := 0, ground := Ground.phase }, { on := 1, ground := Ground.phase }, { on := 2, ground := Ground.phase }, { on := 3, ground := Ground.phase }, { on := 4, ground := Ground.phase }, { on := 5, ground := Ground.phase }, { on := 6, ground := Ground.phase }, { on := 7, ground := Ground.phase }, { on := 8, ground := Ground.phase }, { on := 9, ground := Ground.phase }, { on := 10, ground := Ground.phase }, { on := 11, ground := Ground.phase }, { on := 12, ground := Ground.phase }, { on := 13, ground := Ground.phase }], guard := none }) (v := ?vT4x15) rfl (by kernel_rfl) (by kernel_rfl) (by kernel_rfl) (fun _ _ _ h => h) (Or.inl ⟨by rfl, ?hyT4x15⟩) (by exact hS) ?rsT4x15
            case hyT4x15 => (intro w hSw; (try dsimp only at hSw); unfold Ep.SU at hSw; go_simp; try with_reducible rfl)
            try simp only [Act.put, List.setIfInBounds_toArray, List.set_cons_zero, List.set_cons_succ]
            refine wpAnyH_done (by kernel_rfl) ?_ _
            go_wp2_with fail
            go_meet
            exact ⟨b9, a9, c9, rfl, rfl, hset, hl, hqW⟩
          · go_simp
            have hq := (Q.refl yT4x0).alloc (.cells #[.bool false, .slice none 0 0, .int .i64 0] 24)
            have hB := heap_alloc_new yT4x0 (.cells #[.bool false, .slice none 0 0, .int .i64 0] 24)
            have hbu : yT4x0.heap.size < (yT4x0.alloc (.cells #[.bool false, .slice none 0 0, .int .i64 0] 24)).heap.size := by rw [World.size_alloc]; omega
            have hWb := (Ep.SU.here hS).le
            have hS2 := SQ.out _ (Q.trans (Ep.SU.here hS) hq)
            refine hK.out _ _ (by exact hS2) (fun hHeld => ?_)
            clear hK K hHeld hS hq
            have hS := hS2
            clear hS2
            generalize yT4x0.alloc (.cells #[.bool false, .slice none 0 0, .int .i64 0] 24) = yT4x16 at *
            generalize yT4x0.heap.size = b9 at *
            try simp only [Act.put, List.setIfInBounds_toArray, List.set_cons_zero, List.set_cons_succ]
            refine wpAnyH_ready (rs := [8]) (by kernel_rfl) (by simp) ?_
            refine (AllReadyH.cons (o := { dst := some 55, op := Op.call { callee := Callee.value (Operand.func 33), args := #[Operand.tmp 50, Operand.tmp 54], argTypes := #[24, 24] }, type := 36, pos := "law.go:75", after := #[{ on := 3, ground := Ground.data }, { on := 7, ground := Ground.data }], guard := none }) rfl (fun K hK => ?_) AllReadyH.nil)
            go_simp
            refine (RA.out _ _ _ (L61_E.out.q (Ep.SU.here hS)) (L61_F.out.q (Ep.SU.here hS))).mono ?_
            rintro e yT4x17 ⟨a9, c9, rfl, hx9, hq⟩
            try (go_wp2_with fail)
            have hB := (Q.block hq (lt_of_block hB)).trans hB
            have hlf := hx9
            have hx9 := Ep.lf_lst hlf
            have hne : ∀ (a : Addr) (n c : Nat), (.slice a9 za c9 : Value) = .slice (some a) n c → n ≠ 0 → a.block ≠ b9 := Ep.lf_ne hlf hbu
            clear hlf
            have hS2 := SQ.out _ (Q.trans (Ep.SU.here hS) hq)
            have hbu := Nat.lt_of_lt_of_le hbu hq.le
            refine hK.out _ _ (by exact hS2) (fun hHeld => ?_)
            clear hK K hHeld hS hq
            have hS := hS2
            clear hS2
            try simp only [Act.put, List.setIfInBounds_toArray, List.set_cons_zero, List.set_cons_succ]
            refine wpAnyH_take (i := 9) (oi := { dst := some 46, op := Op.move (Operand.tmp 55), type := 36, pos := "law.go:75", after := #[{ on := 8, ground := Ground.data }], guard := none }) (v := ?vT4x18) rfl (by kernel_rfl) (by kernel_rfl) (by kernel_rfl) (fun _ _ _ h => h) (Or.inl ⟨by rfl, ?hyT4x18⟩) (by exact hS) ?rsT4x18
            case hyT4x18 => (intro w hSw; (try dsimp only at hSw); unfold Ep.SU at hSw; go_simp; try with_reducible rfl)
            try simp only [Act.put, List.setIfInBounds_toArray, List.set_cons_zero, List.set_cons_succ]
            refine wpAnyH_take (i := 10) (oi := { dst := some 56, op := Op.extract (Operand.tmp 46) 0, type := 24, pos := "law.go:75", after := #[{ on := 9, ground := Ground.data }], guard := none }) (v := ?vT4x19) rfl (by kernel_rfl) (by kernel_rfl) (by kernel_rfl) (fun _ _ _ h => h) (Or.inl ⟨by rfl, ?hyT4x19⟩) (by exact hS) ?rsT4x19
            case hyT4x19 => (intro w hSw; (try dsimp only at hSw); unfold Ep.SU at hSw; go_simp; try with_reducible rfl)
            try simp only [Act.put, List.setIfInBounds_toArray, List.set_cons_zero, List.set_cons_succ]
            refine wpAnyH_take (i := 11) (oi := { dst := some 57, op := Op.extract (Operand.tmp 46) 1, type := 33, pos := "law.go:75", after := #[{ on := 9, ground := Ground.data }, { on := 13, ground := Ground.gcOnly Departure.lateStores }], guard := none }) (v := ?vT4x20) rfl (by kernel_rfl) (by kernel_rfl) (by kernel_rfl) (fun _ _ _ h => h) (Or.inl ⟨by rfl, ?hyT4x20⟩) (by exact hS) ?rsT4x20
            case hyT4x20 => (intro w hSw; (try dsimp only at hSw); unfold Ep.SU at hSw; go_simp; try with_reducible rfl)
            try simp only [Act.put, List.setIfInBounds_toArray, List.set_cons_zero, List.set_cons_succ]
            refine wpAnyH_ready (rs := [13]) (by kernel_rfl) (by simp) ?_
            refine (AllReadyH.cons (o := { dst := none, op := Op.store 24 (Operand.tmp 10) (Operand.tmp 56), type := 0, pos := "law.go:75", after := #[{ on := 12, ground := Ground.data }, { on := 10, ground := Ground.data }, { on := 8, ground := Ground.chain }, { on := 0, ground := Ground.phase }, { on := 1, ground := Ground.phase }, { on := 2, ground := Ground.phase }, { on := 3, ground := Ground.phase }, { on := 4, ground := Ground.phase }, { on := 5, ground := Ground.phase }, { on := 6, ground := Ground.phase }, { on := 7, ground := Ground.phase }, { on := 8, ground := Ground.phase }, { on := 9, ground := Ground.phase }, { on := 10, ground := Ground.phase }, { on := 11, ground := Ground.textOnly Departure.lateStores }, { on := 12, ground := Ground.phase }], guard := none }) rfl (fun K hK => ?_) AllReadyH.nil)
            obtain ⟨f0, f1, f2, f3, f4, f5⟩ := Er.block_cells hB
            have hset := Er.block_set (x' := .bool ga) (y' := .slice a9 za c9) (z' := .int .i64 sa) hB
            have hqW := ((Q.setCell (Q.setCell (Q.setCell (Ep.SU.here hS) (ad := ⟨b9, 0, none⟩) hWb (.bool ga)) (ad := ⟨b9, 1, none⟩) hWb (.slice a9 za c9)) (ad := ⟨b9, 2, none⟩) hWb (.int .i64 sa)))
            have hl := Lst.setCell (Lst.setCell (Lst.setCell hx9 (ad := ⟨b9, 0, none⟩) (.bool ga) hne) (ad := ⟨b9, 1, none⟩) (.slice a9 za c9) hne) (ad := ⟨b9, 2, none⟩) (.int .i64 sa) hne
            go_simp
            have hS2 := SQ.out _ hqW
            refine hK.out _ _ (by exact hS2) (fun hHeld => ?_)
            clear hK K hHeld hS
            have hS := hS2
            clear hS2 f0 f1 f2 f3 f4 f5
            try simp only [Act.put, List.setIfInBounds_toArray, List.set_cons_zero, List.set_cons_succ]
            refine wpAnyH_take (i := 14) (oi := { dst := some 11, op := Op.assign (Operand.tmp 57), type := 33, pos := "law.go:75", after := #[{ on := 11, ground := Ground.data }, { on := 13, ground := Ground.chain }, { on := 0, ground := Ground.phase }, { on := 1, ground := Ground.phase }, { on := 2, ground := Ground.phase }, { on := 3, ground := Ground.phase }, { on := 4, ground := Ground.phase }, { on := 5, ground := Ground.phase }, { on := 6, ground := Ground.phase }, { on := 7, ground := Ground.phase }, { on := 8, ground := Ground.phase }, { on := 9, ground := Ground.phase }, { on := 10, ground := Ground.phase }, { on := 11, ground := Ground.phase }, { on := 12, ground := Ground.phase }, { on := 13, ground := Ground.phase }], guard := none }) (v := ?vT4x22) rfl (by kernel_rfl) (by kernel_rfl) (by kernel_rfl) (fun _ _ _ h => h) (Or.inl ⟨by rfl, ?hyT4x22⟩) (by exact hS) ?rsT4x22
            case hyT4x22 => (intro w hSw; (try dsimp only at hSw); unfold Ep.SU at hSw; go_simp; try with_reducible rfl)
            try simp only [Act.put, List.setIfInBounds_toArray, List.set_cons_zero, List.set_cons_succ]
            refine wpAnyH_done (by kernel_rfl) ?_ _
            go_wp2_with fail
            go_meet
            exact ⟨b9, a9, c9, rfl, rfl, hset, hl, hqW⟩
        case rest =>
          obtain ⟨b7, a7, c7, rfl, rfl, hb7, hl7, hqc⟩ := hcut
          obtain ⟨w7, hw7⟩ : ∃ x, x = wc := ⟨_, rfl⟩
          subst hw7
          have HB7 := Lib.hid hb7
          have LZ7 := Lib.hid hl7
          clear SQ hb7 hl7
          have L62_E := Lib.hid (Lst.q L61_E.out hqc)
          clear L61_E
          have L62_F := Lib.hid (Lst.q L61_F.out hqc)
          clear L61_F
          have L62_Z6 := Lib.hid (Lst.q LZ6.out hqc)
          clear LZ6
          have B62_b6 := Lib.hid ((Q.block hqc (lt_of_block HB6.out)).trans HB6.out)
          clear HB6
          have H62_X := Lib.hid ((Q.block hqc (lt_of_block H61_X.out)).trans H61_X.out)
          clear H61_X
          have H62_Y := Lib.hid ((Q.block hqc (lt_of_block H61_Y.out)).trans H61_Y.out)
          clear H61_Y
          have Q62 := Lib.hid (Q.trans Q61.out hqc)
          clear Q61
          clear hqc
          have SQ := Lib.hid (fun u (q : Q w7 u) => (by
            obtain ⟨x0, x1, x2⟩ := CX.out u ((Q.block q (lt_of_block H62_X.out)).trans H62_X.out)
            obtain ⟨x3, x4, x5⟩ := CY.out u ((Q.block q (lt_of_block H62_Y.out)).trans H62_Y.out)
            exact ⟨x0, x1, x2, x3, x4, x5, q⟩ : Ep.SU w7 X Y i g0 (.slice a n c) s g1 (.slice b m d) t u))
          go_upto_region 8 with fail
          go_cut [12, 13] from 28 to 131 (fun p e wx => ∃ b9 a9 c9, p = .pointer (some ⟨b9, 0, none⟩) ∧ e = .int .i64 er ∧ wx.heap[b9]? = some (.cells #[.bool gd, .slice a9 zd c9, .int .i64 sd] 32) ∧ Lst wx (.slice a9 zd c9) Zd ∧ Q w7 wx)
          case first =>
            refine wp_region_held_drew (S := fun u => Ep.SU w7 X Y i g0 (.slice a n c) s g1 (.slice b m d) t u) (by kernel_rfl) (by exact SQ.out _ ((Q.refl w7).drew)) (fun hHeld => ?_)
            have hS : Ep.SU w7 X Y i g0 (.slice a n c) s g1 (.slice b m d) t w7.drew := hHeld
            clear hHeld
            generalize w7.drew = yT5x0 at hS ⊢
            refine wpAnyH_take (i := 0) (oi := { dst := some 59, op := Op.move (Operand.tmp 5), type := 54, pos := "law.go:76", after := #[], guard := none }) (v := ?vT5x1) rfl (by kernel_rfl) (by kernel_rfl) (by kernel_rfl) (fun _ _ _ h => h) (Or.inl ⟨by rfl, ?hyT5x1⟩) (by exact hS) ?rsT5x1
            case hyT5x1 => (intro w hSw; (try dsimp only at hSw); unfold Ep.SU at hSw; go_simp; try with_reducible rfl)
            try simp only [Act.put, List.setIfInBounds_toArray, List.set_cons_zero, List.set_cons_succ]
            refine wpAnyH_take (i := 1) (oi := { dst := some 60, op := Op.move (Operand.tmp 7), type := 3, pos := "law.go:76", after := #[], guard := none }) (v := ?vT5x2) rfl (by kernel_rfl) (by kernel_rfl) (by kernel_rfl) (fun _ _ _ h => h) (Or.inl ⟨by rfl, ?hyT5x2⟩) (by exact hS) ?rsT5x2
            case hyT5x2 => (intro w hSw; (try dsimp only at hSw); unfold Ep.SU at hSw; go_simp; try with_reducible rfl)
            try simp only [Act.put, List.setIfInBounds_toArray, List.set_cons_zero, List.set_cons_succ]
            refine wpAnyH_take (i := 2) (oi := { dst := some 61, op := Op.indexAddr 54 (Operand.tmp 59) (Operand.tmp 60), type := 0, pos := "law.go:76", after := #[{ on := 0, ground := Ground.data }, { on := 1, ground := Ground.data }], guard := none }) (v := ?vT5x3) rfl (by kernel_rfl) (by kernel_rfl) (by kernel_rfl) (fun _ _ _ h => h) (Or.inl ⟨by rfl, ?hyT5x3⟩) (by exact hS) ?rsT5x3
            case hyT5x3 => (intro w hSw; (try dsimp only at hSw); unfold Ep.SU at hSw; go_simp; try with_reducible rfl)
            try simp only [Act.put, List.setIfInBounds_toArray, List.set_cons_zero, List.set_cons_succ]
            refine wpAnyH_take (i := 3) (oi := { dst := some 62, op := Op.load 24 (Operand.tmp 61), type := 24, pos := "law.go:76", after := #[{ on := 2, ground := Ground.data }], guard := none }) (v := ?vT5x4) rfl (by kernel_rfl) (by kernel_rfl) (by kernel_rfl) (fun _ _ _ h => h) (Or.inl ⟨by rfl, ?hyT5x4⟩) (by exact hS) ?rsT5x4
            case hyT5x4 => (intro w hSw; (try dsimp only at hSw); unfold Ep.SU at hSw; go_simp; try with_reducible rfl)
            try simp only [Act.put, List.setIfInBounds_toArray, List.set_cons_zero, List.set_cons_succ]
            refine wpAnyH_take (i := 5) (oi := { dst := some 64, op := Op.move (Operand.tmp 6), type := 54, pos := "law.go:76", after := #[], guard := none }) (v := ?vT5x5) rfl (by kernel_rfl) (by kernel_rfl) (by kernel_rfl) (fun _ _ _ h => h) (Or.inl ⟨by rfl, ?hyT5x5⟩) (by exact hS) ?rsT5x5
            case hyT5x5 => (intro w hSw; (try dsimp only at hSw); unfold Ep.SU at hSw; go_simp; try with_reducible rfl)
            try simp only [Act.put, List.setIfInBounds_toArray, List.set_cons_zero, List.set_cons_succ]
            refine wpAnyH_take (i := 6) (oi := { dst := some 65, op := Op.move (Operand.tmp 7), type := 3, pos := "law.go:76", after := #[], guard := none }) (v := ?vT5x6) rfl (by kernel_rfl) (by kernel_rfl) (by kernel_rfl) (fun _ _ _ h => h) (Or.inl ⟨by rfl, ?hyT5x6⟩) (by exact hS) ?rsT5x6
            case hyT5x6 => (intro w hSw; (try dsimp only at hSw); unfold Ep.SU at hSw; go_simp; try with_reducible rfl)
            try simp only [Act.put, List.setIfInBounds_toArray, List.set_cons_zero, List.set_cons_succ]
            refine wpAnyH_take (i := 7) (oi := { dst := some 66, op := Op.indexAddr 54 (Operand.tmp 64) (Operand.tmp 65), type := 0, pos := "law.go:76", after := #[{ on := 5, ground := Ground.data }, { on := 6, ground := Ground.data }], guard := none }) (v := ?vT5x7) rfl (by kernel_rfl) (by kernel_rfl) (by kernel_rfl) (fun _ _ _ h => h) (Or.inl ⟨by rfl, ?hyT5x7⟩) (by exact hS) ?rsT5x7
            case hyT5x7 => (intro w hSw; (try dsimp only at hSw); unfold Ep.SU at hSw; go_simp; try with_reducible rfl)
            try simp only [Act.put, List.setIfInBounds_toArray, List.set_cons_zero, List.set_cons_succ]
            refine wpAnyH_take (i := 8) (oi := { dst := some 67, op := Op.load 24 (Operand.tmp 66), type := 24, pos := "law.go:76", after := #[{ on := 7, ground := Ground.data }], guard := none }) (v := ?vT5x8) rfl (by kernel_rfl) (by kernel_rfl) (by kernel_rfl) (fun _ _ _ h => h) (Or.inl ⟨by rfl, ?hyT5x8⟩) (by exact hS) ?rsT5x8
            case hyT5x8 => (intro w hSw; (try dsimp only at hSw); unfold Ep.SU at hSw; go_simp; try with_reducible rfl)
            try simp only [Act.put, List.setIfInBounds_toArray, List.set_cons_zero, List.set_cons_succ]
            refine wpAnyH_ready (rs := [4, 14]) (by kernel_rfl) (by simp) ?_
            refine (AllReadyH.cons (o := { dst := some 63, op := Op.call { callee := Callee.value (Operand.func 22), args := #[Operand.tmp 62], argTypes := #[24] }, type := 32, pos := "law.go:76", after := #[{ on := 3, ground := Ground.data }], guard := none }) rfl (fun K hK => ?_) (AllReadyH.cons (o := { dst := some 12, op := Op.alloc 32, type := 0, pos := "law.go:76", after := #[], guard := none }) rfl (fun K hK => ?_) AllReadyH.nil))
            · go_simp
              refine (Ep.of_sh _ _ _ _ _ _).mono ?_
              rintro e yT5x9 ⟨rfl, hq⟩
              try (go_wp2_with fail)
              have hS2 := SQ.out _ (Q.trans (Ep.SU.here hS) hq)
              refine hK.out _ _ (by exact hS2) (fun hHeld => ?_)
              clear hK K hHeld hS hq
              have hS := hS2
              clear hS2
              try simp only [Act.put, List.setIfInBounds_toArray, List.set_cons_zero, List.set_cons_succ]
              refine wpAnyH_ready (rs := [9, 14]) (by kernel_rfl) (by simp) ?_
              refine (AllReadyH.cons (o := { dst := some 68, op := Op.call { callee := Callee.value (Operand.func 22), args := #[Operand.tmp 67], argTypes := #[24] }, type := 32, pos := "law.go:76", after := #[{ on := 8, ground := Ground.data }, { on := 4, ground := Ground.chain }], guard := none }) rfl (fun K hK => ?_) (AllReadyH.cons (o := { dst := some 12, op := Op.alloc 32, type := 0, pos := "law.go:76", after := #[], guard := none }) rfl (fun K hK => ?_) AllReadyH.nil))
              · go_simp
                refine (Ep.of_sh _ _ _ _ _ _).mono ?_
                rintro e yT5x10 ⟨rfl, hq⟩
                try (go_wp2_with fail)
                have hS2 := SQ.out _ (Q.trans (Ep.SU.here hS) hq)
                refine hK.out _ _ (by exact hS2) (fun hHeld => ?_)
                clear hK K hHeld hS hq
                have hS := hS2
                clear hS2
                try simp only [Act.put, List.setIfInBounds_toArray, List.set_cons_zero, List.set_cons_succ]
                refine wpAnyH_ready (rs := [10, 14]) (by kernel_rfl) (by simp) ?_
                refine (AllReadyH.cons (o := { dst := some 69, op := Op.call { callee := Callee.value (Operand.func 34), args := #[Operand.tmp 63, Operand.tmp 68], argTypes := #[32, 32] }, type := 34, pos := "law.go:76", after := #[{ on := 4, ground := Ground.data }, { on := 9, ground := Ground.data }, { on := 9, ground := Ground.chain }], guard := none }) rfl (fun K hK => ?_) (AllReadyH.cons (o := { dst := some 12, op := Op.alloc 32, type := 0, pos := "law.go:76", after := #[], guard := none }) rfl (fun K hK => ?_) AllReadyH.nil))
                · go_simp
                  refine (PS.out _ _ _ (L62_E.out.q (Ep.SU.here hS)) (L62_F.out.q (Ep.SU.here hS))).mono ?_
                  rintro e yT5x11 ⟨a9, c9, rfl, hx9, hq⟩
                  try (go_wp2_with fail)
                  have hlf := hx9
                  have hx9 := Ep.lf_lst hlf
                  clear hlf
                  have hS2 := SQ.out _ (Q.trans (Ep.SU.here hS) hq)
                  refine hK.out _ _ (by exact hS2) (fun hHeld => ?_)
                  clear hK K hHeld hS hq
                  have hS := hS2
                  clear hS2
                  try simp only [Act.put, List.setIfInBounds_toArray, List.set_cons_zero, List.set_cons_succ]
                  refine wpAnyH_take (i := 11) (oi := { dst := some 58, op := Op.move (Operand.tmp 69), type := 34, pos := "law.go:76", after := #[{ on := 10, ground := Ground.data }], guard := none }) (v := ?vT5x12) rfl (by kernel_rfl) (by kernel_rfl) (by kernel_rfl) (fun _ _ _ h => h) (Or.inl ⟨by rfl, ?hyT5x12⟩) (by exact hS) ?rsT5x12
                  case hyT5x12 => (intro w hSw; (try dsimp only at hSw); unfold Ep.SU at hSw; go_simp; try with_reducible rfl)
                  try simp only [Act.put, List.setIfInBounds_toArray, List.set_cons_zero, List.set_cons_succ]
                  refine wpAnyH_take (i := 12) (oi := { dst := some 70, op := Op.extract (Operand.tmp 58) 0, type := 32, pos := "law.go:76", after := #[{ on := 11, ground := Ground.data }], guard := none }) (v := ?vT5x13) rfl (by kernel_rfl) (by kernel_rfl) (by kernel_rfl) (fun _ _ _ h => h) (Or.inl ⟨by rfl, ?hyT5x13⟩) (by exact hS) ?rsT5x13
                  case hyT5x13 => (intro w hSw; (try dsimp only at hSw); unfold Ep.SU at hSw; go_simp; try with_reducible rfl)
                  try simp only [Act.put, List.setIfInBounds_toArray, List.set_cons_zero, List.set_cons_succ]
                  refine wpAnyH_take (i := 13) (oi := { dst := some 71, op := Op.extract (Operand.tmp 58) 1, type := 33, pos := "law.go:76", after := #[{ on := 11, ground := Ground.data }, { on := 15, ground := Ground.gcOnly Departure.lateStores }], guard := none }) (v := ?vT5x14) rfl (by kernel_rfl) (by kernel_rfl) (by kernel_rfl) (fun _ _ _ h => h) (Or.inl ⟨by rfl, ?hyT5x14⟩) (by exact hS) ?rsT5x14
                  case hyT5x14 => (intro w hSw; (try dsimp only at hSw); unfold Ep.SU at hSw; go_simp; try with_reducible rfl)
                  try simp only [Act.put, List.setIfInBounds_toArray, List.set_cons_zero, List.set_cons_succ]
                  refine wpAnyH_ready (rs := [14]) (by kernel_rfl) (by simp) ?_
                  refine (AllReadyH.cons (o := { dst := some 12, op := Op.alloc 32, type := 0, pos := "law.go:76", after := #[], guard := none }) rfl (fun K hK => ?_) AllReadyH.nil)
                  go_simp
                  have hq := (Q.refl yT5x11).alloc (.cells #[.bool false, .slice none 0 0, .int .i64 0] 32)
                  have hB := heap_alloc_new yT5x11 (.cells #[.bool false, .slice none 0 0, .int .i64 0] 32)
                  have hbu : yT5x11.heap.size < (yT5x11.alloc (.cells #[.bool false, .slice none 0 0, .int .i64 0] 32)).heap.size := by rw [World.size_alloc]; omega
                  have hWb := (Ep.SU.here hS).le
                  have hne_hx9 : ∀ (a : Addr) (n c : Nat), (.slice a9 zd c9 : Value) = .slice (some a) n c → n ≠ 0 → a.block ≠ yT5x11.heap.size := fun a n c h1 h2 => Nat.ne_of_lt (Lst.old hx9 a n c h1 h2)
                  have hx9 := Lst.q hx9 hq
                  have hS2 := SQ.out _ (Q.trans (Ep.SU.here hS) hq)
                  refine hK.out _ _ (by exact hS2) (fun hHeld => ?_)
                  clear hK K hHeld hS hq
                  have hS := hS2
                  clear hS2
                  generalize yT5x11.alloc (.cells #[.bool false, .slice none 0 0, .int .i64 0] 32) = yT5x15 at *
                  generalize yT5x11.heap.size = b9 at *
                  have hne := hne_hx9
                  try simp only [Act.put, List.setIfInBounds_toArray, List.set_cons_zero, List.set_cons_succ]
                  refine wpAnyH_ready (rs := [15]) (by kernel_rfl) (by simp) ?_
                  refine (AllReadyH.cons (o := { dst := none, op := Op.store 32 (Operand.tmp 12) (Operand.tmp 70), type := 0, pos := "law.go:76", after := #[{ on := 14, ground := Ground.data }, { on := 12, ground := Ground.data }, { on := 10, ground := Ground.chain }, { on := 0, ground := Ground.phase }, { on := 1, ground := Ground.phase }, { on := 2, ground := Ground.phase }, { on := 3, ground := Ground.phase }, { on := 4, ground := Ground.phase }, { on := 5, ground := Ground.phase }, { on := 6, ground := Ground.phase }, { on := 7, ground := Ground.phase }, { on := 8, ground := Ground.phase }, { on := 9, ground := Ground.phase }, { on := 10, ground := Ground.phase }, { on := 11, ground := Ground.phase }, { on := 12, ground := Ground.phase }, { on := 13, ground := Ground.textOnly Departure.lateStores }, { on := 14, ground := Ground.phase }], guard := none }) rfl (fun K hK => ?_) AllReadyH.nil)
                  obtain ⟨f0, f1, f2, f3, f4, f5⟩ := Er.block_cells hB
                  have hset := Er.block_set (x' := .bool gd) (y' := .slice a9 zd c9) (z' := .int .i64 sd) hB
                  have hqW := ((Q.setCell (Q.setCell (Q.setCell (Ep.SU.here hS) (ad := ⟨b9, 0, none⟩) hWb (.bool gd)) (ad := ⟨b9, 1, none⟩) hWb (.slice a9 zd c9)) (ad := ⟨b9, 2, none⟩) hWb (.int .i64 sd)))
                  have hl := Lst.setCell (Lst.setCell (Lst.setCell hx9 (ad := ⟨b9, 0, none⟩) (.bool gd) hne) (ad := ⟨b9, 1, none⟩) (.slice a9 zd c9) hne) (ad := ⟨b9, 2, none⟩) (.int .i64 sd) hne
                  go_simp
                  have hS2 := SQ.out _ hqW
                  refine hK.out _ _ (by exact hS2) (fun hHeld => ?_)
                  clear hK K hHeld hS
                  have hS := hS2
                  clear hS2 f0 f1 f2 f3 f4 f5
                  try simp only [Act.put, List.setIfInBounds_toArray, List.set_cons_zero, List.set_cons_succ]
                  refine wpAnyH_take (i := 16) (oi := { dst := some 13, op := Op.assign (Operand.tmp 71), type := 33, pos := "law.go:76", after := #[{ on := 13, ground := Ground.data }, { on := 15, ground := Ground.chain }, { on := 0, ground := Ground.phase }, { on := 1, ground := Ground.phase }, { on := 2, ground := Ground.phase }, { on := 3, ground := Ground.phase }, { on := 4, ground := Ground.phase }, { on := 5, ground := Ground.phase }, { on := 6, ground := Ground.phase }, { on := 7, ground := Ground.phase }, { on := 8, ground := Ground.phase }, { on := 9, ground := Ground.phase }, { on := 10, ground := Ground.phase }, { on := 11, ground := Ground.phase }, { on := 12, ground := Ground.phase }, { on := 13, ground := Ground.phase }, { on := 14, ground := Ground.phase }, { on := 15, ground := Ground.phase }], guard := none }) (v := ?vT5x17) rfl (by kernel_rfl) (by kernel_rfl) (by kernel_rfl) (fun _ _ _ h => h) (Or.inl ⟨by rfl, ?hyT5x17⟩) (by exact hS) ?rsT5x17
                  case hyT5x17 => (intro w hSw; (try dsimp only at hSw); unfold Ep.SU at hSw; go_simp; try with_reducible rfl)
                  try simp only [Act.put, List.setIfInBounds_toArray, List.set_cons_zero, List.set_cons_succ]
                  refine wpAnyH_done (by kernel_rfl) ?_ _
                  go_wp2_with fail
                  go_meet
                  exact ⟨b9, a9, c9, rfl, rfl, hset, hl, hqW⟩
                · go_simp
                  have hq := (Q.refl yT5x10).alloc (.cells #[.bool false, .slice none 0 0, .int .i64 0] 32)
                  have hB := heap_alloc_new yT5x10 (.cells #[.bool false, .slice none 0 0, .int .i64 0] 32)
                  have hbu : yT5x10.heap.size < (yT5x10.alloc (.cells #[.bool false, .slice none 0 0, .int .i64 0] 32)).heap.size := by rw [World.size_alloc]; omega
                  have hWb := (Ep.SU.here hS).le
                  have hS2 := SQ.out _ (Q.trans (Ep.SU.here hS) hq)
                  refine hK.out _ _ (by exact hS2) (fun hHeld => ?_)
                  clear hK K hHeld hS hq
                  have hS := hS2
                  clear hS2
                  generalize yT5x10.alloc (.cells #[.bool false, .slice none 0 0, .int .i64 0] 32) = yT5x18 at *
                  generalize yT5x10.heap.size = b9 at *
                  try simp only [Act.put, List.setIfInBounds_toArray, List.set_cons_zero, List.set_cons_succ]
                  refine wpAnyH_ready (rs := [10]) (by kernel_rfl) (by simp) ?_
                  refine (AllReadyH.cons (o := { dst := some 69, op := Op.call { callee := Callee.value (Operand.func 34), args := #[Operand.tmp 63, Operand.tmp 68], argTypes := #[32, 32] }, type := 34, pos := "law.go:76", after := #[{ on := 4, ground := Ground.data }, { on := 9, ground := Ground.data }, { on := 9, ground := Ground.chain }], guard := none }) rfl (fun K hK => ?_) AllReadyH.nil)
                  go_simp
                  refine (PS.out _ _ _ (L62_E.out.q (Ep.SU.here hS)) (L62_F.out.q (Ep.SU.here hS))).mono ?_
                  rintro e yT5x19 ⟨a9, c9, rfl, hx9, hq⟩
                  try (go_wp2_with fail)
                  have hB := (Q.block hq (lt_of_block hB)).trans hB
                  have hlf := hx9
                  have hx9 := Ep.lf_lst hlf
                  have hne : ∀ (a : Addr) (n c : Nat), (.slice a9 zd c9 : Value) = .slice (some a) n c → n ≠ 0 → a.block ≠ b9 := Ep.lf_ne hlf hbu
                  clear hlf
                  have hS2 := SQ.out _ (Q.trans (Ep.SU.here hS) hq)
                  have hbu := Nat.lt_of_lt_of_le hbu hq.le
                  refine hK.out _ _ (by exact hS2) (fun hHeld => ?_)
                  clear hK K hHeld hS hq
                  have hS := hS2
                  clear hS2
                  try simp only [Act.put, List.setIfInBounds_toArray, List.set_cons_zero, List.set_cons_succ]
                  refine wpAnyH_take (i := 11) (oi := { dst := some 58, op := Op.move (Operand.tmp 69), type := 34, pos := "law.go:76", after := #[{ on := 10, ground := Ground.data }], guard := none }) (v := ?vT5x20) rfl (by kernel_rfl) (by kernel_rfl) (by kernel_rfl) (fun _ _ _ h => h) (Or.inl ⟨by rfl, ?hyT5x20⟩) (by exact hS) ?rsT5x20
                  case hyT5x20 => (intro w hSw; (try dsimp only at hSw); unfold Ep.SU at hSw; go_simp; try with_reducible rfl)
                  try simp only [Act.put, List.setIfInBounds_toArray, List.set_cons_zero, List.set_cons_succ]
                  refine wpAnyH_take (i := 12) (oi := { dst := some 70, op := Op.extract (Operand.tmp 58) 0, type := 32, pos := "law.go:76", after := #[{ on := 11, ground := Ground.data }], guard := none }) (v := ?vT5x21) rfl (by kernel_rfl) (by kernel_rfl) (by kernel_rfl) (fun _ _ _ h => h) (Or.inl ⟨by rfl, ?hyT5x21⟩) (by exact hS) ?rsT5x21
                  case hyT5x21 => (intro w hSw; (try dsimp only at hSw); unfold Ep.SU at hSw; go_simp; try with_reducible rfl)
                  try simp only [Act.put, List.setIfInBounds_toArray, List.set_cons_zero, List.set_cons_succ]
                  refine wpAnyH_take (i := 13) (oi := { dst := some 71, op := Op.extract (Operand.tmp 58) 1, type := 33, pos := "law.go:76", after := #[{ on := 11, ground := Ground.data }, { on := 15, ground := Ground.gcOnly Departure.lateStores }], guard := none }) (v := ?vT5x22) rfl (by kernel_rfl) (by kernel_rfl) (by kernel_rfl) (fun _ _ _ h => h) (Or.inl ⟨by rfl, ?hyT5x22⟩) (by exact hS) ?rsT5x22
                  case hyT5x22 => (intro w hSw; (try dsimp only at hSw); unfold Ep.SU at hSw; go_simp; try with_reducible rfl)
                  try simp only [Act.put, List.setIfInBounds_toArray, List.set_cons_zero, List.set_cons_succ]
                  refine wpAnyH_ready (rs := [15]) (by kernel_rfl) (by simp) ?_
                  refine (AllReadyH.cons (o := { dst := none, op := Op.store 32 (Operand.tmp 12) (Operand.tmp 70), type := 0, pos := "law.go:76", after := #[{ on := 14, ground := Ground.data }, { on := 12, ground := Ground.data }, { on := 10, ground := Ground.chain }, { on := 0, ground := Ground.phase }, { on := 1, ground := Ground.phase }, { on := 2, ground := Ground.phase }, { on := 3, ground := Ground.phase }, { on := 4, ground := Ground.phase }, { on := 5, ground := Ground.phase }, { on := 6, ground := Ground.phase }, { on := 7, ground := Ground.phase }, { on := 8, ground := Ground.phase }, { on := 9, ground := Ground.phase }, { on := 10, ground := Ground.phase }, { on := 11, ground := Ground.phase }, { on := 12, ground := Ground.phase }, { on := 13, ground := Ground.textOnly Departure.lateStores }, { on := 14, ground := Ground.phase }], guard := none }) rfl (fun K hK => ?_) AllReadyH.nil)
                  obtain ⟨f0, f1, f2, f3, f4, f5⟩ := Er.block_cells hB
                  have hset := Er.block_set (x' := .bool gd) (y' := .slice a9 zd c9) (z' := .int .i64 sd) hB
                  have hqW := ((Q.setCell (Q.setCell (Q.setCell (Ep.SU.here hS) (ad := ⟨b9, 0, none⟩) hWb (.bool gd)) (ad := ⟨b9, 1, none⟩) hWb (.slice a9 zd c9)) (ad := ⟨b9, 2, none⟩) hWb (.int .i64 sd)))
                  have hl := Lst.setCell (Lst.setCell (Lst.setCell hx9 (ad := ⟨b9, 0, none⟩) (.bool gd) hne) (ad := ⟨b9, 1, none⟩) (.slice a9 zd c9) hne) (ad := ⟨b9, 2, none⟩) (.int .i64 sd) hne
                  go_simp
                  have hS2 := SQ.out _ hqW
                  refine hK.out _ _ (by exact hS2) (fun hHeld => ?_)
                  clear hK K hHeld hS
                  have hS := hS2
                  clear hS2 f0 f1 f2 f3 f4 f5
                  try simp only [Act.put, List.setIfInBounds_toArray, List.set_cons_zero, List.set_cons_succ]
                  refine wpAnyH_take (i := 16) (oi := { dst := some 13, op := Op.assign (Operand.tmp 71), type := 33, pos := "law.go:76", after := #[{ on := 13, ground := Ground.data }, { on := 15, ground := Ground.chain }, { on := 0, ground := Ground.phase }, { on := 1, ground := Ground.phase }, { on := 2, ground := Ground.phase }, { on := 3, ground := Ground.phase }, { on := 4, ground := Ground.phase }, { on := 5, ground := Ground.phase }, { on := 6, ground := Ground.phase }, { on := 7, ground := Ground.phase }, { on := 8, ground := Ground.phase }, { on := 9, ground := Ground.phase }, { on := 10, ground := Ground.phase }, { on := 11, ground := Ground.phase }, { on := 12, ground := Ground.phase }, { on := 13, ground := Ground.phase }, { on := 14, ground := Ground.phase }, { on := 15, ground := Ground.phase }], guard := none }) (v := ?vT5x24) rfl (by kernel_rfl) (by kernel_rfl) (by kernel_rfl) (fun _ _ _ h => h) (Or.inl ⟨by rfl, ?hyT5x24⟩) (by exact hS) ?rsT5x24
                  case hyT5x24 => (intro w hSw; (try dsimp only at hSw); unfold Ep.SU at hSw; go_simp; try with_reducible rfl)
                  try simp only [Act.put, List.setIfInBounds_toArray, List.set_cons_zero, List.set_cons_succ]
                  refine wpAnyH_done (by kernel_rfl) ?_ _
                  go_wp2_with fail
                  go_meet
                  exact ⟨b9, a9, c9, rfl, rfl, hset, hl, hqW⟩
              · go_simp
                have hq := (Q.refl yT5x9).alloc (.cells #[.bool false, .slice none 0 0, .int .i64 0] 32)
                have hB := heap_alloc_new yT5x9 (.cells #[.bool false, .slice none 0 0, .int .i64 0] 32)
                have hbu : yT5x9.heap.size < (yT5x9.alloc (.cells #[.bool false, .slice none 0 0, .int .i64 0] 32)).heap.size := by rw [World.size_alloc]; omega
                have hWb := (Ep.SU.here hS).le
                have hS2 := SQ.out _ (Q.trans (Ep.SU.here hS) hq)
                refine hK.out _ _ (by exact hS2) (fun hHeld => ?_)
                clear hK K hHeld hS hq
                have hS := hS2
                clear hS2
                generalize yT5x9.alloc (.cells #[.bool false, .slice none 0 0, .int .i64 0] 32) = yT5x25 at *
                generalize yT5x9.heap.size = b9 at *
                try simp only [Act.put, List.setIfInBounds_toArray, List.set_cons_zero, List.set_cons_succ]
                refine wpAnyH_ready (rs := [9]) (by kernel_rfl) (by simp) ?_
                refine (AllReadyH.cons (o := { dst := some 68, op := Op.call { callee := Callee.value (Operand.func 22), args := #[Operand.tmp 67], argTypes := #[24] }, type := 32, pos := "law.go:76", after := #[{ on := 8, ground := Ground.data }, { on := 4, ground := Ground.chain }], guard := none }) rfl (fun K hK => ?_) AllReadyH.nil)
                go_simp
                refine (Ep.of_sh _ _ _ _ _ _).mono ?_
                rintro e yT5x26 ⟨rfl, hq⟩
                try (go_wp2_with fail)
                have hB := (Q.block hq (lt_of_block hB)).trans hB
                have hS2 := SQ.out _ (Q.trans (Ep.SU.here hS) hq)
                have hbu := Nat.lt_of_lt_of_le hbu hq.le
                refine hK.out _ _ (by exact hS2) (fun hHeld => ?_)
                clear hK K hHeld hS hq
                have hS := hS2
                clear hS2
                try simp only [Act.put, List.setIfInBounds_toArray, List.set_cons_zero, List.set_cons_succ]
                refine wpAnyH_ready (rs := [10]) (by kernel_rfl) (by simp) ?_
                refine (AllReadyH.cons (o := { dst := some 69, op := Op.call { callee := Callee.value (Operand.func 34), args := #[Operand.tmp 63, Operand.tmp 68], argTypes := #[32, 32] }, type := 34, pos := "law.go:76", after := #[{ on := 4, ground := Ground.data }, { on := 9, ground := Ground.data }, { on := 9, ground := Ground.chain }], guard := none }) rfl (fun K hK => ?_) AllReadyH.nil)
                go_simp
                refine (PS.out _ _ _ (L62_E.out.q (Ep.SU.here hS)) (L62_F.out.q (Ep.SU.here hS))).mono ?_
                rintro e yT5x27 ⟨a9, c9, rfl, hx9, hq⟩
                try (go_wp2_with fail)
                have hB := (Q.block hq (lt_of_block hB)).trans hB
                have hlf := hx9
                have hx9 := Ep.lf_lst hlf
                have hne : ∀ (a : Addr) (n c : Nat), (.slice a9 zd c9 : Value) = .slice (some a) n c → n ≠ 0 → a.block ≠ b9 := Ep.lf_ne hlf hbu
                clear hlf
                have hS2 := SQ.out _ (Q.trans (Ep.SU.here hS) hq)
                have hbu := Nat.lt_of_lt_of_le hbu hq.le
                refine hK.out _ _ (by exact hS2) (fun hHeld => ?_)
                clear hK K hHeld hS hq
                have hS := hS2
                clear hS2
                try simp only [Act.put, List.setIfInBounds_toArray, List.set_cons_zero, List.set_cons_succ]
                refine wpAnyH_take (i := 11) (oi := { dst := some 58, op := Op.move (Operand.tmp 69), type := 34, pos := "law.go:76", after := #[{ on := 10, ground := Ground.data }], guard := none }) (v := ?vT5x28) rfl (by kernel_rfl) (by kernel_rfl) (by kernel_rfl) (fun _ _ _ h => h) (Or.inl ⟨by rfl, ?hyT5x28⟩) (by exact hS) ?rsT5x28
                case hyT5x28 => (intro w hSw; (try dsimp only at hSw); unfold Ep.SU at hSw; go_simp; try with_reducible rfl)
                try simp only [Act.put, List.setIfInBounds_toArray, List.set_cons_zero, List.set_cons_succ]
                refine wpAnyH_take (i := 12) (oi := { dst := some 70, op := Op.extract (Operand.tmp 58) 0, type := 32, pos := "law.go:76", after := #[{ on := 11, ground := Ground.data }], guard := none }) (v := ?vT5x29) rfl (by kernel_rfl) (by kernel_rfl) (by kernel_rfl) (fun _ _ _ h => h) (Or.inl ⟨by rfl, ?hyT5x29⟩) (by exact hS) ?rsT5x29
                case hyT5x29 => (intro w hSw; (try dsimp only at hSw); unfold Ep.SU at hSw; go_simp; try with_reducible rfl)
                try simp only [Act.put, List.setIfInBounds_toArray, List.set_cons_zero, List.set_cons_succ]
                refine wpAnyH_take (i := 13) (oi := { dst := some 71, op := Op.extract (Operand.tmp 58) 1, type := 33, pos := "law.go:76", after := #[{ on := 11, ground := Ground.data }, { on := 15, ground := Ground.gcOnly Departure.lateStores }], guard := none }) (v := ?vT5x30) rfl (by kernel_rfl) (by kernel_rfl) (by kernel_rfl) (fun _ _ _ h => h) (Or.inl ⟨by rfl, ?hyT5x30⟩) (by exact hS) ?rsT5x30
                case hyT5x30 => (intro w hSw; (try dsimp only at hSw); unfold Ep.SU at hSw; go_simp; try with_reducible rfl)
                try simp only [Act.put, List.setIfInBounds_toArray, List.set_cons_zero, List.set_cons_succ]
                refine wpAnyH_ready (rs := [15]) (by kernel_rfl) (by simp) ?_
                refine (AllReadyH.cons (o := { dst := none, op := Op.store 32 (Operand.tmp 12) (Operand.tmp 70), type := 0, pos := "law.go:76", after := #[{ on := 14, ground := Ground.data }, { on := 12, ground := Ground.data }, { on := 10, ground := Ground.chain }, { on := 0, ground := Ground.phase }, { on := 1, ground := Ground.phase }, { on := 2, ground := Ground.phase }, { on := 3, ground := Ground.phase }, { on := 4, ground := Ground.phase }, { on := 5, ground := Ground.phase }, { on := 6, ground := Ground.phase }, { on := 7, ground := Ground.phase }, { on := 8, ground := Ground.phase }, { on := 9, ground := Ground.phase }, { on := 10, ground := Ground.phase }, { on := 11, ground := Ground.phase }, { on := 12, ground := Ground.phase }, { on := 13, ground := Ground.textOnly Departure.lateStores }, { on := 14, ground := Ground.phase }], guard := none }) rfl (fun K hK => ?_) AllReadyH.nil)
                obtain ⟨f0, f1, f2, f3, f4, f5⟩ := Er.block_cells hB
                have hset := Er.block_set (x' := .bool gd) (y' := .slice a9 zd c9) (z' := .int .i64 sd) hB
                have hqW := ((Q.setCell (Q.setCell (Q.setCell (Ep.SU.here hS) (ad := ⟨b9, 0, none⟩) hWb (.bool gd)) (ad := ⟨b9, 1, none⟩) hWb (.slice a9 zd c9)) (ad := ⟨b9, 2, none⟩) hWb (.int .i64 sd)))
                have hl := Lst.setCell (Lst.setCell (Lst.setCell hx9 (ad := ⟨b9, 0, none⟩) (.bool gd) hne) (ad := ⟨b9, 1, none⟩) (.slice a9 zd c9) hne) (ad := ⟨b9, 2, none⟩) (.int .i64 sd) hne
                go_simp
                have hS2 := SQ.out _ hqW
                refine hK.out _ _ (by exact hS2) (fun hHeld => ?_)
                clear hK K hHeld hS
                have hS := hS2
                clear hS2 f0 f1 f2 f3 f4 f5
                try simp only [Act.put, List.setIfInBounds_toArray, List.set_cons_zero, List.set_cons_succ]
                refine wpAnyH_take (i := 16) (oi := { dst := some 13, op := Op.assign (Operand.tmp 71), type := 33, pos := "law.go:76", after := #[{ on := 13, ground := Ground.data }, { on := 15, ground := Ground.chain }, { on := 0, ground := Ground.phase }, { on := 1, ground := Ground.phase }, { on := 2, ground := Ground.phase }, { on := 3, ground := Ground.phase }, { on := 4, ground := Ground.phase }, { on := 5, ground := Ground.phase }, { on := 6, ground := Ground.phase }, { on := 7, ground := Ground.phase }, { on := 8, ground := Ground.phase }, { on := 9, ground := Ground.phase }, { on := 10, ground := Ground.phase }, { on := 11, ground := Ground.phase }, { on := 12, ground := Ground.phase }, { on := 13, ground := Ground.phase }, { on := 14, ground := Ground.phase }, { on := 15, ground := Ground.phase }], guard := none }) (v := ?vT5x32) rfl (by kernel_rfl) (by kernel_rfl) (by kernel_rfl) (fun _ _ _ h => h) (Or.inl ⟨by rfl, ?hyT5x32⟩) (by exact hS) ?rsT5x32
                case hyT5x32 => (intro w hSw; (try dsimp only at hSw); unfold Ep.SU at hSw; go_simp; try with_reducible rfl)
                try simp only [Act.put, List.setIfInBounds_toArray, List.set_cons_zero, List.set_cons_succ]
                refine wpAnyH_done (by kernel_rfl) ?_ _
                go_wp2_with fail
                go_meet
                exact ⟨b9, a9, c9, rfl, rfl, hset, hl, hqW⟩
            · go_simp
              have hq := (Q.refl yT5x0).alloc (.cells #[.bool false, .slice none 0 0, .int .i64 0] 32)
              have hB := heap_alloc_new yT5x0 (.cells #[.bool false, .slice none 0 0, .int .i64 0] 32)
              have hbu : yT5x0.heap.size < (yT5x0.alloc (.cells #[.bool false, .slice none 0 0, .int .i64 0] 32)).heap.size := by rw [World.size_alloc]; omega
              have hWb := (Ep.SU.here hS).le
              have hS2 := SQ.out _ (Q.trans (Ep.SU.here hS) hq)
              refine hK.out _ _ (by exact hS2) (fun hHeld => ?_)
              clear hK K hHeld hS hq
              have hS := hS2
              clear hS2
              generalize yT5x0.alloc (.cells #[.bool false, .slice none 0 0, .int .i64 0] 32) = yT5x33 at *
              generalize yT5x0.heap.size = b9 at *
              try simp only [Act.put, List.setIfInBounds_toArray, List.set_cons_zero, List.set_cons_succ]
              refine wpAnyH_ready (rs := [4]) (by kernel_rfl) (by simp) ?_
              refine (AllReadyH.cons (o := { dst := some 63, op := Op.call { callee := Callee.value (Operand.func 22), args := #[Operand.tmp 62], argTypes := #[24] }, type := 32, pos := "law.go:76", after := #[{ on := 3, ground := Ground.data }], guard := none }) rfl (fun K hK => ?_) AllReadyH.nil)
              go_simp
              refine (Ep.of_sh _ _ _ _ _ _).mono ?_
              rintro e yT5x34 ⟨rfl, hq⟩
              try (go_wp2_with fail)
              have hB := (Q.block hq (lt_of_block hB)).trans hB
              have hS2 := SQ.out _ (Q.trans (Ep.SU.here hS) hq)
              have hbu := Nat.lt_of_lt_of_le hbu hq.le
              refine hK.out _ _ (by exact hS2) (fun hHeld => ?_)
              clear hK K hHeld hS hq
              have hS := hS2
              clear hS2
              try simp only [Act.put, List.setIfInBounds_toArray, List.set_cons_zero, List.set_cons_succ]
              refine wpAnyH_ready (rs := [9]) (by kernel_rfl) (by simp) ?_
              refine (AllReadyH.cons (o := { dst := some 68, op := Op.call { callee := Callee.value (Operand.func 22), args := #[Operand.tmp 67], argTypes := #[24] }, type := 32, pos := "law.go:76", after := #[{ on := 8, ground := Ground.data }, { on := 4, ground := Ground.chain }], guard := none }) rfl (fun K hK => ?_) AllReadyH.nil)
              go_simp
              refine (Ep.of_sh _ _ _ _ _ _).mono ?_
              rintro e yT5x35 ⟨rfl, hq⟩
              try (go_wp2_with fail)
              have hB := (Q.block hq (lt_of_block hB)).trans hB
              have hS2 := SQ.out _ (Q.trans (Ep.SU.here hS) hq)
              have hbu := Nat.lt_of_lt_of_le hbu hq.le
              refine hK.out _ _ (by exact hS2) (fun hHeld => ?_)
              clear hK K hHeld hS hq
              have hS := hS2
              clear hS2
              try simp only [Act.put, List.setIfInBounds_toArray, List.set_cons_zero, List.set_cons_succ]
              refine wpAnyH_ready (rs := [10]) (by kernel_rfl) (by simp) ?_
              refine (AllReadyH.cons (o := { dst := some 69, op := Op.call { callee := Callee.value (Operand.func 34), args := #[Operand.tmp 63, Operand.tmp 68], argTypes := #[32, 32] }, type := 34, pos := "law.go:76", after := #[{ on := 4, ground := Ground.data }, { on := 9, ground := Ground.data }, { on := 9, ground := Ground.chain }], guard := none }) rfl (fun K hK => ?_) AllReadyH.nil)
              go_simp
              refine (PS.out _ _ _ (L62_E.out.q (Ep.SU.here hS)) (L62_F.out.q (Ep.SU.here hS))).mono ?_
              rintro e yT5x36 ⟨a9, c9, rfl, hx9, hq⟩
              try (go_wp2_with fail)
              have hB := (Q.block hq (lt_of_block hB)).trans hB
              have hlf := hx9
              have hx9 := Ep.lf_lst hlf
              have hne : ∀ (a : Addr) (n c : Nat), (.slice a9 zd c9 : Value) = .slice (some a) n c → n ≠ 0 → a.block ≠ b9 := Ep.lf_ne hlf hbu
              clear hlf
              have hS2 := SQ.out _ (Q.trans (Ep.SU.here hS) hq)
              have hbu := Nat.lt_of_lt_of_le hbu hq.le
              refine hK.out _ _ (by exact hS2) (fun hHeld => ?_)
              clear hK K hHeld hS hq
              have hS := hS2
              clear hS2
              try simp only [Act.put, List.setIfInBounds_toArray, List.set_cons_zero, List.set_cons_succ]
              refine wpAnyH_take (i := 11) (oi := { dst := some 58, op := Op.move (Operand.tmp 69), type := 34, pos := "law.go:76", after := #[{ on := 10, ground := Ground.data }], guard := none }) (v := ?vT5x37) rfl (by kernel_rfl) (by kernel_rfl) (by kernel_rfl) (fun _ _ _ h => h) (Or.inl ⟨by rfl, ?hyT5x37⟩) (by exact hS) ?rsT5x37
              case hyT5x37 => (intro w hSw; (try dsimp only at hSw); unfold Ep.SU at hSw; go_simp; try with_reducible rfl)
              try simp only [Act.put, List.setIfInBounds_toArray, List.set_cons_zero, List.set_cons_succ]
              refine wpAnyH_take (i := 12) (oi := { dst := some 70, op := Op.extract (Operand.tmp 58) 0, type := 32, pos := "law.go:76", after := #[{ on := 11, ground := Ground.data }], guard := none }) (v := ?vT5x38) rfl (by kernel_rfl) (by kernel_rfl) (by kernel_rfl) (fun _ _ _ h => h) (Or.inl ⟨by rfl, ?hyT5x38⟩) (by exact hS) ?rsT5x38
              case hyT5x38 => (intro w hSw; (try dsimp only at hSw); unfold Ep.SU at hSw; go_simp; try with_reducible rfl)
              try simp only [Act.put, List.setIfInBounds_toArray, List.set_cons_zero, List.set_cons_succ]
              refine wpAnyH_take (i := 13) (oi := { dst := some 71, op := Op.extract (Operand.tmp 58) 1, type := 33, pos := "law.go:76", after := #[{ on := 11, ground := Ground.data }, { on := 15, ground := Ground.gcOnly Departure.lateStores }], guard := none }) (v := ?vT5x39) rfl (by kernel_rfl) (by kernel_rfl) (by kernel_rfl) (fun _ _ _ h => h) (Or.inl ⟨by rfl, ?hyT5x39⟩) (by exact hS) ?rsT5x39
              case hyT5x39 => (intro w hSw; (try dsimp only at hSw); unfold Ep.SU at hSw; go_simp; try with_reducible rfl)
              try simp only [Act.put, List.setIfInBounds_toArray, List.set_cons_zero, List.set_cons_succ]
              refine wpAnyH_ready (rs := [15]) (by kernel_rfl) (by simp) ?_
              refine (AllReadyH.cons (o := { dst := none, op := Op.store 32 (Operand.tmp 12) (Operand.tmp 70), type := 0, pos := "law.go:76", after := #[{ on := 14, ground := Ground.data }, { on := 12, ground := Ground.data }, { on := 10, ground := Ground.chain }, { on := 0, ground := Ground.phase }, { on := 1, ground := Ground.phase }, { on := 2, ground := Ground.phase }, { on := 3, ground := Ground.phase }, { on := 4, ground := Ground.phase }, { on := 5, ground := Ground.phase }, { on := 6, ground := Ground.phase }, { on := 7, ground := Ground.phase }, { on := 8, ground := Ground.phase }, { on := 9, ground := Ground.phase }, { on := 10, ground := Ground.phase }, { on := 11, ground := Ground.phase }, { on := 12, ground := Ground.phase }, { on := 13, ground := Ground.textOnly Departure.lateStores }, { on := 14, ground := Ground.phase }], guard := none }) rfl (fun K hK => ?_) AllReadyH.nil)
              obtain ⟨f0, f1, f2, f3, f4, f5⟩ := Er.block_cells hB
              have hset := Er.block_set (x' := .bool gd) (y' := .slice a9 zd c9) (z' := .int .i64 sd) hB
              have hqW := ((Q.setCell (Q.setCell (Q.setCell (Ep.SU.here hS) (ad := ⟨b9, 0, none⟩) hWb (.bool gd)) (ad := ⟨b9, 1, none⟩) hWb (.slice a9 zd c9)) (ad := ⟨b9, 2, none⟩) hWb (.int .i64 sd)))
              have hl := Lst.setCell (Lst.setCell (Lst.setCell hx9 (ad := ⟨b9, 0, none⟩) (.bool gd) hne) (ad := ⟨b9, 1, none⟩) (.slice a9 zd c9) hne) (ad := ⟨b9, 2, none⟩) (.int .i64 sd) hne
              go_simp
              have hS2 := SQ.out _ hqW
              refine hK.out _ _ (by exact hS2) (fun hHeld => ?_)
              clear hK K hHeld hS
              have hS := hS2
              clear hS2 f0 f1 f2 f3 f4 f5
              try simp only [Act.put, List.setIfInBounds_toArray, List.set_cons_zero, List.set_cons_succ]
              refine wpAnyH_take (i := 16) (oi := { dst := some 13, op := Op.assign (Operand.tmp 71), type := 33, pos := "law.go:76", after := #[{ on := 13, ground := Ground.data }, { on := 15, ground := Ground.chain }, { on := 0, ground := Ground.phase }, { on := 1, ground := Ground.phase }, { on := 2, ground := Ground.phase }, { on := 3, ground := Ground.phase }, { on := 4, ground := Ground.phase }, { on := 5, ground := Ground.phase }, { on := 6, ground := Ground.phase }, { on := 7, ground := Ground.phase }, { on := 8, ground := Ground.phase }, { on := 9, ground := Ground.phase }, { on := 10, ground := Ground.phase }, { on := 11, ground := Ground.phase }, { on := 12, ground := Ground.phase }, { on := 13, ground := Ground.phase }, { on := 14, ground := Ground.phase }, { on := 15, ground := Ground.phase }], guard := none }) (v := ?vT5x41) rfl (by kernel_rfl) (by kernel_rfl) (by kernel_rfl) (fun _ _ _ h => h) (Or.inl ⟨by rfl, ?hyT5x41⟩) (by exact hS) ?rsT5x41
              case hyT5x41 => (intro w hSw; (try dsimp only at hSw); unfold Ep.SU at hSw; go_simp; try with_reducible rfl)
              try simp only [Act.put, List.setIfInBounds_toArray, List.set_cons_zero, List.set_cons_succ]
              refine wpAnyH_done (by kernel_rfl) ?_ _
              go_wp2_with fail
              go_meet
              exact ⟨b9, a9, c9, rfl, rfl, hset, hl, hqW⟩
          case rest =>
            obtain ⟨b8, a8, c8, rfl, rfl, hb8, hl8, hqc⟩ := hcut
            obtain ⟨w8, hw8⟩ : ∃ x, x = wc := ⟨_, rfl⟩
            subst hw8
            have HB8 := Lib.hid hb8
            have LZ8 := Lib.hid hl8
            clear SQ hb8 hl8
            have L63_E := Lib.hid (Lst.q L62_E.out hqc)
            clear L62_E
            have L63_F := Lib.hid (Lst.q L62_F.out hqc)
            clear L62_F
            have L63_Z6 := Lib.hid (Lst.q L62_Z6.out hqc)
            clear L62_Z6
            have L63_Z7 := Lib.hid (Lst.q LZ7.out hqc)
            clear LZ7
            have B63_b6 := Lib.hid ((Q.block hqc (lt_of_block B62_b6.out)).trans B62_b6.out)
            clear B62_b6
            have B63_b7 := Lib.hid ((Q.block hqc (lt_of_block HB7.out)).trans HB7.out)
            clear HB7
            have H63_X := Lib.hid ((Q.block hqc (lt_of_block H62_X.out)).trans H62_X.out)
            clear H62_X
            have H63_Y := Lib.hid ((Q.block hqc (lt_of_block H62_Y.out)).trans H62_Y.out)
            clear H62_Y
            have Q63 := Lib.hid (Q.trans Q62.out hqc)
            clear Q62
            clear hqc
            have SQ := Lib.hid (fun u (q : Q w8 u) => (by
              obtain ⟨x0, x1, x2⟩ := CX.out u ((Q.block q (lt_of_block H63_X.out)).trans H63_X.out)
              obtain ⟨x3, x4, x5⟩ := CY.out u ((Q.block q (lt_of_block H63_Y.out)).trans H63_Y.out)
              exact ⟨x0, x1, x2, x3, x4, x5, q⟩ : Ep.SU w8 X Y i g0 (.slice a n c) s g1 (.slice b m d) t u))
            go_upto_region 9 with fail
            go_cut [14, 15] from 28 to 131 (fun p e wx => ∃ b9 a9 c9, p = .pointer (some ⟨b9, 0, none⟩) ∧ e = .int .i64 er ∧ wx.heap[b9]? = some (.cells #[.bool gd, .slice a9 zd c9, .int .i64 sd] 24) ∧ Lst wx (.slice a9 zd c9) Zd ∧ Q w8 wx)
            case first =>
              refine wp_region_held_drew (S := fun u => Ep.SU w8 X Y i g0 (.slice a n c) s g1 (.slice b m d) t u) (by kernel_rfl) (by exact SQ.out _ ((Q.refl w8).drew)) (fun hHeld => ?_)
              have hS : Ep.SU w8 X Y i g0 (.slice a n c) s g1 (.slice b m d) t w8.drew := hHeld
              clear hHeld
              generalize w8.drew = yT6x0 at hS ⊢
              refine wpAnyH_take (i := 0) (oi := { dst := some 73, op := Op.move (Operand.tmp 5), type := 54, pos := "law.go:77", after := #[], guard := none }) (v := ?vT6x1) rfl (by kernel_rfl) (by kernel_rfl) (by kernel_rfl) (fun _ _ _ h => h) (Or.inl ⟨by rfl, ?hyT6x1⟩) (by exact hS) ?rsT6x1
              case hyT6x1 => (intro w hSw; (try dsimp only at hSw); unfold Ep.SU at hSw; go_simp; try with_reducible rfl)
              try simp only [Act.put, List.setIfInBounds_toArray, List.set_cons_zero, List.set_cons_succ]
              refine wpAnyH_take (i := 1) (oi := { dst := some 74, op := Op.move (Operand.tmp 7), type := 3, pos := "law.go:77", after := #[], guard := none }) (v := ?vT6x2) rfl (by kernel_rfl) (by kernel_rfl) (by kernel_rfl) (fun _ _ _ h => h) (Or.inl ⟨by rfl, ?hyT6x2⟩) (by exact hS) ?rsT6x2
              case hyT6x2 => (intro w hSw; (try dsimp only at hSw); unfold Ep.SU at hSw; go_simp; try with_reducible rfl)
              try simp only [Act.put, List.setIfInBounds_toArray, List.set_cons_zero, List.set_cons_succ]
              refine wpAnyH_take (i := 2) (oi := { dst := some 75, op := Op.indexAddr 54 (Operand.tmp 73) (Operand.tmp 74), type := 0, pos := "law.go:77", after := #[{ on := 0, ground := Ground.data }, { on := 1, ground := Ground.data }], guard := none }) (v := ?vT6x3) rfl (by kernel_rfl) (by kernel_rfl) (by kernel_rfl) (fun _ _ _ h => h) (Or.inl ⟨by rfl, ?hyT6x3⟩) (by exact hS) ?rsT6x3
              case hyT6x3 => (intro w hSw; (try dsimp only at hSw); unfold Ep.SU at hSw; go_simp; try with_reducible rfl)
              try simp only [Act.put, List.setIfInBounds_toArray, List.set_cons_zero, List.set_cons_succ]
              refine wpAnyH_take (i := 3) (oi := { dst := some 76, op := Op.load 24 (Operand.tmp 75), type := 24, pos := "law.go:77", after := #[{ on := 2, ground := Ground.data }], guard := none }) (v := ?vT6x4) rfl (by kernel_rfl) (by kernel_rfl) (by kernel_rfl) (fun _ _ _ h => h) (Or.inl ⟨by rfl, ?hyT6x4⟩) (by exact hS) ?rsT6x4
              case hyT6x4 => (intro w hSw; (try dsimp only at hSw); unfold Ep.SU at hSw; go_simp; try with_reducible rfl)
              try simp only [Act.put, List.setIfInBounds_toArray, List.set_cons_zero, List.set_cons_succ]
              refine wpAnyH_take (i := 4) (oi := { dst := some 77, op := Op.move (Operand.tmp 6), type := 54, pos := "law.go:77", after := #[], guard := none }) (v := ?vT6x5) rfl (by kernel_rfl) (by kernel_rfl) (by kernel_rfl) (fun _ _ _ h => h) (Or.inl ⟨by rfl, ?hyT6x5⟩) (by exact hS) ?rsT6x5
              case hyT6x5 => (intro w hSw; (try dsimp only at hSw); unfold Ep.SU at hSw; go_simp; try with_reducible rfl)
              try simp only [Act.put, List.setIfInBounds_toArray, List.set_cons_zero, List.set_cons_succ]
              refine wpAnyH_take (i := 5) (oi := { dst := some 78, op := Op.move (Operand.tmp 7), type := 3, pos := "law.go:77", after := #[], guard := none }) (v := ?vT6x6) rfl (by kernel_rfl) (by kernel_rfl) (by kernel_rfl) (fun _ _ _ h => h) (Or.inl ⟨by rfl, ?hyT6x6⟩) (by exact hS) ?rsT6x6
              case hyT6x6 => (intro w hSw; (try dsimp only at hSw); unfold Ep.SU at hSw; go_simp; try with_reducible rfl)
              try simp only [Act.put, List.setIfInBounds_toArray, List.set_cons_zero, List.set_cons_succ]
              refine wpAnyH_take (i := 6) (oi := { dst := some 79, op := Op.indexAddr 54 (Operand.tmp 77) (Operand.tmp 78), type := 0, pos := "law.go:77", after := #[{ on := 4, ground := Ground.data }, { on := 5, ground := Ground.data }], guard := none }) (v := ?vT6x7) rfl (by kernel_rfl) (by kernel_rfl) (by kernel_rfl) (fun _ _ _ h => h) (Or.inl ⟨by rfl, ?hyT6x7⟩) (by exact hS) ?rsT6x7
              case hyT6x7 => (intro w hSw; (try dsimp only at hSw); unfold Ep.SU at hSw; go_simp; try with_reducible rfl)
              try simp only [Act.put, List.setIfInBounds_toArray, List.set_cons_zero, List.set_cons_succ]
              refine wpAnyH_take (i := 7) (oi := { dst := some 80, op := Op.load 24 (Operand.tmp 79), type := 24, pos := "law.go:77", after := #[{ on := 6, ground := Ground.data }], guard := none }) (v := ?vT6x8) rfl (by kernel_rfl) (by kernel_rfl) (by kernel_rfl) (fun _ _ _ h => h) (Or.inl ⟨by rfl, ?hyT6x8⟩) (by exact hS) ?rsT6x8
              case hyT6x8 => (intro w hSw; (try dsimp only at hSw); unfold Ep.SU at hSw; go_simp; try with_reducible rfl)
              try simp only [Act.put, List.setIfInBounds_toArray, List.set_cons_zero, List.set_cons_succ]
              refine wpAnyH_ready (rs := [8, 13]) (by kernel_rfl) (by simp) ?_
              refine (AllReadyH.cons (o := { dst := some 81, op := Op.call { callee := Callee.value (Operand.func 35), args := #[Operand.tmp 80], argTypes := #[24] }, type := 24, pos := "law.go:77", after := #[{ on := 7, ground := Ground.data }], guard := none }) rfl (fun K hK => ?_) (AllReadyH.cons (o := { dst := some 14, op := Op.alloc 24, type := 0, pos := "law.go:77", after := #[], guard := none }) rfl (fun K hK => ?_) AllReadyH.nil))
              · go_simp
                refine (Ep.minus_sh _ _ _ HNH.out _ _ _ _).mono ?_
                rintro e yT6x9 ⟨rfl, hq⟩
                try (go_wp2_with fail)
                have hS2 := SQ.out _ (Q.trans (Ep.SU.here hS) hq)
                refine hK.out _ _ (by exact hS2) (fun hHeld => ?_)
                clear hK K hHeld hS hq
                have hS := hS2
                clear hS2
                try simp only [Act.put, List.setIfInBounds_toArray, List.set_cons_zero, List.set_cons_succ]
                refine wpAnyH_ready (rs := [9, 13]) (by kernel_rfl) (by simp) ?_
                refine (AllReadyH.cons (o := { dst := some 82, op := Op.call { callee := Callee.value (Operand.func 33), args := #[Operand.tmp 76, Operand.tmp 81], argTypes := #[24, 24] }, type := 36, pos := "law.go:77", after := #[{ on := 3, ground := Ground.data }, { on := 8, ground := Ground.data }, { on := 8, ground := Ground.chain }], guard := none }) rfl (fun K hK => ?_) (AllReadyH.cons (o := { dst := some 14, op := Op.alloc 24, type := 0, pos := "law.go:77", after := #[], guard := none }) rfl (fun K hK => ?_) AllReadyH.nil))
                · go_simp
                  refine (RS.out _ _ _ (L63_E.out.q (Ep.SU.here hS)) (L63_F.out.q (Ep.SU.here hS))).mono ?_
                  rintro e yT6x10 ⟨a9, c9, rfl, hx9, hq⟩
                  try (go_wp2_with fail)
                  have hlf := hx9
                  have hx9 := Ep.lf_lst hlf
                  clear hlf
                  have hS2 := SQ.out _ (Q.trans (Ep.SU.here hS) hq)
                  refine hK.out _ _ (by exact hS2) (fun hHeld => ?_)
                  clear hK K hHeld hS hq
                  have hS := hS2
                  clear hS2
                  try simp only [Act.put, List.setIfInBounds_toArray, List.set_cons_zero, List.set_cons_succ]
                  refine wpAnyH_take (i := 10) (oi := { dst := some 72, op := Op.move (Operand.tmp 82), type := 36, pos := "law.go:77", after := #[{ on := 9, ground := Ground.data }], guard := none }) (v := ?vT6x11) rfl (by kernel_rfl) (by kernel_rfl) (by kernel_rfl) (fun _ _ _ h => h) (Or.inl ⟨by rfl, ?hyT6x11⟩) (by exact hS) ?rsT6x11
                  case hyT6x11 => (intro w hSw; (try dsimp only at hSw); unfold Ep.SU at hSw; go_simp; try with_reducible rfl)
                  try simp only [Act.put, List.setIfInBounds_toArray, List.set_cons_zero, List.set_cons_succ]
                  refine wpAnyH_take (i := 11) (oi := { dst := some 83, op := Op.extract (Operand.tmp 72) 0, type := 24, pos := "law.go:77", after := #[{ on := 10, ground := Ground.data }], guard := none }) (v := ?vT6x12) rfl (by kernel_rfl) (by kernel_rfl) (by kernel_rfl) (fun _ _ _ h => h) (Or.inl ⟨by rfl, ?hyT6x12⟩) (by exact hS) ?rsT6x12
                  case hyT6x12 => (intro w hSw; (try dsimp only at hSw); unfold Ep.SU at hSw; go_simp; try with_reducible rfl)
                  try simp only [Act.put, List.setIfInBounds_toArray, List.set_cons_zero, List.set_cons_succ]
                  refine wpAnyH_take (i := 12) (oi := { dst := some 84, op := Op.extract (Operand.tmp 72) 1, type := 33, pos := "law.go:77", after := #[{ on := 10, ground := Ground.data }, { on := 14, ground := Ground.gcOnly Departure.lateStores }], guard := none }) (v := ?vT6x13) rfl (by kernel_rfl) (by kernel_rfl) (by kernel_rfl) (fun _ _ _ h => h) (Or.inl ⟨by rfl, ?hyT6x13⟩) (by exact hS) ?rsT6x13
                  case hyT6x13 => (intro w hSw; (try dsimp only at hSw); unfold Ep.SU at hSw; go_simp; try with_reducible rfl)
                  try simp only [Act.put, List.setIfInBounds_toArray, List.set_cons_zero, List.set_cons_succ]
                  refine wpAnyH_ready (rs := [13]) (by kernel_rfl) (by simp) ?_
                  refine (AllReadyH.cons (o := { dst := some 14, op := Op.alloc 24, type := 0, pos := "law.go:77", after := #[], guard := none }) rfl (fun K hK => ?_) AllReadyH.nil)
                  go_simp
                  have hq := (Q.refl yT6x10).alloc (.cells #[.bool false, .slice none 0 0, .int .i64 0] 24)
                  have hB := heap_alloc_new yT6x10 (.cells #[.bool false, .slice none 0 0, .int .i64 0] 24)
                  have hbu : yT6x10.heap.size < (yT6x10.alloc (.cells #[.bool false, .slice none 0 0, .int .i64 0] 24)).heap.size := by rw [World.size_alloc]; omega
                  have hWb := (Ep.SU.here hS).le
                  have hne_hx9 : ∀ (a : Addr) (n c : Nat), (.slice a9 zd c9 : Value) = .slice (some a) n c → n ≠ 0 → a.block ≠ yT6x10.heap.size := fun a n c h1 h2 => Nat.ne_of_lt (Lst.old hx9 a n c h1 h2)
                  have hx9 := Lst.q hx9 hq
                  have hS2 := SQ.out _ (Q.trans (Ep.SU.here hS) hq)
                  refine hK.out _ _ (by exact hS2) (fun hHeld => ?_)
                  clear hK K hHeld hS hq
                  have hS := hS2
                  clear hS2
                  generalize yT6x10.alloc (.cells #[.bool false, .slice none 0 0, .int .i64 0] 24) = yT6x14 at *
                  generalize yT6x10.heap.size = b9 at *
                  have hne := hne_hx9
                  try simp only [Act.put, List.setIfInBounds_toArray, List.set_cons_zero, List.set_cons_succ]
                  refine wpAnyH_ready (rs := [14]) (by kernel_rfl) (by simp) ?_
                  refine (AllReadyH.cons (o := { dst := none, op := Op.store 24 (Operand.tmp 14) (Operand.tmp 83), type := 0, pos := "law.go:77", after := #[{ on := 13, ground := Ground.data }, { on := 11, ground := Ground.data }, { on := 9, ground := Ground.chain }, { on := 0, ground := Ground.phase }, { on := 1, ground := Ground.phase }, { on := 2, ground := Ground.phase }, { on := 3, ground := Ground.phase }, { on := 4, ground := Ground.phase }, { on := 5, ground := Ground.phase }, { on := 6, ground := Ground.phase }, { on := 7, ground := Ground.phase }, { on := 8, ground := Ground.phase }, { on := 9, ground := Ground.phase }, { on := 10, ground := Ground.phase }, { on := 11, ground := Ground.phase }, { on := 12, ground := Ground.textOnly Departure.lateStores }, { on := 13, ground := Ground.phase }], guard := none }) rfl (fun K hK => ?_) AllReadyH.nil)
                  obtain ⟨f0, f1, f2, f3, f4, f5⟩ := Er.block_cells hB
                  have hset := Er.block_set (x' := .bool gd) (y' := .slice a9 zd c9) (z' := .int .i64 sd) hB
                  have hqW := ((Q.setCell (Q.setCell (Q.setCell (Ep.SU.here hS) (ad := ⟨b9, 0, none⟩) hWb (.bool gd)) (ad := ⟨b9, 1, none⟩) hWb (.slice a9 zd c9)) (ad := ⟨b9, 2, none⟩) hWb (.int .i64 sd)))
                  have hl := Lst.setCell (Lst.setCell (Lst.setCell hx9 (ad := ⟨b9, 0, none⟩) (.bool gd) hne) (ad := ⟨b9, 1, none⟩) (.slice a9 zd c9) hne) (ad := ⟨b9, 2, none⟩) (.int .i64 sd) hne
                  go_simp
                  have hS2 := SQ.out _ hqW
                  refine hK.out _ _ (by exact hS2) (fun hHeld => ?_)
                  clear hK K hHeld hS
                  have hS := hS2
                  clear hS2 f0 f1 f2 f3 f4 f5
                  try simp only [Act.put, List.setIfInBounds_toArray, List.set_cons_zero, List.set_cons_succ]
                  refine wpAnyH_take (i := 15) (oi := { dst := some 15, op := Op.assign (Operand.tmp 84), type := 33, pos := "law.go:77", after := #[{ on := 12, ground := Ground.data }, { on := 14, ground := Ground.chain }, { on := 0, ground := Ground.phase }, { on := 1, ground := Ground.phase }, { on := 2, ground := Ground.phase }, { on := 3, ground := Ground.phase }, { on := 4, ground := Ground.phase }, { on := 5, ground := Ground.phase }, { on := 6, ground := Ground.phase }, { on := 7, ground := Ground.phase }, { on := 8, ground := Ground.phase }, { on := 9, ground := Ground.phase }, { on := 10, ground := Ground.phase }, { on := 11, ground := Ground.phase }, { on := 12, ground := Ground.phase }, { on := 13, ground := Ground.phase }, { on := 14, ground := Ground.phase }], guard := none }) (v := ?vT6x16) rfl (by kernel_rfl) (by kernel_rfl) (by kernel_rfl) (fun _ _ _ h => h) (Or.inl ⟨by rfl, ?hyT6x16⟩) (by exact hS) ?rsT6x16
                  case hyT6x16 => (intro w hSw; (try dsimp only at hSw); unfold Ep.SU at hSw; go_simp; try with_reducible rfl)
                  try simp only [Act.put, List.setIfInBounds_toArray, List.set_cons_zero, List.set_cons_succ]
                  refine wpAnyH_done (by kernel_rfl) ?_ _
                  go_wp2_with fail
                  go_meet
                  exact ⟨b9, a9, c9, rfl, rfl, hset, hl, hqW⟩
                · go_simp
                  have hq := (Q.refl yT6x9).alloc (.cells #[.bool false, .slice none 0 0, .int .i64 0] 24)
                  have hB := heap_alloc_new yT6x9 (.cells #[.bool false, .slice none 0 0, .int .i64 0] 24)
                  have hbu : yT6x9.heap.size < (yT6x9.alloc (.cells #[.bool false, .slice none 0 0, .int .i64 0] 24)).heap.size := by rw [World.size_alloc]; omega
                  have hWb := (Ep.SU.here hS).le
                  have hS2 := SQ.out _ (Q.trans (Ep.SU.here hS) hq)
                  refine hK.out _ _ (by exact hS2) (fun hHeld => ?_)
                  clear hK K hHeld hS hq
                  have hS := hS2
                  clear hS2
                  generalize yT6x9.alloc (.cells #[.bool false, .slice none 0 0, .int .i64 0] 24) = yT6x17 at *
                  generalize yT6x9.heap.size = b9 at *
                  try simp only [Act.put, List.setIfInBounds_toArray, List.set_cons_zero, List.set_cons_succ]
                  refine wpAnyH_ready (rs := [9]) (by kernel_rfl) (by simp) ?_
                  refine (AllReadyH.cons (o := { dst := some 82, op := Op.call { callee := Callee.value (Operand.func 33), args := #[Operand.tmp 76, Operand.tmp 81], argTypes := #[24, 24] }, type := 36, pos := "law.go:77", after := #[{ on := 3, ground := Ground.data }, { on := 8, ground := Ground.data }, { on := 8, ground := Ground.chain }], guard := none }) rfl (fun K hK => ?_) AllReadyH.nil)
                  go_simp
                  refine (RS.out _ _ _ (L63_E.out.q (Ep.SU.here hS)) (L63_F.out.q (Ep.SU.here hS))).mono ?_
                  rintro e yT6x18 ⟨a9, c9, rfl, hx9, hq⟩
                  try (go_wp2_with fail)
                  have hB := (Q.block hq (lt_of_block hB)).trans hB
                  have hlf := hx9
                  have hx9 := Ep.lf_lst hlf
                  have hne : ∀ (a : Addr) (n c : Nat), (.slice a9 zd c9 : Value) = .slice (some a) n c → n ≠ 0 → a.block ≠ b9 := Ep.lf_ne hlf hbu
                  clear hlf
                  have hS2 := SQ.out _ (Q.trans (Ep.SU.here hS) hq)
                  have hbu := Nat.lt_of_lt_of_le hbu hq.le
                  refine hK.out _ _ (by exact hS2) (fun hHeld => ?_)
                  clear hK K hHeld hS hq
                  have hS := hS2
                  clear hS2
                  try simp only [Act.put, List.setIfInBounds_toArray, List.set_cons_zero, List.set_cons_succ]
                  refine wpAnyH_take (i := 10) (oi := { dst := some 72, op := Op.move (Operand.tmp 82), type := 36, pos := "law.go:77", after := #[{ on := 9, ground := Ground.data }], guard := none }) (v := ?vT6x19) rfl (by kernel_rfl) (by kernel_rfl) (by kernel_rfl) (fun _ _ _ h => h) (Or.inl ⟨by rfl, ?hyT6x19⟩) (by exact hS) ?rsT6x19
                  case hyT6x19 => (intro w hSw; (try dsimp only at hSw); unfold Ep.SU at hSw; go_simp; try with_reducible rfl)
                  try simp only [Act.put, List.setIfInBounds_toArray, List.set_cons_zero, List.set_cons_succ]
                  refine wpAnyH_take (i := 11) (oi := { dst := some 83, op := Op.extract (Operand.tmp 72) 0, type := 24, pos := "law.go:77", after := #[{ on := 10, ground := Ground.data }], guard := none }) (v := ?vT6x20) rfl (by kernel_rfl) (by kernel_rfl) (by kernel_rfl) (fun _ _ _ h => h) (Or.inl ⟨by rfl, ?hyT6x20⟩) (by exact hS) ?rsT6x20
                  case hyT6x20 => (intro w hSw; (try dsimp only at hSw); unfold Ep.SU at hSw; go_simp; try with_reducible rfl)
                  try simp only [Act.put, List.setIfInBounds_toArray, List.set_cons_zero, List.set_cons_succ]
                  refine wpAnyH_take (i := 12) (oi := { dst := some 84, op := Op.extract (Operand.tmp 72) 1, type := 33, pos := "law.go:77", after := #[{ on := 10, ground := Ground.data }, { on := 14, ground := Ground.gcOnly Departure.lateStores }], guard := none }) (v := ?vT6x21) rfl (by kernel_rfl) (by kernel_rfl) (by kernel_rfl) (fun _ _ _ h => h) (Or.inl ⟨by rfl, ?hyT6x21⟩) (by exact hS) ?rsT6x21
                  case hyT6x21 => (intro w hSw; (try dsimp only at hSw); unfold Ep.SU at hSw; go_simp; try with_reducible rfl)
                  try simp only [Act.put, List.setIfInBounds_toArray, List.set_cons_zero, List.set_cons_succ]
                  refine wpAnyH_ready (rs := [14]) (by kernel_rfl) (by simp) ?_
                  refine (AllReadyH.cons (o := { dst := none, op := Op.store 24 (Operand.tmp 14) (Operand.tmp 83), type := 0, pos := "law.go:77", after := #[{ on := 13, ground := Ground.data }, { on := 11, ground := Ground.data }, { on := 9, ground := Ground.chain }, { on := 0, ground := Ground.phase }, { on := 1, ground := Ground.phase }, { on := 2, ground := Ground.phase }, { on := 3, ground := Ground.phase }, { on := 4, ground := Ground.phase }, { on := 5, ground := Ground.phase }, { on := 6, ground := Ground.phase }, { on := 7, ground := Ground.phase }, { on := 8, ground := Ground.phase }, { on := 9, ground := Ground.phase }, { on := 10, ground := Ground.phase }, { on := 11, ground := Ground.phase }, { on := 12, ground := Ground.textOnly Departure.lateStores }, { on := 13, ground := Ground.phase }], guard := none }) rfl (fun K hK => ?_) AllReadyH.nil)
                  obtain ⟨f0, f1, f2, f3, f4, f5⟩ := Er.block_cells hB
                  have hset := Er.block_set (x' := .bool gd) (y' := .slice a9 zd c9) (z' := .int .i64 sd) hB
                  have hqW := ((Q.setCell (Q.setCell (Q.setCell (Ep.SU.here hS) (ad := ⟨b9, 0, none⟩) hWb (.bool gd)) (ad := ⟨b9, 1, none⟩) hWb (.slice a9 zd c9)) (ad := ⟨b9, 2, none⟩) hWb (.int .i64 sd)))
                  have hl := Lst.setCell (Lst.setCell (Lst.setCell hx9 (ad := ⟨b9, 0, none⟩) (.bool gd) hne) (ad := ⟨b9, 1, none⟩) (.slice a9 zd c9) hne) (ad := ⟨b9, 2, none⟩) (.int .i64 sd) hne
                  go_simp
                  have hS2 := SQ.out _ hqW
                  refine hK.out _ _ (by exact hS2) (fun hHeld => ?_)
                  clear hK K hHeld hS
                  have hS := hS2
                  clear hS2 f0 f1 f2 f3 f4 f5
                  try simp only [Act.put, List.setIfInBounds_toArray, List.set_cons_zero, List.set_cons_succ]
                  refine wpAnyH_take (i := 15) (oi := { dst := some 15, op := Op.assign (Operand.tmp 84), type := 33, pos := "law.go:77", after := #[{ on := 12, ground := Ground.data }, { on := 14, ground := Ground.chain }, { on := 0, ground := Ground.phase }, { on := 1, ground := Ground.phase }, { on := 2, ground := Ground.phase }, { on := 3, ground := Ground.phase }, { on := 4, ground := Ground.phase }, { on := 5, ground := Ground.phase }, { on := 6, ground := Ground.phase }, { on := 7, ground := Ground.phase }, { on := 8, ground := Ground.phase }, { on := 9, ground := Ground.phase }, { on := 10, ground := Ground.phase }, { on := 11, ground := Ground.phase }, { on := 12, ground := Ground.phase }, { on := 13, ground := Ground.phase }, { on := 14, ground := Ground.phase }], guard := none }) (v := ?vT6x23) rfl (by kernel_rfl) (by kernel_rfl) (by kernel_rfl) (fun _ _ _ h => h) (Or.inl ⟨by rfl, ?hyT6x23⟩) (by exact hS) ?rsT6x23
                  case hyT6x23 => (intro w hSw; (try dsimp only at hSw); unfold Ep.SU at hSw; go_simp; try with_reducible rfl)
                  try simp only [Act.put, List.setIfInBounds_toArray, List.set_cons_zero, List.set_cons_succ]
                  refine wpAnyH_done (by kernel_rfl) ?_ _
                  go_wp2_with fail
                  go_meet
                  exact ⟨b9, a9, c9, rfl, rfl, hset, hl, hqW⟩
              · go_simp
                have hq := (Q.refl yT6x0).alloc (.cells #[.bool false, .slice none 0 0, .int .i64 0] 24)
                have hB := heap_alloc_new yT6x0 (.cells #[.bool false, .slice none 0 0, .int .i64 0] 24)
                have hbu : yT6x0.heap.size < (yT6x0.alloc (.cells #[.bool false, .slice none 0 0, .int .i64 0] 24)).heap.size := by rw [World.size_alloc]; omega
                have hWb := (Ep.SU.here hS).le
                have hS2 := SQ.out _ (Q.trans (Ep.SU.here hS) hq)
                refine hK.out _ _ (by exact hS2) (fun hHeld => ?_)
                clear hK K hHeld hS hq
                have hS := hS2
                clear hS2
                generalize yT6x0.alloc (.cells #[.bool false, .slice none 0 0, .int .i64 0] 24) = yT6x24 at *
                generalize yT6x0.heap.size = b9 at *
                try simp only [Act.put, List.setIfInBounds_toArray, List.set_cons_zero, List.set_cons_succ]
                refine wpAnyH_ready (rs := [8]) (by kernel_rfl) (by simp) ?_
                refine (AllReadyH.cons (o := { dst := some 81, op := Op.call { callee := Callee.value (Operand.func 35), args := #[Operand.tmp 80], argTypes := #[24] }, type := 24, pos := "law.go:77", after := #[{ on := 7, ground := Ground.data }], guard := none }) rfl (fun K hK => ?_) AllReadyH.nil)
                go_simp
                refine (Ep.minus_sh _ _ _ HNH.out _ _ _ _).mono ?_
                rintro e yT6x25 ⟨rfl, hq⟩
                try (go_wp2_with fail)
                have hB := (Q.block hq (lt_of_block hB)).trans hB
                have hS2 := SQ.out _ (Q.trans (Ep.SU.here hS) hq)
                have hbu := Nat.lt_of_lt_of_le hbu hq.le
                refine hK.out _ _ (by exact hS2) (fun hHeld => ?_)
                clear hK K hHeld hS hq
                have hS := hS2
                clear hS2
                try simp only [Act.put, List.setIfInBounds_toArray, List.set_cons_zero, List.set_cons_succ]
                refine wpAnyH_ready (rs := [9]) (by kernel_rfl) (by simp) ?_
                refine (AllReadyH.cons (o := { dst := some 82, op := Op.call { callee := Callee.value (Operand.func 33), args := #[Operand.tmp 76, Operand.tmp 81], argTypes := #[24, 24] }, type := 36, pos := "law.go:77", after := #[{ on := 3, ground := Ground.data }, { on := 8, ground := Ground.data }, { on := 8, ground := Ground.chain }], guard := none }) rfl (fun K hK => ?_) AllReadyH.nil)
                go_simp
                refine (RS.out _ _ _ (L63_E.out.q (Ep.SU.here hS)) (L63_F.out.q (Ep.SU.here hS))).mono ?_
                rintro e yT6x26 ⟨a9, c9, rfl, hx9, hq⟩
                try (go_wp2_with fail)
                have hB := (Q.block hq (lt_of_block hB)).trans hB
                have hlf := hx9
                have hx9 := Ep.lf_lst hlf
                have hne : ∀ (a : Addr) (n c : Nat), (.slice a9 zd c9 : Value) = .slice (some a) n c → n ≠ 0 → a.block ≠ b9 := Ep.lf_ne hlf hbu
                clear hlf
                have hS2 := SQ.out _ (Q.trans (Ep.SU.here hS) hq)
                have hbu := Nat.lt_of_lt_of_le hbu hq.le
                refine hK.out _ _ (by exact hS2) (fun hHeld => ?_)
                clear hK K hHeld hS hq
                have hS := hS2
                clear hS2
                try simp only [Act.put, List.setIfInBounds_toArray, List.set_cons_zero, List.set_cons_succ]
                refine wpAnyH_take (i := 10) (oi := { dst := some 72, op := Op.move (Operand.tmp 82), type := 36, pos := "law.go:77", after := #[{ on := 9, ground := Ground.data }], guard := none }) (v := ?vT6x27) rfl (by kernel_rfl) (by kernel_rfl) (by kernel_rfl) (fun _ _ _ h => h) (Or.inl ⟨by rfl, ?hyT6x27⟩) (by exact hS) ?rsT6x27
                case hyT6x27 => (intro w hSw; (try dsimp only at hSw); unfold Ep.SU at hSw; go_simp; try with_reducible rfl)
                try simp only [Act.put, List.setIfInBounds_toArray, List.set_cons_zero, List.set_cons_succ]
                refine wpAnyH_take (i := 11) (oi := { dst := some 83, op := Op.extract (Operand.tmp 72) 0, type := 24, pos := "law.go:77", after := #[{ on := 10, ground := Ground.data }], guard := none }) (v := ?vT6x28) rfl (by kernel_rfl) (by kernel_rfl) (by kernel_rfl) (fun _ _ _ h => h) (Or.inl ⟨by rfl, ?hyT6x28⟩) (by exact hS) ?rsT6x28
                case hyT6x28 => (intro w hSw; (try dsimp only at hSw); unfold Ep.SU at hSw; go_simp; try with_reducible rfl)
                try simp only [Act.put, List.setIfInBounds_toArray, List.set_cons_zero, List.set_cons_succ]
                refine wpAnyH_take (i := 12) (oi := { dst := some 84, op := Op.extract (Operand.tmp 72) 1, type := 33, pos := "law.go:77", after := #[{ on := 10, ground := Ground.data }, { on := 14, ground := Ground.gcOnly Departure.lateStores }], guard := none }) (v := ?vT6x29) rfl (by kernel_rfl) (by kernel_rfl) (by kernel_rfl) (fun _ _ _ h => h) (Or.inl ⟨by rfl, ?hyT6x29⟩) (by exact hS) ?rsT6x29
                case hyT6x29 => (intro w hSw; (try dsimp only at hSw); unfold Ep.SU at hSw; go_simp; try with_reducible rfl)
                try simp only [Act.put, List.setIfInBounds_toArray, List.set_cons_zero, List.set_cons_succ]
                refine wpAnyH_ready (rs := [14]) (by kernel_rfl) (by simp) ?_
                refine (AllReadyH.cons (o := { dst := none, op := Op.store 24 (Operand.tmp 14) (Operand.tmp 83), type := 0, pos := "law.go:77", after := #[{ on := 13, ground := Ground.data }, { on := 11, ground := Ground.data }, { on := 9, ground := Ground.chain }, { on := 0, ground := Ground.phase }, { on := 1, ground := Ground.phase }, { on := 2, ground := Ground.phase }, { on := 3, ground := Ground.phase }, { on := 4, ground := Ground.phase }, { on := 5, ground := Ground.phase }, { on := 6, ground := Ground.phase }, { on := 7, ground := Ground.phase }, { on := 8, ground := Ground.phase }, { on := 9, ground := Ground.phase }, { on := 10, ground := Ground.phase }, { on := 11, ground := Ground.phase }, { on := 12, ground := Ground.textOnly Departure.lateStores }, { on := 13, ground := Ground.phase }], guard := none }) rfl (fun K hK => ?_) AllReadyH.nil)
                obtain ⟨f0, f1, f2, f3, f4, f5⟩ := Er.block_cells hB
                have hset := Er.block_set (x' := .bool gd) (y' := .slice a9 zd c9) (z' := .int .i64 sd) hB
                have hqW := ((Q.setCell (Q.setCell (Q.setCell (Ep.SU.here hS) (ad := ⟨b9, 0, none⟩) hWb (.bool gd)) (ad := ⟨b9, 1, none⟩) hWb (.slice a9 zd c9)) (ad := ⟨b9, 2, none⟩) hWb (.int .i64 sd)))
                have hl := Lst.setCell (Lst.setCell (Lst.setCell hx9 (ad := ⟨b9, 0, none⟩) (.bool gd) hne) (ad := ⟨b9, 1, none⟩) (.slice a9 zd c9) hne) (ad := ⟨b9, 2, none⟩) (.int .i64 sd) hne
                go_simp
                have hS2 := SQ.out _ hqW
                refine hK.out _ _ (by exact hS2) (fun hHeld => ?_)
                clear hK K hHeld hS
                have hS := hS2
                clear hS2 f0 f1 f2 f3 f4 f5
                try simp only [Act.put, List.setIfInBounds_toArray, List.set_cons_zero, List.set_cons_succ]
                refine wpAnyH_take (i := 15) (oi := { dst := some 15, op := Op.assign (Operand.tmp 84), type := 33, pos := "law.go:77", after := #[{ on := 12, ground := Ground.data }, { on := 14, ground := Ground.chain }, { on := 0, ground := Ground.phase }, { on := 1, ground := Ground.phase }, { on := 2, ground := Ground.phase }, { on := 3, ground := Ground.phase }, { on := 4, ground := Ground.phase }, { on := 5, ground := Ground.phase }, { on := 6, ground := Ground.phase }, { on := 7, ground := Ground.phase }, { on := 8, ground := Ground.phase }, { on := 9, ground := Ground.phase }, { on := 10, ground := Ground.phase }, { on := 11, ground := Ground.phase }, { on := 12, ground := Ground.phase }, { on := 13, ground := Ground.phase }, { on := 14, ground := Ground.phase }], guard := none }) (v := ?vT6x31) rfl (by kernel_rfl) (by kernel_rfl) (by kernel_rfl) (fun _ _ _ h => h) (Or.inl ⟨by rfl, ?hyT6x31⟩) (by exact hS) ?rsT6x31
                case hyT6x31 => (intro w hSw; (try dsimp only at hSw); unfold Ep.SU at hSw; go_simp; try with_reducible rfl)
                try simp only [Act.put, List.setIfInBounds_toArray, List.set_cons_zero, List.set_cons_succ]
                refine wpAnyH_done (by kernel_rfl) ?_ _
                go_wp2_with fail
                go_meet
                exact ⟨b9, a9, c9, rfl, rfl, hset, hl, hqW⟩
            case rest =>
              obtain ⟨b9, a9, c9, rfl, rfl, hb9, hl9, hqc⟩ := hcut
              obtain ⟨w9, hw9⟩ : ∃ x, x = wc := ⟨_, rfl⟩
              subst hw9
              have HB9 := Lib.hid hb9
              have LZ9 := Lib.hid hl9
              clear SQ hb9 hl9
              have L64_E := Lib.hid (Lst.q L63_E.out hqc)
              clear L63_E
              have L64_F := Lib.hid (Lst.q L63_F.out hqc)
              clear L63_F
              have L64_Z6 := Lib.hid (Lst.q L63_Z6.out hqc)
              clear L63_Z6
              have L64_Z7 := Lib.hid (Lst.q L63_Z7.out hqc)
              clear L63_Z7
              have L64_Z8 := Lib.hid (Lst.q LZ8.out hqc)
              clear LZ8
              have B64_b6 := Lib.hid ((Q.block hqc (lt_of_block B63_b6.out)).trans B63_b6.out)
              clear B63_b6
              have B64_b7 := Lib.hid ((Q.block hqc (lt_of_block B63_b7.out)).trans B63_b7.out)
              clear B63_b7
              have B64_b8 := Lib.hid ((Q.block hqc (lt_of_block HB8.out)).trans HB8.out)
              clear HB8
              have H64_X := Lib.hid ((Q.block hqc (lt_of_block H63_X.out)).trans H63_X.out)
              clear H63_X
              have H64_Y := Lib.hid ((Q.block hqc (lt_of_block H63_Y.out)).trans H63_Y.out)
              clear H63_Y
              have Q64 := Lib.hid (Q.trans Q63.out hqc)
              clear Q63
              clear hqc
              have SQ := Lib.hid (fun u (q : Q w9 u) => (by
                obtain ⟨y00, y01, y02, _, _, _⟩ := Er.block_cells ((Q.block q (lt_of_block B64_b6.out)).trans B64_b6.out)
                obtain ⟨y10, y11, y12, _, _, _⟩ := Er.block_cells ((Q.block q (lt_of_block B64_b7.out)).trans B64_b7.out)
                obtain ⟨y20, y21, y22, _, _, _⟩ := Er.block_cells ((Q.block q (lt_of_block B64_b8.out)).trans B64_b8.out)
                obtain ⟨y30, y31, y32, _, _, _⟩ := Er.block_cells ((Q.block q (lt_of_block HB9.out)).trans HB9.out)
                exact ⟨y00, y01, y02, y10, y11, y12, y20, y21, y22, y30, y31, y32, q⟩ : Ep.SB4 w9 b6 ga (.slice a6 za c6) sa b7 ga (.slice a7 za c7) sa b8 gd (.slice a8 zd c8) sd b9 gd (.slice a9 zd c9) sd u))
              go_wp2_with fail
              refine wp_region_held_drew (S := fun u => Ep.SB4 w9 b6 ga (.slice a6 za c6) sa b7 ga (.slice a7 za c7) sa b8 gd (.slice a8 zd c8) sd b9 gd (.slice a9 zd c9) sd u) (by kernel_rfl) (by exact SQ.out _ ((Q.refl w9).drew)) (fun hHeld => ?_)
              have hS : Ep.SB4 w9 b6 ga (.slice a6 za c6) sa b7 ga (.slice a7 za c7) sa b8 gd (.slice a8 zd c8) sd b9 gd (.slice a9 zd c9) sd w9.drew := hHeld
              clear hHeld
              generalize w9.drew = yT7x0 at hS ⊢
              refine wpAnyH_take (i := 0) (oi := { dst := some 85, op := Op.move (Operand.tmp 9), type := 33, pos := "law.go:78", after := #[], guard := none }) (v := ?vT7x1) rfl (by kernel_rfl) (by kernel_rfl) (by kernel_rfl) (fun _ _ _ h => h) (Or.inl ⟨by rfl, ?hyT7x1⟩) (by exact hS) ?rsT7x1
              case hyT7x1 => (intro w hSw; (try dsimp only at hSw); unfold Ep.SB4 at hSw; go_simp; try with_reducible rfl)
              try simp only [Act.put, List.setIfInBounds_toArray, List.set_cons_zero, List.set_cons_succ]
              refine wpAnyH_take (i := 1) (oi := { dst := some 86, op := Op.move (Operand.tmp 11), type := 33, pos := "law.go:78", after := #[], guard := none }) (v := ?vT7x2) rfl (by kernel_rfl) (by kernel_rfl) (by kernel_rfl) (fun _ _ _ h => h) (Or.inl ⟨by rfl, ?hyT7x2⟩) (by exact hS) ?rsT7x2
              case hyT7x2 => (intro w hSw; (try dsimp only at hSw); unfold Ep.SB4 at hSw; go_simp; try with_reducible rfl)
              try simp only [Act.put, List.setIfInBounds_toArray, List.set_cons_zero, List.set_cons_succ]
              refine wpAnyH_take (i := 2) (oi := { dst := some 87, op := Op.binOp BinOp.neq 33 (Operand.tmp 85) (Operand.tmp 86) 33, type := 4, pos := "law.go:78", after := #[{ on := 0, ground := Ground.data }, { on := 1, ground := Ground.data }], guard := none }) (v := ?vT7x3) rfl (by kernel_rfl) (by kernel_rfl) (by kernel_rfl) (fun _ _ _ h => h) (Or.inl ⟨by rfl, ?hyT7x3⟩) (by exact hS) ?rsT7x3
              case hyT7x3 => (intro w hSw; (try dsimp only at hSw); unfold Ep.SB4 at hSw; go_simp; try with_reducible rfl)
              try simp only [Act.put, List.setIfInBounds_toArray, List.set_cons_zero, List.set_cons_succ]
              refine wpAnyH_take (i := 3) (oi := { dst := some 88, op := Op.move (Operand.tmp 87), type := 4, pos := "law.go:78", after := #[{ on := 2, ground := Ground.data }], guard := none }) (v := ?vT7x4) rfl (by kernel_rfl) (by kernel_rfl) (by kernel_rfl) (fun _ _ _ h => h) (Or.inl ⟨by rfl, ?hyT7x4⟩) (by exact hS) ?rsT7x4
              case hyT7x4 => (intro w hSw; (try dsimp only at hSw); unfold Ep.SB4 at hSw; go_simp; try with_reducible rfl)
              try simp only [Act.put, List.setIfInBounds_toArray, List.set_cons_zero, List.set_cons_succ]
              refine wpAnyH_take (i := 4) (oi := { dst := some 89, op := Op.move (Operand.tmp 13), type := 33, pos := "law.go:78", after := #[{ on := 3, ground := Ground.guard }], guard := some (3, false) }) (v := ?vT7x5) rfl (by kernel_rfl) (by kernel_rfl) (by kernel_rfl) (fun _ _ _ h => h) (Or.inl ⟨by rfl, ?hyT7x5⟩) (by exact hS) ?rsT7x5
              case hyT7x5 => (intro w hSw; (try dsimp only at hSw); unfold Ep.SB4 at hSw; go_simp; try with_reducible rfl)
              try simp only [Act.put, List.setIfInBounds_toArray, List.set_cons_zero, List.set_cons_succ]
              refine wpAnyH_take (i := 5) (oi := { dst := some 90, op := Op.move (Operand.tmp 15), type := 33, pos := "law.go:78", after := #[{ on := 3, ground := Ground.guard }], guard := some (3, false) }) (v := ?vT7x6) rfl (by kernel_rfl) (by kernel_rfl) (by kernel_rfl) (fun _ _ _ h => h) (Or.inl ⟨by rfl, ?hyT7x6⟩) (by exact hS) ?rsT7x6
              case hyT7x6 => (intro w hSw; (try dsimp only at hSw); unfold Ep.SB4 at hSw; go_simp; try with_reducible rfl)
              try simp only [Act.put, List.setIfInBounds_toArray, List.set_cons_zero, List.set_cons_succ]
              refine wpAnyH_take (i := 6) (oi := { dst := some 91, op := Op.binOp BinOp.neq 33 (Operand.tmp 89) (Operand.tmp 90) 33, type := 4, pos := "law.go:78", after := #[{ on := 4, ground := Ground.data }, { on := 5, ground := Ground.data }, { on := 3, ground := Ground.guard }], guard := some (3, false) }) (v := ?vT7x7) rfl (by kernel_rfl) (by kernel_rfl) (by kernel_rfl) (fun _ _ _ h => h) (Or.inl ⟨by rfl, ?hyT7x7⟩) (by exact hS) ?rsT7x7
              case hyT7x7 => (intro w hSw; (try dsimp only at hSw); unfold Ep.SB4 at hSw; go_simp; try with_reducible rfl)
              try simp only [Act.put, List.setIfInBounds_toArray, List.set_cons_zero, List.set_cons_succ]
              refine wpAnyH_take (i := 7) (oi := { dst := some 92, op := Op.pick (Operand.tmp 88) (Operand.const (Value.bool true)) (Operand.tmp 91), type := 4, pos := "law.go:78", after := #[{ on := 3, ground := Ground.data }, { on := 6, ground := Ground.data }], guard := none }) (v := ?vT7x8) rfl (by kernel_rfl) (by kernel_rfl) (by kernel_rfl) (fun _ _ _ h => h) (Or.inl ⟨by rfl, ?hyT7x8⟩) (by exact hS) ?rsT7x8
              case hyT7x8 => (intro w hSw; (try dsimp only at hSw); unfold Ep.SB4 at hSw; go_simp; try with_reducible rfl)
              try simp only [Act.put, List.setIfInBounds_toArray, List.set_cons_zero, List.set_cons_succ]
              refine wpAnyH_take (i := 8) (oi := { dst := some 93, op := Op.move (Operand.tmp 92), type := 4, pos := "law.go:78", after := #[{ on := 7, ground := Ground.data }, { on := 3, ground := Ground.chain }], guard := none }) (v := ?vT7x9) rfl (by kernel_rfl) (by kernel_rfl) (by kernel_rfl) (fun _ _ _ h => h) (Or.inl ⟨by rfl, ?hyT7x9⟩) (by exact hS) ?rsT7x9
              case hyT7x9 => (intro w hSw; (try dsimp only at hSw); unfold Ep.SB4 at hSw; go_simp; try with_reducible rfl)
              try simp only [Act.put, List.setIfInBounds_toArray, List.set_cons_zero, List.set_cons_succ]
              refine wpAnyH_take (i := 9) (oi := { dst := some 94, op := Op.load 32 (Operand.tmp 8), type := 32, pos := "law.go:78", after := #[{ on := 8, ground := Ground.guard }], guard := some (8, false) }) (v := ?vT7x10) rfl (by kernel_rfl) (by kernel_rfl) (by kernel_rfl) (fun _ _ _ h => h) (Or.inl ⟨by rfl, ?hyT7x10⟩) (by exact hS) ?rsT7x10
              case hyT7x10 => (intro w hSw; (try dsimp only at hSw); unfold Ep.SB4 at hSw; go_simp; try with_reducible rfl)
              try simp only [Act.put, List.setIfInBounds_toArray, List.set_cons_zero, List.set_cons_succ]
              refine wpAnyH_take (i := 11) (oi := { dst := some 96, op := Op.load 24 (Operand.tmp 10), type := 24, pos := "law.go:78", after := #[{ on := 8, ground := Ground.guard }], guard := some (8, false) }) (v := ?vT7x11) rfl (by kernel_rfl) (by kernel_rfl) (by kernel_rfl) (fun _ _ _ h => h) (Or.inl ⟨by rfl, ?hyT7x11⟩) (by exact hS) ?rsT7x11
              case hyT7x11 => (intro w hSw; (try dsimp only at hSw); unfold Ep.SB4 at hSw; go_simp; try with_reducible rfl)
              try simp only [Act.put, List.setIfInBounds_toArray, List.set_cons_zero, List.set_cons_succ]
              refine wpAnyH_ready (rs := [10]) (by kernel_rfl) (by simp) ?_
              refine (AllReadyH.cons (o := { dst := some 95, op := Op.call { callee := Callee.value (Operand.func 19), args := #[Operand.tmp 94], argTypes := #[32] }, type := 24, pos := "law.go:78", after := #[{ on := 9, ground := Ground.data }, { on := 8, ground := Ground.chain }, { on := 8, ground := Ground.guard }], guard := some (8, false) }) rfl (fun K hK => ?_) AllReadyH.nil)
              go_simp
              refine (Ep.as_sh _ _ _ _ _ _).mono ?_
              rintro e yT7x12 ⟨rfl, hq⟩
              try (go_wp2_with fail)
              have hS2 := SQ.out _ (Q.trans (Ep.SB4.here hS) hq)
              refine hK.out _ _ (by exact hS2) (fun hHeld => ?_)
              clear hK K hHeld hS hq
              have hS := hS2
              clear hS2
              try simp only [Act.put, List.setIfInBounds_toArray, List.set_cons_zero, List.set_cons_succ]
              refine wpAnyH_ready (rs := [12]) (by kernel_rfl) (by simp) ?_
              refine (AllReadyH.cons (o := { dst := some 97, op := Op.call { callee := Callee.value (Operand.func 18), args := #[Operand.tmp 95, Operand.tmp 96], argTypes := #[24, 24] }, type := 4, pos := "law.go:78", after := #[{ on := 10, ground := Ground.data }, { on := 11, ground := Ground.data }, { on := 10, ground := Ground.chain }, { on := 8, ground := Ground.guard }], guard := some (8, false) }) rfl (fun K hK => ?_) AllReadyH.nil)
              go_simp
              refine (Ep.same_sh _ _ _ _ _ _ _ _ _ (L64_Z6.out.q (Ep.SB4.here hS)) (L64_Z7.out.q (Ep.SB4.here hS)) (by have := HZA.out; omega)).mono ?_
              rintro e yT7x13 ⟨rfl, hq⟩
              try (go_wp2_with fail)
              have hS2 := SQ.out _ (Q.trans (Ep.SB4.here hS) hq)
              refine hK.out _ _ (by exact hS2) (fun hHeld => ?_)
              clear hK K hHeld hS hq
              have hS := hS2
              clear hS2
              try simp only [Act.put, List.setIfInBounds_toArray, List.set_cons_zero, List.set_cons_succ]
              refine wpAnyH_take (i := 13) (oi := { dst := some 98, op := Op.unOp UnOp.not 4 (Operand.tmp 97), type := 4, pos := "law.go:78", after := #[{ on := 12, ground := Ground.data }, { on := 8, ground := Ground.guard }], guard := some (8, false) }) (v := ?vT7x14) rfl (by kernel_rfl) (by kernel_rfl) (by kernel_rfl) (fun _ _ _ h => h) (Or.inl ⟨by rfl, ?hyT7x14⟩) (by exact hS) ?rsT7x14
              case hyT7x14 => (intro w hSw; (try dsimp only at hSw); unfold Ep.SB4 at hSw; go_simp; try with_reducible rfl)
              try simp only [Act.put, List.setIfInBounds_toArray, List.set_cons_zero, List.set_cons_succ]
              refine wpAnyH_take (i := 14) (oi := { dst := some 99, op := Op.pick (Operand.tmp 93) (Operand.const (Value.bool true)) (Operand.tmp 98), type := 4, pos := "law.go:78", after := #[{ on := 8, ground := Ground.data }, { on := 13, ground := Ground.data }], guard := none }) (v := ?vT7x15) rfl (by kernel_rfl) (by kernel_rfl) (by kernel_rfl) (fun _ _ _ h => h) (Or.inl ⟨by rfl, ?hyT7x15⟩) (by exact hS) ?rsT7x15
              case hyT7x15 => (intro w hSw; (try dsimp only at hSw); unfold Ep.SB4 at hSw; go_simp; try with_reducible rfl)
              try simp only [Act.put, List.setIfInBounds_toArray, List.set_cons_zero, List.set_cons_succ]
              refine wpAnyH_take (i := 15) (oi := { dst := some 100, op := Op.move (Operand.tmp 99), type := 4, pos := "law.go:78", after := #[{ on := 14, ground := Ground.data }, { on := 12, ground := Ground.chain }], guard := none }) (v := ?vT7x16) rfl (by kernel_rfl) (by kernel_rfl) (by kernel_rfl) (fun _ _ _ h => h) (Or.inl ⟨by rfl, ?hyT7x16⟩) (by exact hS) ?rsT7x16
              case hyT7x16 => (intro w hSw; (try dsimp only at hSw); unfold Ep.SB4 at hSw; go_simp; try with_reducible rfl)
              try simp only [Act.put, List.setIfInBounds_toArray, List.set_cons_zero, List.set_cons_succ]
              refine wpAnyH_take (i := 16) (oi := { dst := some 101, op := Op.load 32 (Operand.tmp 12), type := 32, pos := "law.go:78", after := #[{ on := 15, ground := Ground.guard }], guard := some (15, false) }) (v := ?vT7x17) rfl (by kernel_rfl) (by kernel_rfl) (by kernel_rfl) (fun _ _ _ h => h) (Or.inl ⟨by rfl, ?hyT7x17⟩) (by exact hS) ?rsT7x17
              case hyT7x17 => (intro w hSw; (try dsimp only at hSw); unfold Ep.SB4 at hSw; go_simp; try with_reducible rfl)
              try simp only [Act.put, List.setIfInBounds_toArray, List.set_cons_zero, List.set_cons_succ]
              refine wpAnyH_take (i := 18) (oi := { dst := some 103, op := Op.load 24 (Operand.tmp 14), type := 24, pos := "law.go:78", after := #[{ on := 15, ground := Ground.guard }], guard := some (15, false) }) (v := ?vT7x18) rfl (by kernel_rfl) (by kernel_rfl) (by kernel_rfl) (fun _ _ _ h => h) (Or.inl ⟨by rfl, ?hyT7x18⟩) (by exact hS) ?rsT7x18
              case hyT7x18 => (intro w hSw; (try dsimp only at hSw); unfold Ep.SB4 at hSw; go_simp; try with_reducible rfl)
              try simp only [Act.put, List.setIfInBounds_toArray, List.set_cons_zero, List.set_cons_succ]
              refine wpAnyH_ready (rs := [17]) (by kernel_rfl) (by simp) ?_
              refine (AllReadyH.cons (o := { dst := some 102, op := Op.call { callee := Callee.value (Operand.func 19), args := #[Operand.tmp 101], argTypes := #[32] }, type := 24, pos := "law.go:78", after := #[{ on := 16, ground := Ground.data }, { on := 15, ground := Ground.chain }, { on := 15, ground := Ground.guard }], guard := some (15, false) }) rfl (fun K hK => ?_) AllReadyH.nil)
              go_simp
              refine (Ep.as_sh _ _ _ _ _ _).mono ?_
              rintro e yT7x19 ⟨rfl, hq⟩
              try (go_wp2_with fail)
              have hS2 := SQ.out _ (Q.trans (Ep.SB4.here hS) hq)
              refine hK.out _ _ (by exact hS2) (fun hHeld => ?_)
              clear hK K hHeld hS hq
              have hS := hS2
              clear hS2
              try simp only [Act.put, List.setIfInBounds_toArray, List.set_cons_zero, List.set_cons_succ]
              refine wpAnyH_ready (rs := [19]) (by kernel_rfl) (by simp) ?_
              refine (AllReadyH.cons (o := { dst := some 104, op := Op.call { callee := Callee.value (Operand.func 18), args := #[Operand.tmp 102, Operand.tmp 103], argTypes := #[24, 24] }, type := 4, pos := "law.go:78", after := #[{ on := 17, ground := Ground.data }, { on := 18, ground := Ground.data }, { on := 17, ground := Ground.chain }, { on := 15, ground := Ground.guard }], guard := some (15, false) }) rfl (fun K hK => ?_) AllReadyH.nil)
              go_simp
              refine (Ep.same_sh _ _ _ _ _ _ _ _ _ (L64_Z8.out.q (Ep.SB4.here hS)) (LZ9.out.q (Ep.SB4.here hS)) (by have := HZD.out; omega)).mono ?_
              rintro e yT7x20 ⟨rfl, hq⟩
              try (go_wp2_with fail)
              have hS2 := SQ.out _ (Q.trans (Ep.SB4.here hS) hq)
              refine hK.out _ _ (by exact hS2) (fun hHeld => ?_)
              clear hK K hHeld hS hq
              have hS := hS2
              clear hS2
              try simp only [Act.put, List.setIfInBounds_toArray, List.set_cons_zero, List.set_cons_succ]
              refine wpAnyH_take (i := 20) (oi := { dst := some 105, op := Op.unOp UnOp.not 4 (Operand.tmp 104), type := 4, pos := "law.go:78", after := #[{ on := 19, ground := Ground.data }, { on := 15, ground := Ground.guard }], guard := some (15, false) }) (v := ?vT7x21) rfl (by kernel_rfl) (by kernel_rfl) (by kernel_rfl) (fun _ _ _ h => h) (Or.inl ⟨by rfl, ?hyT7x21⟩) (by exact hS) ?rsT7x21
              case hyT7x21 => (intro w hSw; (try dsimp only at hSw); unfold Ep.SB4 at hSw; go_simp; try with_reducible rfl)
              try simp only [Act.put, List.setIfInBounds_toArray, List.set_cons_zero, List.set_cons_succ]
              refine wpAnyH_take (i := 21) (oi := { dst := some 106, op := Op.pick (Operand.tmp 100) (Operand.const (Value.bool true)) (Operand.tmp 105), type := 4, pos := "law.go:78", after := #[{ on := 15, ground := Ground.data }, { on := 20, ground := Ground.data }], guard := none }) (v := ?vT7x22) rfl (by kernel_rfl) (by kernel_rfl) (by kernel_rfl) (fun _ _ _ h => h) (Or.inl ⟨by rfl, ?hyT7x22⟩) (by exact hS) ?rsT7x22
              case hyT7x22 => (intro w hSw; (try dsimp only at hSw); unfold Ep.SB4 at hSw; go_simp; try with_reducible rfl)
              try simp only [Act.put, List.setIfInBounds_toArray, List.set_cons_zero, List.set_cons_succ]
              refine wpAnyH_done (by kernel_rfl) ?_ _
              have hqr := Ep.SB4.here hS
              clear hS SQ
              have L65_E := Lib.hid (Lst.q L64_E.out hqr)
              clear L64_E
              have L65_F := Lib.hid (Lst.q L64_F.out hqr)
              clear L64_F
              have L65_Z6 := Lib.hid (Lst.q L64_Z6.out hqr)
              clear L64_Z6
              have L65_Z7 := Lib.hid (Lst.q L64_Z7.out hqr)
              clear L64_Z7
              have L65_Z8 := Lib.hid (Lst.q L64_Z8.out hqr)
              clear L64_Z8
              have L65_Z9 := Lib.hid (Lst.q LZ9.out hqr)
              clear LZ9
              have B65_b6 := Lib.hid ((Q.block hqr (lt_of_block B64_b6.out)).trans B64_b6.out)
              clear B64_b6
              have B65_b7 := Lib.hid ((Q.block hqr (lt_of_block B64_b7.out)).trans B64_b7.out)
              clear B64_b7
              have B65_b8 := Lib.hid ((Q.block hqr (lt_of_block B64_b8.out)).trans B64_b8.out)
              clear B64_b8
              have B65_b9 := Lib.hid ((Q.block hqr (lt_of_block HB9.out)).trans HB9.out)
              clear HB9
              have H65_X := Lib.hid ((Q.block hqr (lt_of_block H64_X.out)).trans H64_X.out)
              clear H64_X
              have H65_Y := Lib.hid ((Q.block hqr (lt_of_block H64_Y.out)).trans H64_Y.out)
              clear H64_Y
              have Q65 := Lib.hid (Q.trans Q64.out hqr)
              clear Q64
              clear hqr
              rcases HBK.out with he | ⟨he, gb, Zb, sb, pb, rt, hzb⟩
              · have hed : decide (er = 0) = false := by simp [he]
                have hee : (er == 0) = false := by simp [he]
                have hen : (er != 0) = true := by simp [he]
                go_wp2_with fail
                exact ⟨⟨i + 1, by go_num, by omega, H65_X.out, H65_Y.out, Q65.out⟩, by simp [intOf]; omega⟩
              · subst he
                obtain ⟨zb, hzbe⟩ : ∃ z, Zb.length = z := ⟨_, rfl⟩
                unfold Ep.F2 at pb
                unfold Ep.F0 at rt
                simp only [hzbe] at pb rt
                have PB := Lib.hid pb
                have RT := Lib.hid rt
                have HZB := Lib.hid hzb
                clear pb rt hzb hzbe HBK
                have SQ := Lib.hid (fun u (q : Q yT7x20 u) => (by
                  obtain ⟨x0, x1, x2⟩ := CX.out u ((Q.block q (lt_of_block H65_X.out)).trans H65_X.out)
                  obtain ⟨x3, x4, x5⟩ := CY.out u ((Q.block q (lt_of_block H65_Y.out)).trans H65_Y.out)
                  obtain ⟨x6, x7, x8, _, _, _⟩ := Er.block_cells ((Q.block q (lt_of_block B65_b6.out)).trans B65_b6.out)
                  exact ⟨x0, x1, x2, x3, x4, x5, x6, x7, x8, q⟩ : Ep.SV yT7x20 X Y i g0 (.slice a n c) s g1 (.slice b m d) t b6 ga (.slice a6 za c6) sa u))
                go_upto_region 13 with fail
                go_cut [16, 17] from 28 to 131 (fun p e wx => ∃ b9 a9 c9, p = .pointer (some ⟨b9, 0, none⟩) ∧ e = .int .i64 0 ∧ wx.heap[b9]? = some (.cells #[.bool gb, .slice a9 zb c9, .int .i64 sb] 32) ∧ Lst wx (.slice a9 zb c9) Zb ∧ Q yT7x20 wx)
                case first =>
                  refine wp_region_held_drew (S := fun u => Ep.SV yT7x20 X Y i g0 (.slice a n c) s g1 (.slice b m d) t b6 ga (.slice a6 za c6) sa u) (by kernel_rfl) (by exact SQ.out _ ((Q.refl yT7x20).drew)) (fun hHeld => ?_)
                  have hS : Ep.SV yT7x20 X Y i g0 (.slice a n c) s g1 (.slice b m d) t b6 ga (.slice a6 za c6) sa yT7x20.drew := hHeld
                  clear hHeld
                  generalize yT7x20.drew = yT8x0 at hS ⊢
                  refine wpAnyH_take (i := 0) (oi := { dst := some 110, op := Op.load 32 (Operand.tmp 8), type := 32, pos := "law.go:84", after := #[], guard := none }) (v := ?vT8x1) rfl (by kernel_rfl) (by kernel_rfl) (by kernel_rfl) (fun _ _ _ h => h) (Or.inl ⟨by rfl, ?hyT8x1⟩) (by exact hS) ?rsT8x1
                  case hyT8x1 => (intro w hSw; (try dsimp only at hSw); unfold Ep.SV at hSw; go_simp; try with_reducible rfl)
                  try simp only [Act.put, List.setIfInBounds_toArray, List.set_cons_zero, List.set_cons_succ]
                  refine wpAnyH_take (i := 1) (oi := { dst := some 111, op := Op.move (Operand.tmp 6), type := 54, pos := "law.go:84", after := #[], guard := none }) (v := ?vT8x2) rfl (by kernel_rfl) (by kernel_rfl) (by kernel_rfl) (fun _ _ _ h => h) (Or.inl ⟨by rfl, ?hyT8x2⟩) (by exact hS) ?rsT8x2
                  case hyT8x2 => (intro w hSw; (try dsimp only at hSw); unfold Ep.SV at hSw; go_simp; try with_reducible rfl)
                  try simp only [Act.put, List.setIfInBounds_toArray, List.set_cons_zero, List.set_cons_succ]
                  refine wpAnyH_take (i := 2) (oi := { dst := some 112, op := Op.move (Operand.tmp 7), type := 3, pos := "law.go:84", after := #[], guard := none }) (v := ?vT8x3) rfl (by kernel_rfl) (by kernel_rfl) (by kernel_rfl) (fun _ _ _ h => h) (Or.inl ⟨by rfl, ?hyT8x3⟩) (by exact hS) ?rsT8x3
                  case hyT8x3 => (intro w hSw; (try dsimp only at hSw); unfold Ep.SV at hSw; go_simp; try with_reducible rfl)
                  try simp only [Act.put, List.setIfInBounds_toArray, List.set_cons_zero, List.set_cons_succ]
                  refine wpAnyH_take (i := 3) (oi := { dst := some 113, op := Op.indexAddr 54 (Operand.tmp 111) (Operand.tmp 112), type := 0, pos := "law.go:84", after := #[{ on := 1, ground := Ground.data }, { on := 2, ground := Ground.data }], guard := none }) (v := ?vT8x4) rfl (by kernel_rfl) (by kernel_rfl) (by kernel_rfl) (fun _ _ _ h => h) (Or.inl ⟨by rfl, ?hyT8x4⟩) (by exact hS) ?rsT8x4
                  case hyT8x4 => (intro w hSw; (try dsimp only at hSw); unfold Ep.SV at hSw; go_simp; try with_reducible rfl)
                  try simp only [Act.put, List.setIfInBounds_toArray, List.set_cons_zero, List.set_cons_succ]
                  refine wpAnyH_take (i := 4) (oi := { dst := some 114, op := Op.load 24 (Operand.tmp 113), type := 24, pos := "law.go:84", after := #[{ on := 3, ground := Ground.data }], guard := none }) (v := ?vT8x5) rfl (by kernel_rfl) (by kernel_rfl) (by kernel_rfl) (fun _ _ _ h => h) (Or.inl ⟨by rfl, ?hyT8x5⟩) (by exact hS) ?rsT8x5
                  case hyT8x5 => (intro w hSw; (try dsimp only at hSw); unfold Ep.SV at hSw; go_simp; try with_reducible rfl)
                  try simp only [Act.put, List.setIfInBounds_toArray, List.set_cons_zero, List.set_cons_succ]
                  refine wpAnyH_ready (rs := [5, 10]) (by kernel_rfl) (by simp) ?_
                  refine (AllReadyH.cons (o := { dst := some 115, op := Op.call { callee := Callee.value (Operand.func 22), args := #[Operand.tmp 114], argTypes := #[24] }, type := 32, pos := "law.go:84", after := #[{ on := 4, ground := Ground.data }], guard := none }) rfl (fun K hK => ?_) (AllReadyH.cons (o := { dst := some 16, op := Op.alloc 32, type := 0, pos := "law.go:84", after := #[], guard := none }) rfl (fun K hK => ?_) AllReadyH.nil))
                  · go_simp
                    refine (Ep.of_sh _ _ _ _ _ _).mono ?_
                    rintro e yT8x6 ⟨rfl, hq⟩
                    try (go_wp2_with fail)
                    have hS2 := SQ.out _ (Q.trans (Ep.SV.here hS) hq)
                    refine hK.out _ _ (by exact hS2) (fun hHeld => ?_)
                    clear hK K hHeld hS hq
                    have hS := hS2
                    clear hS2
                    try simp only [Act.put, List.setIfInBounds_toArray, List.set_cons_zero, List.set_cons_succ]
                    refine wpAnyH_ready (rs := [6, 10]) (by kernel_rfl) (by simp) ?_
                    refine (AllReadyH.cons (o := { dst := some 116, op := Op.call { callee := Callee.value (Operand.func 34), args := #[Operand.tmp 110, Operand.tmp 115], argTypes := #[32, 32] }, type := 34, pos := "law.go:84", after := #[{ on := 0, ground := Ground.data }, { on := 5, ground := Ground.data }, { on := 5, ground := Ground.chain }], guard := none }) rfl (fun K hK => ?_) (AllReadyH.cons (o := { dst := some 16, op := Op.alloc 32, type := 0, pos := "law.go:84", after := #[], guard := none }) rfl (fun K hK => ?_) AllReadyH.nil))
                    · go_simp
                      refine (PB.out _ _ _ (L65_Z6.out.q (Ep.SV.here hS)) (L65_F.out.q (Ep.SV.here hS))).mono ?_
                      rintro e yT8x7 ⟨a9, c9, rfl, hx9, hq⟩
                      try (go_wp2_with fail)
                      have hlf := hx9
                      have hx9 := Ep.lf_lst hlf
                      clear hlf
                      have hS2 := SQ.out _ (Q.trans (Ep.SV.here hS) hq)
                      refine hK.out _ _ (by exact hS2) (fun hHeld => ?_)
                      clear hK K hHeld hS hq
                      have hS := hS2
                      clear hS2
                      try simp only [Act.put, List.setIfInBounds_toArray, List.set_cons_zero, List.set_cons_succ]
                      refine wpAnyH_take (i := 7) (oi := { dst := some 109, op := Op.move (Operand.tmp 116), type := 34, pos := "law.go:84", after := #[{ on := 6, ground := Ground.data }], guard := none }) (v := ?vT8x8) rfl (by kernel_rfl) (by kernel_rfl) (by kernel_rfl) (fun _ _ _ h => h) (Or.inl ⟨by rfl, ?hyT8x8⟩) (by exact hS) ?rsT8x8
                      case hyT8x8 => (intro w hSw; (try dsimp only at hSw); unfold Ep.SV at hSw; go_simp; try with_reducible rfl)
                      try simp only [Act.put, List.setIfInBounds_toArray, List.set_cons_zero, List.set_cons_succ]
                      refine wpAnyH_take (i := 8) (oi := { dst := some 117, op := Op.extract (Operand.tmp 109) 0, type := 32, pos := "law.go:84", after := #[{ on := 7, ground := Ground.data }], guard := none }) (v := ?vT8x9) rfl (by kernel_rfl) (by kernel_rfl) (by kernel_rfl) (fun _ _ _ h => h) (Or.inl ⟨by rfl, ?hyT8x9⟩) (by exact hS) ?rsT8x9
                      case hyT8x9 => (intro w hSw; (try dsimp only at hSw); unfold Ep.SV at hSw; go_simp; try with_reducible rfl)
                      try simp only [Act.put, List.setIfInBounds_toArray, List.set_cons_zero, List.set_cons_succ]
                      refine wpAnyH_take (i := 9) (oi := { dst := some 118, op := Op.extract (Operand.tmp 109) 1, type := 33, pos := "law.go:84", after := #[{ on := 7, ground := Ground.data }, { on := 11, ground := Ground.gcOnly Departure.lateStores }], guard := none }) (v := ?vT8x10) rfl (by kernel_rfl) (by kernel_rfl) (by kernel_rfl) (fun _ _ _ h => h) (Or.inl ⟨by rfl, ?hyT8x10⟩) (by exact hS) ?rsT8x10
                      case hyT8x10 => (intro w hSw; (try dsimp only at hSw); unfold Ep.SV at hSw; go_simp; try with_reducible rfl)
                      try simp only [Act.put, List.setIfInBounds_toArray, List.set_cons_zero, List.set_cons_succ]
                      refine wpAnyH_ready (rs := [10]) (by kernel_rfl) (by simp) ?_
                      refine (AllReadyH.cons (o := { dst := some 16, op := Op.alloc 32, type := 0, pos := "law.go:84", after := #[], guard := none }) rfl (fun K hK => ?_) AllReadyH.nil)
                      go_simp
                      have hq := (Q.refl yT8x7).alloc (.cells #[.bool false, .slice none 0 0, .int .i64 0] 32)
                      have hB := heap_alloc_new yT8x7 (.cells #[.bool false, .slice none 0 0, .int .i64 0] 32)
                      have hbu : yT8x7.heap.size < (yT8x7.alloc (.cells #[.bool false, .slice none 0 0, .int .i64 0] 32)).heap.size := by rw [World.size_alloc]; omega
                      have hWb := (Ep.SV.here hS).le
                      have hne_hx9 : ∀ (a : Addr) (n c : Nat), (.slice a9 zb c9 : Value) = .slice (some a) n c → n ≠ 0 → a.block ≠ yT8x7.heap.size := fun a n c h1 h2 => Nat.ne_of_lt (Lst.old hx9 a n c h1 h2)
                      have hx9 := Lst.q hx9 hq
                      have hS2 := SQ.out _ (Q.trans (Ep.SV.here hS) hq)
                      refine hK.out _ _ (by exact hS2) (fun hHeld => ?_)
                      clear hK K hHeld hS hq
                      have hS := hS2
                      clear hS2
                      generalize yT8x7.alloc (.cells #[.bool false, .slice none 0 0, .int .i64 0] 32) = yT8x11 at *
                      generalize yT8x7.heap.size = b9 at *
                      have hne := hne_hx9
                      try simp only [Act.put, List.setIfInBounds_toArray, List.set_cons_zero, List.set_cons_succ]
                      refine wpAnyH_ready (rs := [11]) (by kernel_rfl) (by simp) ?_
                      refine (AllReadyH.cons (o := { dst := none, op := Op.store 32 (Operand.tmp 16) (Operand.tmp 117), type := 0, pos := "law.go:84", after := #[{ on := 10, ground := Ground.data }, { on := 8, ground := Ground.data }, { on := 6, ground := Ground.chain }, { on := 0, ground := Ground.phase }, { on := 1, ground := Ground.phase }, { on := 2, ground := Ground.phase }, { on := 3, ground := Ground.phase }, { on := 4, ground := Ground.phase }, { on := 5, ground := Ground.phase }, { on := 6, ground := Ground.phase }, { on := 7, ground := Ground.phase }, { on := 8, ground := Ground.phase }, { on := 9, ground := Ground.textOnly Departure.lateStores }, { on := 10, ground := Ground.phase }], guard := none }) rfl (fun K hK => ?_) AllReadyH.nil)
                      obtain ⟨f0, f1, f2, f3, f4, f5⟩ := Er.block_cells hB
                      have hset := Er.block_set (x' := .bool gb) (y' := .slice a9 zb c9) (z' := .int .i64 sb) hB
                      have hqW := ((Q.setCell (Q.setCell (Q.setCell (Ep.SV.here hS) (ad := ⟨b9, 0, none⟩) hWb (.bool gb)) (ad := ⟨b9, 1, none⟩) hWb (.slice a9 zb c9)) (ad := ⟨b9, 2, none⟩) hWb (.int .i64 sb)))
                      have hl := Lst.setCell (Lst.setCell (Lst.setCell hx9 (ad := ⟨b9, 0, none⟩) (.bool gb) hne) (ad := ⟨b9, 1, none⟩) (.slice a9 zb c9) hne) (ad := ⟨b9, 2, none⟩) (.int .i64 sb) hne
                      go_simp
                      have hS2 := SQ.out _ hqW
                      refine hK.out _ _ (by exact hS2) (fun hHeld => ?_)
                      clear hK K hHeld hS
                      have hS := hS2
                      clear hS2 f0 f1 f2 f3 f4 f5
                      try simp only [Act.put, List.setIfInBounds_toArray, List.set_cons_zero, List.set_cons_succ]
                      refine wpAnyH_take (i := 12) (oi := { dst := some 17, op := Op.assign (Operand.tmp 118), type := 33, pos := "law.go:84", after := #[{ on := 9, ground := Ground.data }, { on := 11, ground := Ground.chain }, { on := 0, ground := Ground.phase }, { on := 1, ground := Ground.phase }, { on := 2, ground := Ground.phase }, { on := 3, ground := Ground.phase }, { on := 4, ground := Ground.phase }, { on := 5, ground := Ground.phase }, { on := 6, ground := Ground.phase }, { on := 7, ground := Ground.phase }, { on := 8, ground := Ground.phase }, { on := 9, ground := Ground.phase }, { on := 10, ground := Ground.phase }, { on := 11, ground := Ground.phase }], guard := none }) (v := ?vT8x13) rfl (by kernel_rfl) (by kernel_rfl) (by kernel_rfl) (fun _ _ _ h => h) (Or.inl ⟨by rfl, ?hyT8x13⟩) (by exact hS) ?rsT8x13
                      case hyT8x13 => (intro w hSw; (try dsimp only at hSw); unfold Ep.SV at hSw; go_simp; try with_reducible rfl)
                      try simp only [Act.put, List.setIfInBounds_toArray, List.set_cons_zero, List.set_cons_succ]
                      refine wpAnyH_done (by kernel_rfl) ?_ _
                      go_wp2_with fail
                      go_meet
                      exact ⟨b9, a9, c9, rfl, rfl, hset, hl, hqW⟩
                    · go_simp
                      have hq := (Q.refl yT8x6).alloc (.cells #[.bool false, .slice none 0 0, .int .i64 0] 32)
                      have hB := heap_alloc_new yT8x6 (.cells #[.bool false, .slice none 0 0, .int .i64 0] 32)
                      have hbu : yT8x6.heap.size < (yT8x6.alloc (.cells #[.bool false, .slice none 0 0, .int .i64 0] 32)).heap.size := by rw [World.size_alloc]; omega
                      have hWb := (Ep.SV.here hS).le
                      have hS2 := SQ.out _ (Q.trans (Ep.SV.here hS) hq)
                      refine hK.out _ _ (by exact hS2) (fun hHeld => ?_)
                      clear hK K hHeld hS hq
                      have hS := hS2
                      clear hS2
                      generalize yT8x6.alloc (.cells #[.bool false, .slice none 0 0, .int .i64 0] 32) = yT8x14 at *
                      generalize yT8x6.heap.size = b9 at *
                      try simp only [Act.put, List.setIfInBounds_toArray, List.set_cons_zero, List.set_cons_succ]
                      refine wpAnyH_ready (rs := [6]) (by kernel_rfl) (by simp) ?_
                      refine (AllReadyH.cons (o := { dst := some 116, op := Op.call { callee := Callee.value (Operand.func 34), args := #[Operand.tmp 110, Operand.tmp 115], argTypes := #[32, 32] }, type := 34, pos := "law.go:84", after := #[{ on := 0, ground := Ground.data }, { on := 5, ground := Ground.data }, { on := 5, ground := Ground.chain }], guard := none }) rfl (fun K hK => ?_) AllReadyH.nil)
                      go_simp
                      refine (PB.out _ _ _ (L65_Z6.out.q (Ep.SV.here hS)) (L65_F.out.q (Ep.SV.here hS))).mono ?_
                      rintro e yT8x15 ⟨a9, c9, rfl, hx9, hq⟩
                      try (go_wp2_with fail)
                      have hB := (Q.block hq (lt_of_block hB)).trans hB
                      have hlf := hx9
                      have hx9 := Ep.lf_lst hlf
                      have hne : ∀ (a : Addr) (n c : Nat), (.slice a9 zb c9 : Value) = .slice (some a) n c → n ≠ 0 → a.block ≠ b9 := Ep.lf_ne hlf hbu
                      clear hlf
                      have hS2 := SQ.out _ (Q.trans (Ep.SV.here hS) hq)
                      have hbu := Nat.lt_of_lt_of_le hbu hq.le
                      refine hK.out _ _ (by exact hS2) (fun hHeld => ?_)
                      clear hK K hHeld hS hq
                      have hS := hS2
                      clear hS2
                      try simp only [Act.put, List.setIfInBounds_toArray, List.set_cons_zero, List.set_cons_succ]
                      refine wpAnyH_take (i := 7) (oi := { dst := some 109, op := Op.move (Operand.tmp 116), type := 34, pos := "law.go:84", after := #[{ on := 6, ground := Ground.data }], guard := none }) (v := ?vT8x16) rfl (by kernel_rfl) (by kernel_rfl) (by kernel_rfl) (fun _ _ _ h => h) (Or.inl ⟨by rfl, ?hyT8x16⟩) (by exact hS) ?rsT8x16
                      case hyT8x16 => (intro w hSw; (try dsimp only at hSw); unfold Ep.SV at hSw; go_simp; try with_reducible rfl)
                      try simp only [Act.put, List.setIfInBounds_toArray, List.set_cons_zero, List.set_cons_succ]
                      refine wpAnyH_take (i := 8) (oi := { dst := some 117, op := Op.extract (Operand.tmp 109) 0, type := 32, pos := "law.go:84", after := #[{ on := 7, ground := Ground.data }], guard := none }) (v := ?vT8x17) rfl (by kernel_rfl) (by kernel_rfl) (by kernel_rfl) (fun _ _ _ h => h) (Or.inl ⟨by rfl, ?hyT8x17⟩) (by exact hS) ?rsT8x17
                      case hyT8x17 => (intro w hSw; (try dsimp only at hSw); unfold Ep.SV at hSw; go_simp; try with_reducible rfl)
                      try simp only [Act.put, List.setIfInBounds_toArray, List.set_cons_zero, List.set_cons_succ]
                      refine wpAnyH_take (i := 9) (oi := { dst := some 118, op := Op.extract (Operand.tmp 109) 1, type := 33, pos := "law.go:84", after := #[{ on := 7, ground := Ground.data }, { on := 11, ground := Ground.gcOnly Departure.lateStores }], guard := none }) (v := ?vT8x18) rfl (by kernel_rfl) (by kernel_rfl) (by kernel_rfl) (fun _ _ _ h => h) (Or.inl ⟨by rfl, ?hyT8x18⟩) (by exact hS) ?rsT8x18
                      case hyT8x18 => (intro w hSw; (try dsimp only at hSw); unfold Ep.SV at hSw; go_simp; try with_reducible rfl)
                      try simp only [Act.put, List.setIfInBounds_toArray, List.set_cons_zero, List.set_cons_succ]
                      refine wpAnyH_ready (rs := [11]) (by kernel_rfl) (by simp) ?_
                      refine (AllReadyH.cons (o := { dst := none, op := Op.store 32 (Operand.tmp 16) (Operand.tmp 117), type := 0, pos := "law.go:84", after := #[{ on := 10, ground := Ground.data }, { on := 8, ground := Ground.data }, { on := 6, ground := Ground.chain }, { on := 0, ground := Ground.phase }, { on := 1, ground := Ground.phase }, { on := 2, ground := Ground.phase }, { on := 3, ground := Ground.phase }, { on := 4, ground := Ground.phase }, { on := 5, ground := Ground.phase }, { on := 6, ground := Ground.phase }, { on := 7, ground := Ground.phase }, { on := 8, ground := Ground.phase }, { on := 9, ground := Ground.textOnly Departure.lateStores }, { on := 10, ground := Ground.phase }], guard := none }) rfl (fun K hK => ?_) AllReadyH.nil)
                      obtain ⟨f0, f1, f2, f3, f4, f5⟩ := Er.block_cells hB
                      have hset := Er.block_set (x' := .bool gb) (y' := .slice a9 zb c9) (z' := .int .i64 sb) hB
                      have hqW := ((Q.setCell (Q.setCell (Q.setCell (Ep.SV.here hS) (ad := ⟨b9, 0, none⟩) hWb (.bool gb)) (ad := ⟨b9, 1, none⟩) hWb (.slice a9 zb c9)) (ad := ⟨b9, 2, none⟩) hWb (.int .i64 sb)))
                      have hl := Lst.setCell (Lst.setCell (Lst.setCell hx9 (ad := ⟨b9, 0, none⟩) (.bool gb) hne) (ad := ⟨b9, 1, none⟩) (.slice a9 zb c9) hne) (ad := ⟨b9, 2, none⟩) (.int .i64 sb) hne
                      go_simp
                      have hS2 := SQ.out _ hqW
                      refine hK.out _ _ (by exact hS2) (fun hHeld => ?_)
                      clear hK K hHeld hS
                      have hS := hS2
                      clear hS2 f0 f1 f2 f3 f4 f5
                      try simp only [Act.put, List.setIfInBounds_toArray, List.set_cons_zero, List.set_cons_succ]
                      refine wpAnyH_take (i := 12) (oi := { dst := some 17, op := Op.assign (Operand.tmp 118), type := 33, pos := "law.go:84", after := #[{ on := 9, ground := Ground.data }, { on := 11, ground := Ground.chain }, { on := 0, ground := Ground.phase }, { on := 1, ground := Ground.phase }, { on := 2, ground := Ground.phase }, { on := 3, ground := Ground.phase }, { on := 4, ground := Ground.phase }, { on := 5, ground := Ground.phase }, { on := 6, ground := Ground.phase }, { on := 7, ground := Ground.phase }, { on := 8, ground := Ground.phase }, { on := 9, ground := Ground.phase }, { on := 10, ground := Ground.phase }, { on := 11, ground := Ground.phase }], guard := none }) (v := ?vT8x20) rfl (by kernel_rfl) (by kernel_rfl) (by kernel_rfl) (fun _ _ _ h => h) (Or.inl ⟨by rfl, ?hyT8x20⟩) (by exact hS) ?rsT8x20
                      case hyT8x20 => (intro w hSw; (try dsimp only at hSw); unfold Ep.SV at hSw; go_simp; try with_reducible rfl)
                      try simp only [Act.put, List.setIfInBounds_toArray, List.set_cons_zero, List.set_cons_succ]
                      refine wpAnyH_done (by kernel_rfl) ?_ _
                      go_wp2_with fail
                      go_meet
                      exact ⟨b9, a9, c9, rfl, rfl, hset, hl, hqW⟩
                  · go_simp
                    have hq := (Q.refl yT8x0).alloc (.cells #[.bool false, .slice none 0 0, .int .i64 0] 32)
                    have hB := heap_alloc_new yT8x0 (.cells #[.bool false, .slice none 0 0, .int .i64 0] 32)
                    have hbu : yT8x0.heap.size < (yT8x0.alloc (.cells #[.bool false, .slice none 0 0, .int .i64 0] 32)).heap.size := by rw [World.size_alloc]; omega
                    have hWb := (Ep.SV.here hS).le
                    have hS2 := SQ.out _ (Q.trans (Ep.SV.here hS) hq)
                    refine hK.out _ _ (by exact hS2) (fun hHeld => ?_)
                    clear hK K hHeld hS hq
                    have hS := hS2
                    clear hS2
                    generalize yT8x0.alloc (.cells #[.bool false, .slice none 0 0, .int .i64 0] 32) = yT8x21 at *
                    generalize yT8x0.heap.size = b9 at *
                    try simp only [Act.put, List.setIfInBounds_toArray, List.set_cons_zero, List.set_cons_succ]
                    refine wpAnyH_ready (rs := [5]) (by kernel_rfl) (by simp) ?_
                    refine (AllReadyH.cons (o := { dst := some 115, op := Op.call { callee := Callee.value (Operand.func 22), args := #[Operand.tmp 114], argTypes := #[24] }, type := 32, pos := "law.go:84", after := #[{ on := 4, ground := Ground.data }], guard := none }) rfl (fun K hK => ?_) AllReadyH.nil)
                    go_simp
                    refine (Ep.of_sh _ _ _ _ _ _).mono ?_
                    rintro e yT8x22 ⟨rfl, hq⟩
                    try (go_wp2_with fail)
                    have hB := (Q.block hq (lt_of_block hB)).trans hB
                    have hS2 := SQ.out _ (Q.trans (Ep.SV.here hS) hq)
                    have hbu := Nat.lt_of_lt_of_le hbu hq.le
                    refine hK.out _ _ (by exact hS2) (fun hHeld => ?_)
                    clear hK K hHeld hS hq
                    have hS := hS2
                    clear hS2
                    try simp only [Act.put, List.setIfInBounds_toArray, List.set_cons_zero, List.set_cons_succ]
                    refine wpAnyH_ready (rs := [6]) (by kernel_rfl) (by simp) ?_
                    refine (AllReadyH.cons (o := { dst := some 116, op := Op.call { callee := Callee.value (Operand.func 34), args := #[Operand.tmp 110, Operand.tmp 115], argTypes := #[32, 32] }, type := 34, pos := "law.go:84", after := #[{ on := 0, ground := Ground.data }, { on := 5, ground := Ground.data }, { on := 5, ground := Ground.chain }], guard := none }) rfl (fun K hK => ?_) AllReadyH.nil)
                    go_simp
                    refine (PB.out _ _ _ (L65_Z6.out.q (Ep.SV.here hS)) (L65_F.out.q (Ep.SV.here hS))).mono ?_
                    rintro e yT8x23 ⟨a9, c9, rfl, hx9, hq⟩
                    try (go_wp2_with fail)
                    have hB := (Q.block hq (lt_of_block hB)).trans hB
                    have hlf := hx9
                    have hx9 := Ep.lf_lst hlf
                    have hne : ∀ (a : Addr) (n c : Nat), (.slice a9 zb c9 : Value) = .slice (some a) n c → n ≠ 0 → a.block ≠ b9 := Ep.lf_ne hlf hbu
                    clear hlf
                    have hS2 := SQ.out _ (Q.trans (Ep.SV.here hS) hq)
                    have hbu := Nat.lt_of_lt_of_le hbu hq.le
                    refine hK.out _ _ (by exact hS2) (fun hHeld => ?_)
                    clear hK K hHeld hS hq
                    have hS := hS2
                    clear hS2
                    try simp only [Act.put, List.setIfInBounds_toArray, List.set_cons_zero, List.set_cons_succ]
                    refine wpAnyH_take (i := 7) (oi := { dst := some 109, op := Op.move (Operand.tmp 116), type := 34, pos := "law.go:84", after := #[{ on := 6, ground := Ground.data }], guard := none }) (v := ?vT8x24) rfl (by kernel_rfl) (by kernel_rfl) (by kernel_rfl) (fun _ _ _ h => h) (Or.inl ⟨by rfl, ?hyT8x24⟩) (by exact hS) ?rsT8x24
                    case hyT8x24 => (intro w hSw; (try dsimp only at hSw); unfold Ep.SV at hSw; go_simp; try with_reducible rfl)
                    try simp only [Act.put, List.setIfInBounds_toArray, List.set_cons_zero, List.set_cons_succ]
                    refine wpAnyH_take (i := 8) (oi := { dst := some 117, op := Op.extract (Operand.tmp 109) 0, type := 32, pos := "law.go:84", after := #[{ on := 7, ground := Ground.data }], guard := none }) (v := ?vT8x25) rfl (by kernel_rfl) (by kernel_rfl) (by kernel_rfl) (fun _ _ _ h => h) (Or.inl ⟨by rfl, ?hyT8x25⟩) (by exact hS) ?rsT8x25
                    case hyT8x25 => (intro w hSw; (try dsimp only at hSw); unfold Ep.SV at hSw; go_simp; try with_reducible rfl)
                    try simp only [Act.put, List.setIfInBounds_toArray, List.set_cons_zero, List.set_cons_succ]
                    refine wpAnyH_take (i := 9) (oi := { dst := some 118, op := Op.extract (Operand.tmp 109) 1, type := 33, pos := "law.go:84", after := #[{ on := 7, ground := Ground.data }, { on := 11, ground := Ground.gcOnly Departure.lateStores }], guard := none }) (v := ?vT8x26) rfl (by kernel_rfl) (by kernel_rfl) (by kernel_rfl) (fun _ _ _ h => h) (Or.inl ⟨by rfl, ?hyT8x26⟩) (by exact hS) ?rsT8x26
                    case hyT8x26 => (intro w hSw; (try dsimp only at hSw); unfold Ep.SV at hSw; go_simp; try with_reducible rfl)
                    try simp only [Act.put, List.setIfInBounds_toArray, List.set_cons_zero, List.set_cons_succ]
                    refine wpAnyH_ready (rs := [11]) (by kernel_rfl) (by simp) ?_
                    refine (AllReadyH.cons (o := { dst := none, op := Op.store 32 (Operand.tmp 16) (Operand.tmp 117), type := 0, pos := "law.go:84", after := #[{ on := 10, ground := Ground.data }, { on := 8, ground := Ground.data }, { on := 6, ground := Ground.chain }, { on := 0, ground := Ground.phase }, { on := 1, ground := Ground.phase }, { on := 2, ground := Ground.phase }, { on := 3, ground := Ground.phase }, { on := 4, ground := Ground.phase }, { on := 5, ground := Ground.phase }, { on := 6, ground := Ground.phase }, { on := 7, ground := Ground.phase }, { on := 8, ground := Ground.phase }, { on := 9, ground := Ground.textOnly Departure.lateStores }, { on := 10, ground := Ground.phase }], guard := none }) rfl (fun K hK => ?_) AllReadyH.nil)
                    obtain ⟨f0, f1, f2, f3, f4, f5⟩ := Er.block_cells hB
                    have hset := Er.block_set (x' := .bool gb) (y' := .slice a9 zb c9) (z' := .int .i64 sb) hB
                    have hqW := ((Q.setCell (Q.setCell (Q.setCell (Ep.SV.here hS) (ad := ⟨b9, 0, none⟩) hWb (.bool gb)) (ad := ⟨b9, 1, none⟩) hWb (.slice a9 zb c9)) (ad := ⟨b9, 2, none⟩) hWb (.int .i64 sb)))
                    have hl := Lst.setCell (Lst.setCell (Lst.setCell hx9 (ad := ⟨b9, 0, none⟩) (.bool gb) hne) (ad := ⟨b9, 1, none⟩) (.slice a9 zb c9) hne) (ad := ⟨b9, 2, none⟩) (.int .i64 sb) hne
                    go_simp
                    have hS2 := SQ.out _ hqW
                    refine hK.out _ _ (by exact hS2) (fun hHeld => ?_)
                    clear hK K hHeld hS
                    have hS := hS2
                    clear hS2 f0 f1 f2 f3 f4 f5
                    try simp only [Act.put, List.setIfInBounds_toArray, List.set_cons_zero, List.set_cons_succ]
                    refine wpAnyH_take (i := 12) (oi := { dst := some 17, op := Op.assign (Operand.tmp 118), type := 33, pos := "law.go:84", after := #[{ on := 9, ground := Ground.data }, { on := 11, ground := Ground.chain }, { on := 0, ground := Ground.phase }, { on := 1, ground := Ground.phase }, { on := 2, ground := Ground.phase }, { on := 3, ground := Ground.phase }, { on := 4, ground := Ground.phase }, { on := 5, ground := Ground.phase }, { on := 6, ground := Ground.phase }, { on := 7, ground := Ground.phase }, { on := 8, ground := Ground.phase }, { on := 9, ground := Ground.phase }, { on := 10, ground := Ground.phase }, { on := 11, ground := Ground.phase }], guard := none }) (v := ?vT8x28) rfl (by kernel_rfl) (by kernel_rfl) (by kernel_rfl) (fun _ _ _ h => h) (Or.inl ⟨by rfl, ?hyT8x28⟩) (by exact hS) ?rsT8x28
                    case hyT8x28 => (intro w hSw; (try dsimp only at hSw); unfold Ep.SV at hSw; go_simp; try with_reducible rfl)
                    try simp only [Act.put, List.setIfInBounds_toArray, List.set_cons_zero, List.set_cons_succ]
                    refine wpAnyH_done (by kernel_rfl) ?_ _
                    go_wp2_with fail
                    go_meet
                    exact ⟨b9, a9, c9, rfl, rfl, hset, hl, hqW⟩
                case rest =>
                  obtain ⟨b13, a13, c13, rfl, rfl, hb13, hl13, hqc⟩ := hcut
                  obtain ⟨w13, hw13⟩ : ∃ x, x = wc := ⟨_, rfl⟩
                  subst hw13
                  have HB13 := Lib.hid hb13
                  have LZ13 := Lib.hid hl13
                  clear SQ hb13 hl13
                  have L66_E := Lib.hid (Lst.q L65_E.out hqc)
                  clear L65_E
                  have L66_F := Lib.hid (Lst.q L65_F.out hqc)
                  clear L65_F
                  have L66_Z6 := Lib.hid (Lst.q L65_Z6.out hqc)
                  clear L65_Z6
                  have L66_Z7 := Lib.hid (Lst.q L65_Z7.out hqc)
                  clear L65_Z7
                  have L66_Z8 := Lib.hid (Lst.q L65_Z8.out hqc)
                  clear L65_Z8
                  have L66_Z9 := Lib.hid (Lst.q L65_Z9.out hqc)
                  clear L65_Z9
                  have B66_b6 := Lib.hid ((Q.block hqc (lt_of_block B65_b6.out)).trans B65_b6.out)
                  clear B65_b6
                  have B66_b7 := Lib.hid ((Q.block hqc (lt_of_block B65_b7.out)).trans B65_b7.out)
                  clear B65_b7
                  have B66_b8 := Lib.hid ((Q.block hqc (lt_of_block B65_b8.out)).trans B65_b8.out)
                  clear B65_b8
                  have B66_b9 := Lib.hid ((Q.block hqc (lt_of_block B65_b9.out)).trans B65_b9.out)
                  clear B65_b9
                  have H66_X := Lib.hid ((Q.block hqc (lt_of_block H65_X.out)).trans H65_X.out)
                  clear H65_X
                  have H66_Y := Lib.hid ((Q.block hqc (lt_of_block H65_Y.out)).trans H65_Y.out)
                  clear H65_Y
                  have Q66 := Lib.hid (Q.trans Q65.out hqc)
                  clear Q65
                  clear hqc
                  have SQ := Lib.hid (fun u (q : Q w13 u) => (by
                    obtain ⟨x0, x1, x2⟩ := CX.out u ((Q.block q (lt_of_block H66_X.out)).trans H66_X.out)
                    obtain ⟨x3, x4, x5⟩ := CY.out u ((Q.block q (lt_of_block H66_Y.out)).trans H66_Y.out)
                    obtain ⟨x6, x7, x8, _, _, _⟩ := Er.block_cells ((Q.block q (lt_of_block HB13.out)).trans HB13.out)
                    exact ⟨x0, x1, x2, x3, x4, x5, x6, x7, x8, q⟩ : Ep.SV w13 X Y i g0 (.slice a n c) s g1 (.slice b m d) t b13 gb (.slice a13 zb c13) sb u))
                  go_wp2_with fail
                  refine wp_region_held_drew (S := fun u => Ep.SV w13 X Y i g0 (.slice a n c) s g1 (.slice b m d) t b13 gb (.slice a13 zb c13) sb u) (by kernel_rfl) (by exact SQ.out _ ((Q.refl w13).drew)) (fun hHeld => ?_)
                  have hS : Ep.SV w13 X Y i g0 (.slice a n c) s g1 (.slice b m d) t b13 gb (.slice a13 zb c13) sb w13.drew := hHeld
                  clear hHeld
                  generalize w13.drew = yT9x0 at hS ⊢
                  refine wpAnyH_take (i := 0) (oi := { dst := some 119, op := Op.move (Operand.tmp 17), type := 33, pos := "law.go:85", after := #[], guard := none }) (v := ?vT9x1) rfl (by kernel_rfl) (by kernel_rfl) (by kernel_rfl) (fun _ _ _ h => h) (Or.inl ⟨by rfl, ?hyT9x1⟩) (by exact hS) ?rsT9x1
                  case hyT9x1 => (intro w hSw; (try dsimp only at hSw); unfold Ep.SV at hSw; go_simp; try with_reducible rfl)
                  try simp only [Act.put, List.setIfInBounds_toArray, List.set_cons_zero, List.set_cons_succ]
                  refine wpAnyH_take (i := 1) (oi := { dst := some 120, op := Op.binOp BinOp.neq 33 (Operand.tmp 119) (Operand.const (Value.int IntKind.i64 0)) 33, type := 4, pos := "law.go:85", after := #[{ on := 0, ground := Ground.data }], guard := none }) (v := ?vT9x2) rfl (by kernel_rfl) (by kernel_rfl) (by kernel_rfl) (fun _ _ _ h => h) (Or.inl ⟨by rfl, ?hyT9x2⟩) (by exact hS) ?rsT9x2
                  case hyT9x2 => (intro w hSw; (try dsimp only at hSw); unfold Ep.SV at hSw; go_simp; try with_reducible rfl)
                  try simp only [Act.put, List.setIfInBounds_toArray, List.set_cons_zero, List.set_cons_succ]
                  refine wpAnyH_take (i := 2) (oi := { dst := some 121, op := Op.move (Operand.tmp 120), type := 4, pos := "law.go:85", after := #[{ on := 1, ground := Ground.data }], guard := none }) (v := ?vT9x3) rfl (by kernel_rfl) (by kernel_rfl) (by kernel_rfl) (fun _ _ _ h => h) (Or.inl ⟨by rfl, ?hyT9x3⟩) (by exact hS) ?rsT9x3
                  case hyT9x3 => (intro w hSw; (try dsimp only at hSw); unfold Ep.SV at hSw; go_simp; try with_reducible rfl)
                  try simp only [Act.put, List.setIfInBounds_toArray, List.set_cons_zero, List.set_cons_succ]
                  refine wpAnyH_take (i := 3) (oi := { dst := some 122, op := Op.load 32 (Operand.tmp 16), type := 32, pos := "law.go:85", after := #[{ on := 2, ground := Ground.guard }], guard := some (2, false) }) (v := ?vT9x4) rfl (by kernel_rfl) (by kernel_rfl) (by kernel_rfl) (fun _ _ _ h => h) (Or.inl ⟨by rfl, ?hyT9x4⟩) (by exact hS) ?rsT9x4
                  case hyT9x4 => (intro w hSw; (try dsimp only at hSw); unfold Ep.SV at hSw; go_simp; try with_reducible rfl)
                  try simp only [Act.put, List.setIfInBounds_toArray, List.set_cons_zero, List.set_cons_succ]
                  refine wpAnyH_take (i := 5) (oi := { dst := some 124, op := Op.move (Operand.tmp 5), type := 54, pos := "law.go:85", after := #[{ on := 2, ground := Ground.guard }], guard := some (2, false) }) (v := ?vT9x5) rfl (by kernel_rfl) (by kernel_rfl) (by kernel_rfl) (fun _ _ _ h => h) (Or.inl ⟨by rfl, ?hyT9x5⟩) (by exact hS) ?rsT9x5
                  case hyT9x5 => (intro w hSw; (try dsimp only at hSw); unfold Ep.SV at hSw; go_simp; try with_reducible rfl)
                  try simp only [Act.put, List.setIfInBounds_toArray, List.set_cons_zero, List.set_cons_succ]
                  refine wpAnyH_take (i := 6) (oi := { dst := some 125, op := Op.move (Operand.tmp 7), type := 3, pos := "law.go:85", after := #[{ on := 2, ground := Ground.guard }], guard := some (2, false) }) (v := ?vT9x6) rfl (by kernel_rfl) (by kernel_rfl) (by kernel_rfl) (fun _ _ _ h => h) (Or.inl ⟨by rfl, ?hyT9x6⟩) (by exact hS) ?rsT9x6
                  case hyT9x6 => (intro w hSw; (try dsimp only at hSw); unfold Ep.SV at hSw; go_simp; try with_reducible rfl)
                  try simp only [Act.put, List.setIfInBounds_toArray, List.set_cons_zero, List.set_cons_succ]
                  refine wpAnyH_take (i := 7) (oi := { dst := some 126, op := Op.indexAddr 54 (Operand.tmp 124) (Operand.tmp 125), type := 0, pos := "law.go:85", after := #[{ on := 5, ground := Ground.data }, { on := 6, ground := Ground.data }, { on := 2, ground := Ground.guard }], guard := some (2, false) }) (v := ?vT9x7) rfl (by kernel_rfl) (by kernel_rfl) (by kernel_rfl) (fun _ _ _ h => h) (Or.inl ⟨by rfl, ?hyT9x7⟩) (by exact hS) ?rsT9x7
                  case hyT9x7 => (intro w hSw; (try dsimp only at hSw); unfold Ep.SV at hSw; go_simp; try with_reducible rfl)
                  try simp only [Act.put, List.setIfInBounds_toArray, List.set_cons_zero, List.set_cons_succ]
                  refine wpAnyH_take (i := 8) (oi := { dst := some 127, op := Op.load 24 (Operand.tmp 126), type := 24, pos := "law.go:85", after := #[{ on := 7, ground := Ground.data }, { on := 2, ground := Ground.guard }], guard := some (2, false) }) (v := ?vT9x8) rfl (by kernel_rfl) (by kernel_rfl) (by kernel_rfl) (fun _ _ _ h => h) (Or.inl ⟨by rfl, ?hyT9x8⟩) (by exact hS) ?rsT9x8
                  case hyT9x8 => (intro w hSw; (try dsimp only at hSw); unfold Ep.SV at hSw; go_simp; try with_reducible rfl)
                  try simp only [Act.put, List.setIfInBounds_toArray, List.set_cons_zero, List.set_cons_succ]
                  refine wpAnyH_ready (rs := [4]) (by kernel_rfl) (by simp) ?_
                  refine (AllReadyH.cons (o := { dst := some 123, op := Op.call { callee := Callee.value (Operand.func 19), args := #[Operand.tmp 122], argTypes := #[32] }, type := 24, pos := "law.go:85", after := #[{ on := 3, ground := Ground.data }, { on := 2, ground := Ground.chain }, { on := 2, ground := Ground.guard }], guard := some (2, false) }) rfl (fun K hK => ?_) AllReadyH.nil)
                  go_simp
                  refine (Ep.as_sh _ _ _ _ _ _).mono ?_
                  rintro e yT9x9 ⟨rfl, hq⟩
                  try (go_wp2_with fail)
                  have hS2 := SQ.out _ (Q.trans (Ep.SV.here hS) hq)
                  refine hK.out _ _ (by exact hS2) (fun hHeld => ?_)
                  clear hK K hHeld hS hq
                  have hS := hS2
                  clear hS2
                  try simp only [Act.put, List.setIfInBounds_toArray, List.set_cons_zero, List.set_cons_succ]
                  refine wpAnyH_ready (rs := [9]) (by kernel_rfl) (by simp) ?_
                  refine (AllReadyH.cons (o := { dst := some 128, op := Op.call { callee := Callee.value (Operand.func 29), args := #[Operand.tmp 127], argTypes := #[24] }, type := 24, pos := "law.go:85", after := #[{ on := 8, ground := Ground.data }, { on := 4, ground := Ground.chain }, { on := 2, ground := Ground.guard }], guard := some (2, false) }) rfl (fun K hK => ?_) AllReadyH.nil)
                  go_simp
                  refine (RT.out _ _ (L66_E.out.q (Ep.SV.here hS))).mono ?_
                  rintro e yT9x10 ⟨a14, c14, rfl, hx14, hq⟩
                  try (go_wp2_with fail)
                  have hlf := hx14
                  have hx14 := Ep.lf_lst hlf
                  clear hlf
                  have hS2 := SQ.out _ (Q.trans (Ep.SV.here hS) hq)
                  refine hK.out _ _ (by exact hS2) (fun hHeld => ?_)
                  clear hK K hHeld hS hq
                  have hS := hS2
                  clear hS2
                  try simp only [Act.put, List.setIfInBounds_toArray, List.set_cons_zero, List.set_cons_succ]
                  refine wpAnyH_ready (rs := [10]) (by kernel_rfl) (by simp) ?_
                  refine (AllReadyH.cons (o := { dst := some 129, op := Op.call { callee := Callee.value (Operand.func 18), args := #[Operand.tmp 123, Operand.tmp 128], argTypes := #[24, 24] }, type := 4, pos := "law.go:85", after := #[{ on := 4, ground := Ground.data }, { on := 9, ground := Ground.data }, { on := 9, ground := Ground.chain }, { on := 2, ground := Ground.guard }], guard := some (2, false) }) rfl (fun K hK => ?_) AllReadyH.nil)
                  go_simp
                  refine (Ep.same_sh _ _ _ _ _ _ _ _ _ (LZ13.out.q (Ep.SV.here hS)) hx14 (by have := HZB.out; omega)).mono ?_
                  rintro e yT9x11 ⟨rfl, hq⟩
                  try (go_wp2_with fail)
                  have hx14 := Lst.q hx14 hq
                  have hS2 := SQ.out _ (Q.trans (Ep.SV.here hS) hq)
                  refine hK.out _ _ (by exact hS2) (fun hHeld => ?_)
                  clear hK K hHeld hS hq
                  have hS := hS2
                  clear hS2
                  try simp only [Act.put, List.setIfInBounds_toArray, List.set_cons_zero, List.set_cons_succ]
                  refine wpAnyH_take (i := 11) (oi := { dst := some 130, op := Op.unOp UnOp.not 4 (Operand.tmp 129), type := 4, pos := "law.go:85", after := #[{ on := 10, ground := Ground.data }, { on := 2, ground := Ground.guard }], guard := some (2, false) }) (v := ?vT9x12) rfl (by kernel_rfl) (by kernel_rfl) (by kernel_rfl) (fun _ _ _ h => h) (Or.inl ⟨by rfl, ?hyT9x12⟩) (by exact hS) ?rsT9x12
                  case hyT9x12 => (intro w hSw; (try dsimp only at hSw); unfold Ep.SV at hSw; go_simp; try with_reducible rfl)
                  try simp only [Act.put, List.setIfInBounds_toArray, List.set_cons_zero, List.set_cons_succ]
                  refine wpAnyH_take (i := 12) (oi := { dst := some 131, op := Op.pick (Operand.tmp 121) (Operand.const (Value.bool true)) (Operand.tmp 130), type := 4, pos := "law.go:85", after := #[{ on := 2, ground := Ground.data }, { on := 11, ground := Ground.data }], guard := none }) (v := ?vT9x13) rfl (by kernel_rfl) (by kernel_rfl) (by kernel_rfl) (fun _ _ _ h => h) (Or.inl ⟨by rfl, ?hyT9x13⟩) (by exact hS) ?rsT9x13
                  case hyT9x13 => (intro w hSw; (try dsimp only at hSw); unfold Ep.SV at hSw; go_simp; try with_reducible rfl)
                  try simp only [Act.put, List.setIfInBounds_toArray, List.set_cons_zero, List.set_cons_succ]
                  refine wpAnyH_done (by kernel_rfl) ?_ _
                  have hqr := Ep.SV.here hS
                  clear hS SQ
                  have L67_E := Lib.hid (Lst.q L66_E.out hqr)
                  clear L66_E
                  have L67_F := Lib.hid (Lst.q L66_F.out hqr)
                  clear L66_F
                  have L67_Z6 := Lib.hid (Lst.q L66_Z6.out hqr)
                  clear L66_Z6
                  have L67_Z7 := Lib.hid (Lst.q L66_Z7.out hqr)
                  clear L66_Z7
                  have L67_Z8 := Lib.hid (Lst.q L66_Z8.out hqr)
                  clear L66_Z8
                  have L67_Z9 := Lib.hid (Lst.q L66_Z9.out hqr)
                  clear L66_Z9
                  have L67_Z13 := Lib.hid (Lst.q LZ13.out hqr)
                  clear LZ13
                  have B67_b6 := Lib.hid ((Q.block hqr (lt_of_block B66_b6.out)).trans B66_b6.out)
                  clear B66_b6
                  have B67_b7 := Lib.hid ((Q.block hqr (lt_of_block B66_b7.out)).trans B66_b7.out)
                  clear B66_b7
                  have B67_b8 := Lib.hid ((Q.block hqr (lt_of_block B66_b8.out)).trans B66_b8.out)
                  clear B66_b8
                  have B67_b9 := Lib.hid ((Q.block hqr (lt_of_block B66_b9.out)).trans B66_b9.out)
                  clear B66_b9
                  have B67_b13 := Lib.hid ((Q.block hqr (lt_of_block HB13.out)).trans HB13.out)
                  clear HB13
                  have H67_X := Lib.hid ((Q.block hqr (lt_of_block H66_X.out)).trans H66_X.out)
                  clear H66_X
                  have H67_Y := Lib.hid ((Q.block hqr (lt_of_block H66_Y.out)).trans H66_Y.out)
                  clear H66_Y
                  have Q67 := Lib.hid (Q.trans Q66.out hqr)
                  clear Q66
                  clear hqr
                  go_wp2_with fail
                  exact ⟨⟨i + 1, by go_num, by omega, H67_X.out, H67_Y.out, Q67.out⟩, by simp [intOf]; omega⟩
    · have hi3 : i = 2 := by omega
      subst hi3
      have HQE := Lib.hid (Q2.out.trans hq)
      clear hq hbx hby
      go_wp2_with fail
      refine (LV.out _).mono ?_
      rintro e z9 ⟨rfl, hq9⟩
      have HQ9 := Lib.hid (HQE.out.trans hq9)
      clear hq9
      go_wp2_with fail
      go_ret
      exact ⟨rfl, HQ9.out⟩

set_option maxRecDepth 100000 in
theorem lifted (os : Os) (started : os.Started) (H : Type) (enc : TypeId × Value → H) :
    ReturnsInHanded {} Try.checked os 7 .any (Rows.decimalAddsSpec.pre6 enc Try.prog Try.f7 Rows.decimalAddsRow.domain false) (Rows.decimalAddsSpec.post enc Try.prog Try.f7 false true false false) := by
  refine returnsInHanded_of_change (C := Try.checked) own started (by kernel_rfl) Try.func7
    (ChangeSpec.witness6 (enc := enc) (C := Try.checked) false ⟨#[], #[.agg #[.bool false, .slice none 0 0, .int .i64 0], .agg #[.bool false, .slice none 0 0, .int .i64 0]], []⟩ 8 (by kernel_rfl) (by kernel_rfl) (by kernel_rfl) (by kernel_rfl)) ?_
  intro W base args ds gs before hval0 hW hcnd _
  have hval : ∀ (j : Nat) t v, Try.f7.params[j]? = some t → args[j]? = some v → Value.okWide Try.prog W .any base t v := hval0
  have hW' := hW
  obtain ⟨p, q, hA0, hV, rfl, hfz, hnd⟩ := hW
  have hA : DataW.TrodAll enc Try.prog W 0 (fun _ => true) true Try.f7.params.toList args.toList ds p := hA0
  rw [Try.params7] at hA hval
  obtain ⟨v0, vs0, d0, ds0, p0, q0, hargs, rfl, rfl, h0, r0⟩ := trodAll_cons hA
  obtain ⟨v1, vs1, d1, ds1, p1, q1, rfl, rfl, rfl, h1, r1⟩ := trodAll_cons r0
  obtain ⟨rfl, rfl, rfl⟩ := trodAll_nil r1
  obtain rfl : args = #[v0, v1] := by cases args; simp_all
  obtain ⟨rfl, rfl⟩ := trodVars_none hV
  have k0 := h0
  have lt0 : ∀ x ∈ p0, x.block < W.heap.size := by obtain ⟨m, hm⟩ := k0; exact DataW.trod_lt m _ _ _ hm
  obtain ⟨c00, c01, c02, y00, y01, y02, m0, rfl, _, _, hy00, hy01, hy02⟩ := Joins.open_agg3 Try.underlying24 (by kernel_rfl) (by kernel_rfl) (hval 0 24 v0 rfl rfl) h0
  obtain ⟨g0, rfl⟩ : ∃ b, c00 = .bool b := by
    obtain ⟨b, h, _⟩ := DataW.trod_bool Try.underlying4 hy00
    exact ⟨b, by simpa using h⟩
  obtain ⟨s0, rfl, ws0⟩ : ∃ n, c02 = .int .i64 n ∧ (Lit.int .i64 n).wf = true := by
    obtain ⟨n, h, _, hw⟩ := DataW.trod_int Try.underlying3 hy02
    exact ⟨n, by simpa using h, hw⟩
  obtain ⟨a0, len0, cap0, z0, rfl, w0⟩ : ∃ a len cap zs, c01 = .slice a len cap ∧ IsRow .i64 W a len cap zs := by
    rcases open_ints Try.underlying22 Try.underlying3 (by kernel_rfl) hy01 with ⟨hcs, _⟩ | ⟨x, l, c, zs, hcs, _, hl, hm, hz, _, hcell, hwz⟩
    · exact ⟨none, 0, 0, [], by simpa using hcs, .inl ⟨rfl, rfl, rfl, rfl⟩⟩
    · exact ⟨some x, l, c, zs, by simpa using hcs, .inr ⟨_, rfl, hl, hm, by simpa using hz, hcell, hwz⟩⟩
  obtain ⟨xs0, l0, _, b0⟩ := w0.lst
  have k1 := h1
  have lt1 : ∀ x ∈ p1, x.block < W.heap.size := by obtain ⟨m, hm⟩ := k1; exact DataW.trod_lt m _ _ _ hm
  obtain ⟨c10, c11, c12, y10, y11, y12, m1, rfl, _, _, hy10, hy11, hy12⟩ := Joins.open_agg3 Try.underlying24 (by kernel_rfl) (by kernel_rfl) (hval 1 24 v1 rfl rfl) h1
  obtain ⟨g1, rfl⟩ : ∃ b, c10 = .bool b := by
    obtain ⟨b, h, _⟩ := DataW.trod_bool Try.underlying4 hy10
    exact ⟨b, by simpa using h⟩
  obtain ⟨s1, rfl, ws1⟩ : ∃ n, c12 = .int .i64 n ∧ (Lit.int .i64 n).wf = true := by
    obtain ⟨n, h, _, hw⟩ := DataW.trod_int Try.underlying3 hy12
    exact ⟨n, by simpa using h, hw⟩
  obtain ⟨a1, len1, cap1, z1, rfl, w1⟩ : ∃ a len cap zs, c11 = .slice a len cap ∧ IsRow .i64 W a len cap zs := by
    rcases open_ints Try.underlying22 Try.underlying3 (by kernel_rfl) hy11 with ⟨hcs, _⟩ | ⟨x, l, c, zs, hcs, _, hl, hm, hz, _, hcell, hwz⟩
    · exact ⟨none, 0, 0, [], by simpa using hcs, .inl ⟨rfl, rfl, rfl, rfl⟩⟩
    · exact ⟨some x, l, c, zs, by simpa using hcs, .inr ⟨_, rfl, hl, hm, by simpa using hz, hcell, hwz⟩⟩
  obtain ⟨xs1, l1, _, b1⟩ := w1.lst
  clear hA0 hval0
  refine (walk W g0 (.slice a0 len0 cap0) xs0 l0 b0 s0 (bounds_i64 ws0) g1 (.slice a1 len1 cap1) xs1 l1 b1 s1 (bounds_i64 ws1)).mono fun e W' ⟨he, bel⟩ => ?_
  subst he
  exact ⟨_, rfl, _, _, _, [], _, [], hW', trodAll_mk1 (shut_bool Try.underlying4 _), (trodAll_cons_mk (Below.trod laidOut (by kernel_rfl) (of_decide_eq_true (by kernel_rfl)) k0 bel lt0) (trodAll_cons_mk (Below.trod laidOut (by kernel_rfl) (of_decide_eq_true (by kernel_rfl)) k1 bel lt1) trodAll_mk0)), rfl, bel.below.frame _, fun h => by cases h⟩

/-- The statement. -/
theorem proved : Rows.DecimalAddsSaid :=
  OpenClaim.holds_of_wide 7 Try.f7 rfl rfl rfl rfl rfl rfl rfl ⟨rfl, rfl, rfl, rfl, rfl⟩ rfl rfl rfl rfl rfl (by kernel_rfl) Try.func7 (by kernel_rfl)
    (of_decide_eq_true (by kernel_rfl)) (by unfold Func.isWrapper; first | (rw [if_pos (by decide +kernel)]; kernel_rfl) | (rw [if_neg (by decide +kernel)]; exact ⟨rfl, rfl⟩))
    (fun os started H enc _ => lifted os started H enc)
#print axioms proved
end Go.Proofs.Ytilbefdeanhnpaa.decimalAdds
