/- DecimalAligns: of whatever decimal (its first 12 numbers; as they are, and made digits, its scale made 0 to 9), and of whatever scale (as it is, and made 0 to 19), the same number of another scale is the document's, or refused; no conditions. -/
import Derived.Test.YtilbefdeanhnpaaRows
import Derived.WalkKit
import Derived.ProofKit
import Derived.OpenShut
import Derived.ShutString
import Derived.ChangeOld
import Derived.Below
import Derived.Lib.SmallJoins
import Derived.Test.YtilbefdeanhnpaaInts
import Derived.Test.YtilbefdeanhnpaaUtfM
import Derived.Test.YtilbefdeanhnpaaUtfG
import Derived.Test.YtilbefdeanhnpaaUtfR
import Derived.Test.YtilbefdeanhnpaaDigM
import Derived.Test.YtilbefdeanhnpaaDigL
import Derived.Test.YtilbefdeanhnpaaDigR
import Derived.Test.YtilbefdeanhnpaaDecM
import Derived.Test.YtilbefdeanhnpaaDecR
import Derived.Test.YtilbefdeanhnpaaDecS
import Derived.Test.YtilbefdeanhnpaaDecC
import Derived.Test.YtilbefdeanhnpaaDecF
import Derived.Test.YtilbefdeanhnpaaDecG
import Derived.Test.YtilbefdeanhnpaaDecQ
import Derived.Test.YtilbefdeanhnpaaDecH
import Derived.Test.YtilbefdeanhnpaaDecI
import Derived.Test.YtilbefdeanhnpaaDecJ
import Derived.Test.YtilbefdeanhnpaaDecK
import Derived.Test.YtilbefdeanhnpaaDecO
import Derived.Test.YtilbefdeanhnpaaDecZ
import Derived.Test.YtilbefdeanhnpaaDecX
import Derived.Test.YtilbefdeanhnpaaDecAB
set_option linter.unusedVariables false
set_option linter.unusedSimpArgs false
namespace Go.Proofs.Ytilbefdeanhnpaa.decimalAligns
open Go.ChangeShapes Go.WideShapes Go.ChangeAt Go.RowKit
open Go.ChangeMaps (open_string shut_string)

theorem own : ownKnob Try.prog.godebug = none := by kernel_rfl
theorem laidOut : laidOutB Try.prog = true := by kernel_rfl


set_option maxHeartbeats 8000000 in
set_option maxRecDepth 100000 in
theorem walk (w : World) (g0 : Bool) (v0 : Value) (xs0 : List Int) (w0 : Lst w v0 xs0) (b0 : ∀ n ∈ xs0, -9223372036854775808 ≤ n ∧ n ≤ 9223372036854775807) (s0 : Int) (ws0 : -9223372036854775808 ≤ s0 ∧ s0 ≤ 9223372036854775807) (a1 : Int) (w1 : -9223372036854775808 ≤ a1 ∧ a1 ≤ 9223372036854775807) :
    Calls Try.prog 9 #[.agg #[.bool g0, v0, .int .i64 s0], .int .i64 a1] w fun e w' => e = .returned (.bool true) ∧ Q w w' := by
  have hR0 := w0
  obtain ⟨A0, C0, rfl, hnc0, hcm0⟩ := w0.shape2
  have hgl0 := Dm.gdL_len xs0 12
  have kX0 := Dm.gdL_ok xs0 12
  have hab0 := Um.around_bd s0 10 (by omega)
  obtain ⟨t0, ht0⟩ : ∃ t : Nat, Um.around s0 10 = (t : Int) := ⟨(Um.around s0 10).toNat, by omega⟩
  rw [ht0] at hab0
  have hs0 : t0 ≤ 9 := by omega
  obtain ⟨p0, hp0⟩ : ∃ p, (Dm.gdL xs0 12).length = p := ⟨_, rfl⟩
  have hpm0 : p0 ≤ 12 := by omega
  have G0 := Lib.hid (fun u (q : Q w u) => Ep.good_sh u g0 A0 xs0.length C0 s0 xs0 12 (w0.q q) rfl ws0 (by omega) b0 t0 p0 ht0 hp0)
  obtain ⟨q0, hq0⟩ : ∃ q, min xs0.length 12 = q := ⟨_, rfl⟩
  have FW0 := Lib.hid (fun u => Ep.few_sh u g0 A0 xs0.length C0 s0 12 q0 hnc0 hcm0 (by omega) hq0)
  have hT0 := w0.take q0 (by omega)
  have hRl0 : (xs0.take q0).length = q0 := by rw [List.length_take]; omega
  generalize xs0.take q0 = RR0 at *
  have HR0 := Lib.hid hT0
  generalize Dm.gdL xs0 12 = X0 at *
  generalize hn0 : xs0.length = n0 at *
  have HP0 := Lib.hid hp0
  have hql0 : q0 ≤ 12 := by omega
  have HRL0 := Lib.hid hRl0
  clear hgl0 hab0 ht0
  have A9 := Lib.hid (fun w => Ur.around_any a1 20 w w1.1 w1.2 (by omega) (by omega))
  have hab := Um.around_bd a1 20 (by omega)
  generalize Um.around a1 20 = K at *
  have AL0 := Lib.hid (Ep.align_both g0 t0 K X0 (by omega) (by omega) (by omega))
  have AL1 := Lib.hid (Ep.align_both g0 s0 K RR0 (by omega) (by omega) (by omega))
  have AL2 := Lib.hid (Ep.align_both g0 t0 a1 X0 (by omega) (by omega) (by omega))
  have LV := Lib.hid Ep.lives_any
  clear hR0 hnc0 hcm0 hs0 hpm0 hq0 hT0 hRl0 hql0 hab kX0 hp0 w0 b0
  go_enter Try.func9, Try.ntmps9
  have Q0 := Lib.hid (show Q w (w.alloc (.cells #[.bool g0, .slice A0 n0 C0, .int .i64 s0] 24)) from ((Q.refl w).alloc (.cells #[.bool g0, .slice A0 n0 C0, .int .i64 s0] 24)))
  have B0_i := Lib.hid (show (w.alloc (.cells #[.bool g0, .slice A0 n0 C0, .int .i64 s0] 24)).heap[w.heap.size]? = some (.cells #[.bool g0, .slice A0 n0 C0, .int .i64 s0] 24) from by exact heap_alloc_new _ _)
  obtain ⟨k_i0, k_i1, k_i2, _, _, _⟩ := Er.block_cells B0_i.out
  go_wp2_with fail
  have SQ := Lib.hid (fun u (q : Q ((w.alloc (.cells #[.bool g0, .slice A0 n0 C0, .int .i64 s0] 24))) u) => (Ep.SB1.of B0_i.out q : Ep.SB1 ((w.alloc (.cells #[.bool g0, .slice A0 n0 C0, .int .i64 s0] 24))) (w.heap.size) g0 (.slice A0 n0 C0) s0 u))
  clear k_i0 k_i1 k_i2
  refine wp_region_held_drew (S := fun u => Ep.SB1 ((w.alloc (.cells #[.bool g0, .slice A0 n0 C0, .int .i64 s0] 24))) (w.heap.size) g0 (.slice A0 n0 C0) s0 u) (by kernel_rfl) (by exact SQ.out _ ((Q.refl (w.alloc (.cells #[.bool g0, .slice A0 n0 C0, .int .i64 s0] 24))).drew)) (fun hHeld => ?_)
  have hS : Ep.SB1 ((w.alloc (.cells #[.bool g0, .slice A0 n0 C0, .int .i64 s0] 24))) (w.heap.size) g0 (.slice A0 n0 C0) s0 (w.alloc (.cells #[.bool g0, .slice A0 n0 C0, .int .i64 s0] 24)).drew := hHeld
  clear hHeld
  generalize (w.alloc (.cells #[.bool g0, .slice A0 n0 C0, .int .i64 s0] 24)).drew = yT1x0 at hS ⊢
  refine wpAnyH_take (i := 0) (oi := { dst := some 12, op := Op.load 24 (Operand.tmp 2), type := 24, pos := "law.go:108", after := #[], guard := none }) (v := ?vT1x1) rfl (by kernel_rfl) (by kernel_rfl) (by kernel_rfl) (fun _ _ _ h => h) (Or.inl ⟨by rfl, ?hyT1x1⟩) (by exact hS) ?rsT1x1
  case hyT1x1 => (intro w hSw; (try dsimp only at hSw); unfold Ep.SB1 at hSw; go_simp; try with_reducible rfl)
  try simp only [Act.put, List.setIfInBounds_toArray, List.set_cons_zero, List.set_cons_succ]
  refine wpAnyH_take (i := 2) (oi := { dst := some 14, op := Op.load 24 (Operand.tmp 2), type := 24, pos := "law.go:108", after := #[], guard := none }) (v := ?vT1x2) rfl (by kernel_rfl) (by kernel_rfl) (by kernel_rfl) (fun _ _ _ h => h) (Or.inl ⟨by rfl, ?hyT1x2⟩) (by exact hS) ?rsT1x2
  case hyT1x2 => (intro w hSw; (try dsimp only at hSw); unfold Ep.SB1 at hSw; go_simp; try with_reducible rfl)
  try simp only [Act.put, List.setIfInBounds_toArray, List.set_cons_zero, List.set_cons_succ]
  refine wpAnyH_take (i := 4) (oi := { dst := some 16, op := Op.load 24 (Operand.tmp 2), type := 24, pos := "law.go:108", after := #[], guard := none }) (v := ?vT1x3) rfl (by kernel_rfl) (by kernel_rfl) (by kernel_rfl) (fun _ _ _ h => h) (Or.inl ⟨by rfl, ?hyT1x3⟩) (by exact hS) ?rsT1x3
  case hyT1x3 => (intro w hSw; (try dsimp only at hSw); unfold Ep.SB1 at hSw; go_simp; try with_reducible rfl)
  try simp only [Act.put, List.setIfInBounds_toArray, List.set_cons_zero, List.set_cons_succ]
  refine wpAnyH_ready (rs := [1]) (by kernel_rfl) (by simp) ?_
  refine (AllReadyH.cons (o := { dst := some 13, op := Op.call { callee := Callee.value (Operand.func 12), args := #[Operand.tmp 12, Operand.const (Value.int IntKind.i64 12)], argTypes := #[24, 3] }, type := 24, pos := "law.go:108", after := #[{ on := 0, ground := Ground.data }], guard := none }) rfl (fun K hK => ?_) AllReadyH.nil)
  go_simp
  refine (G0.out _ (Q0.out.trans (Ep.SB1.here hS))).mono ?_
  rintro e yT1x4 ⟨a1x, c1x, rfl, hx1, hq⟩
  try (go_wp2_with fail)
  have hS2 := SQ.out _ (Q.trans (Ep.SB1.here hS) hq)
  refine hK.out _ _ (by exact hS2) (fun hHeld => ?_)
  clear hK K hHeld hS hq
  have hS := hS2
  clear hS2
  try simp only [Act.put, List.setIfInBounds_toArray, List.set_cons_zero, List.set_cons_succ]
  refine wpAnyH_ready (rs := [3]) (by kernel_rfl) (by simp) ?_
  refine (AllReadyH.cons (o := { dst := some 15, op := Op.call { callee := Callee.value (Operand.func 20), args := #[Operand.tmp 14, Operand.const (Value.int IntKind.i64 12)], argTypes := #[24, 3] }, type := 24, pos := "law.go:108", after := #[{ on := 2, ground := Ground.data }, { on := 1, ground := Ground.chain }], guard := none }) rfl (fun K hK => ?_) AllReadyH.nil)
  go_simp
  refine (FW0.out _).mono ?_
  rintro e yT1x5 ⟨rfl, hq⟩
  try (go_wp2_with fail)
  have hx1 := Lst.q hx1 hq
  have hS2 := SQ.out _ (Q.trans (Ep.SB1.here hS) hq)
  refine hK.out _ _ (by exact hS2) (fun hHeld => ?_)
  clear hK K hHeld hS hq
  have hS := hS2
  clear hS2
  try simp only [Act.put, List.setIfInBounds_toArray, List.set_cons_zero, List.set_cons_succ]
  refine wpAnyH_ready (rs := [5]) (by kernel_rfl) (by simp) ?_
  refine (AllReadyH.cons (o := { dst := some 17, op := Op.call { callee := Callee.value (Operand.func 12), args := #[Operand.tmp 16, Operand.const (Value.int IntKind.i64 12)], argTypes := #[24, 3] }, type := 24, pos := "law.go:108", after := #[{ on := 4, ground := Ground.data }, { on := 3, ground := Ground.chain }], guard := none }) rfl (fun K hK => ?_) AllReadyH.nil)
  go_simp
  refine (G0.out _ (Q0.out.trans (Ep.SB1.here hS))).mono ?_
  rintro e yT1x6 ⟨a2x, c2x, rfl, hx2, hq⟩
  try (go_wp2_with fail)
  have hx1 := Lst.q hx1 hq
  have hS2 := SQ.out _ (Q.trans (Ep.SB1.here hS) hq)
  refine hK.out _ _ (by exact hS2) (fun hHeld => ?_)
  clear hK K hHeld hS hq
  have hS := hS2
  clear hS2
  try simp only [Act.put, List.setIfInBounds_toArray, List.set_cons_zero, List.set_cons_succ]
  refine wpAnyH_ready (rs := [6]) (by kernel_rfl) (by simp) ?_
  refine (AllReadyH.cons (o := { dst := some 18, op := Op.buildSlice 54 3 #[(0, Operand.tmp 13), (1, Operand.tmp 15), (2, Operand.tmp 17)], type := 54, pos := "law.go:108", after := #[{ on := 1, ground := Ground.data }, { on := 3, ground := Ground.data }, { on := 5, ground := Ground.data }], guard := none }) rfl (fun K hK => ?_) AllReadyH.nil)
  go_simp
  have hq := (Q.refl yT1x6).alloc (.cells #[.bool g0, .slice a1x p0 c1x, .int .i64 t0, .bool g0, .slice A0 q0 C0, .int .i64 s0, .bool g0, .slice a2x p0 c2x, .int .i64 t0] 24)
  have HBX := heap_alloc_new yT1x6 (.cells #[.bool g0, .slice a1x p0 c1x, .int .i64 t0, .bool g0, .slice A0 q0 C0, .int .i64 s0, .bool g0, .slice a2x p0 c2x, .int .i64 t0] 24)
  have hx1 := Lst.q hx1 hq
  have hx2 := Lst.q hx2 hq
  have hS2 := SQ.out _ (Q.trans (Ep.SB1.here hS) hq)
  refine hK.out _ _ (by exact hS2) (fun hHeld => ?_)
  clear hK K hHeld hS hq
  have hS := hS2
  clear hS2
  generalize yT1x6.alloc (.cells #[.bool g0, .slice a1x p0 c1x, .int .i64 t0, .bool g0, .slice A0 q0 C0, .int .i64 s0, .bool g0, .slice a2x p0 c2x, .int .i64 t0] 24) = yT1x7 at *
  generalize yT1x6.heap.size = X at *
  try simp only [Act.put, List.setIfInBounds_toArray, List.set_cons_zero, List.set_cons_succ]
  refine wpAnyH_take (i := 7) (oi := { dst := some 5, op := Op.assign (Operand.tmp 18), type := 54, pos := "law.go:108", after := #[{ on := 6, ground := Ground.data }, { on := 5, ground := Ground.chain }, { on := 0, ground := Ground.phase }, { on := 1, ground := Ground.phase }, { on := 2, ground := Ground.phase }, { on := 3, ground := Ground.phase }, { on := 4, ground := Ground.phase }, { on := 5, ground := Ground.phase }, { on := 6, ground := Ground.phase }], guard := none }) (v := ?vT1x8) rfl (by kernel_rfl) (by kernel_rfl) (by kernel_rfl) (fun _ _ _ h => h) (Or.inl ⟨by rfl, ?hyT1x8⟩) (by exact hS) ?rsT1x8
  case hyT1x8 => (intro w hSw; (try dsimp only at hSw); unfold Ep.SB1 at hSw; go_simp; try with_reducible rfl)
  try simp only [Act.put, List.setIfInBounds_toArray, List.set_cons_zero, List.set_cons_succ]
  refine wpAnyH_done (by kernel_rfl) ?_ _
  have HL1 := Lib.hid hx1
  have HL2 := Lib.hid hx2
  have HX := Lib.hid HBX
  have QX := Lib.hid (Q0.out.trans (Ep.SB1.here hS))
  clear hS hx1 hx2 HBX SQ G0 FW0
  go_wp2_with fail
  refine (A9.out _).mono ?_
  rintro e y ⟨rfl, rfl⟩
  go_wp2_with fail
  refine (A9.out _).mono ?_
  rintro e y ⟨rfl, rfl⟩
  go_wp2_with fail
  have hqn := (Q.refl yT1x7).alloc (.cells #[.int .i64 K, .int .i64 K, .int .i64 a1] 3)
  have HN := Lib.hid (heap_alloc_new yT1x7 (.cells #[.int .i64 K, .int .i64 K, .int .i64 a1] 3))
  have HX2 := Lib.hid ((Q.block hqn (lt_of_block HX.out)).trans HX.out)
  have HQ2 := Lib.hid (QX.out.trans hqn)
  have HL12 := Lib.hid (HL1.out.q hqn)
  have HL22 := Lib.hid (HL2.out.q hqn)
  have HR02 := Lib.hid (HR0.out.q HQ2.out)
  have HNX := Lib.hid (lt_of_block HX.out)
  generalize (yT1x7.alloc (.cells #[.int .i64 K, .int .i64 K, .int .i64 a1] 3)) = W2 at *
  generalize yT1x7.heap.size = N at *
  clear hqn HX QX HL1 HL2 HR0 A9
  have hel : ∀ i : Nat, i < 3 → ∃ a n c s L k gr Z sr er, (∀ u : World, u.heap[X]? = some (.cells #[.bool g0, .slice a1x p0 c1x, .int .i64 t0, .bool g0, .slice A0 q0 C0, .int .i64 s0, .bool g0, .slice a2x p0 c2x, .int .i64 t0] 24) → u.cell? ⟨X, i * 3, none⟩ = some (.bool g0) ∧ u.cell? ⟨X, i * 3 + 1, none⟩ = some (.slice a n c) ∧ u.cell? ⟨X, i * 3 + 2, none⟩ = some (.int .i64 s)) ∧ (∀ u : World, u.heap[N]? = some (.cells #[.int .i64 K, .int .i64 K, .int .i64 a1] 3) → u.cell? ⟨N, i, none⟩ = some (.int .i64 k)) ∧ Lst W2 (.slice a n c) L ∧ Ep.F1 38 g0 s k L gr Z sr er ∧ Ep.F1 39 g0 s k L gr Z sr er ∧ Z.length < 9000 ∧ (er = 0 → sr = k ∧ ∀ u v x, Lst u v Z → Lst u x L → Calls Try.prog 30 #[.agg #[.bool gr, v, .int .i64 sr], .agg #[.bool g0, x, .int .i64 s]] u fun e w' => e = .returned (.int .i64 0) ∧ Q u w') := by
    intro i hi
    obtain ⟨r0, Z0, z0, e0, f1, f2, f3, f4⟩ := AL0.out
    obtain ⟨r1, Z1, z1, e1, f5, f6, f7, f8⟩ := AL1.out
    obtain ⟨r2, Z2, z2, e2, f9, f10, f11, f12⟩ := AL2.out
    rcases (show i = 0 ∨ i = 1 ∨ i = 2 from by omega) with rfl | rfl | rfl
    · exact ⟨_, _, _, _, _, _, _, _, _, _, fun u h => ⟨by simp [World.cell?, h], by simp [World.cell?, h], by simp [World.cell?, h]⟩, fun u h => by simp [World.cell?, h], HL12.out, f1, f2, f3, f4⟩
    · exact ⟨_, _, _, _, _, _, _, _, _, _, fun u h => ⟨by simp [World.cell?, h], by simp [World.cell?, h], by simp [World.cell?, h]⟩, fun u h => by simp [World.cell?, h], HR02.out, f5, f6, f7, f8⟩
    · exact ⟨_, _, _, _, _, _, _, _, _, _, fun u h => ⟨by simp [World.cell?, h], by simp [World.cell?, h], by simp [World.cell?, h]⟩, fun u h => by simp [World.cell?, h], HL22.out, f9, f10, f11, f12⟩
  have HEL := Lib.hid hel
  clear hel AL0 AL1 AL2 HL12 HL22 HR02
  go_loopw [7] (fun iv wr => ∃ i : Nat, iv = .int .i64 i ∧ i ≤ 3 ∧ wr.heap[X]? = some (.cells #[.bool g0, .slice a1x p0 c1x, .int .i64 t0, .bool g0, .slice A0 q0 C0, .int .i64 s0, .bool g0, .slice a2x p0 c2x, .int .i64 t0] 24) ∧ wr.heap[N]? = some (.cells #[.int .i64 K, .int .i64 K, .int .i64 a1] 3) ∧ Q W2 wr) (fun iv _ => 3 - (intOf iv).toNat)
  case atStart => exact ⟨0, rfl, by omega, HX2.out, HN.out, Q.refl _⟩
  case round =>
    obtain ⟨i, rfl, hi, hbx, hbn, hq⟩ := hrel
    by_cases hlt : i < 3
    · have HBX := Lib.hid hbx
      have HBN := Lib.hid hbn
      have QR := Lib.hid hq
      clear hbx hbn hq
      obtain ⟨a, n, c, s, L, k, gr, Z, sr, er, hcx, hcn, hl, pp, rp, hzl, hcmp⟩ := HEL.out i hlt
      obtain ⟨zl, hzle⟩ : ∃ zl, Z.length = zl := ⟨_, rfl⟩
      unfold Ep.F1 at pp rp
      simp only [hzle] at pp rp
      have CX := Lib.hid hcx
      have CN := Lib.hid hcn
      have HL := Lib.hid (hl.q QR.out)
      have PP := Lib.hid pp
      have RP := Lib.hid rp
      have HZL := Lib.hid hzl
      have HC := Lib.hid hcmp
      have hlti : (i : Int) < 3 := by omega
      clear hcx hcn hl pp rp hzl hcmp hzle
      have SQ := Lib.hid (fun u (q : Q wr u) => (by
        obtain ⟨x0, x1, x2⟩ := CX.out u ((Q.block q (lt_of_block HBX.out)).trans HBX.out)
        exact ⟨x0, x1, x2, CN.out u ((Q.block q (lt_of_block HBN.out)).trans HBN.out), q⟩ : Ep.SX wr X N i g0 (.slice a n c) s k u))
      go_upto_region 6 with fail
      go_cut [8, 9] from 25 to 84 (fun p e wx => ∃ b a9 c9, p = .pointer (some ⟨b, 0, none⟩) ∧ e = .int .i64 er ∧ wx.heap[b]? = some (.cells #[.bool gr, .slice a9 zl c9, .int .i64 sr] 32) ∧ Lst wx (.slice a9 zl c9) Z ∧ Q wr wx)
      case first =>
        refine wp_region_held_drew (S := fun u => Ep.SX wr X N i g0 (.slice a n c) s k u) (by kernel_rfl) (by exact SQ.out _ ((Q.refl wr).drew)) (fun hHeld => ?_)
        have hS : Ep.SX wr X N i g0 (.slice a n c) s k wr.drew := hHeld
        clear hHeld
        generalize wr.drew = yT2x0 at hS ⊢
        refine wpAnyH_take (i := 0) (oi := { dst := some 30, op := Op.move (Operand.tmp 5), type := 54, pos := "law.go:111", after := #[], guard := none }) (v := ?vT2x1) rfl (by kernel_rfl) (by kernel_rfl) (by kernel_rfl) (fun _ _ _ h => h) (Or.inl ⟨by rfl, ?hyT2x1⟩) (by exact hS) ?rsT2x1
        case hyT2x1 => (intro w hSw; (try dsimp only at hSw); unfold Ep.SX at hSw; go_simp; try with_reducible rfl)
        try simp only [Act.put, List.setIfInBounds_toArray, List.set_cons_zero, List.set_cons_succ]
        refine wpAnyH_take (i := 1) (oi := { dst := some 31, op := Op.move (Operand.tmp 7), type := 3, pos := "law.go:111", after := #[], guard := none }) (v := ?vT2x2) rfl (by kernel_rfl) (by kernel_rfl) (by kernel_rfl) (fun _ _ _ h => h) (Or.inl ⟨by rfl, ?hyT2x2⟩) (by exact hS) ?rsT2x2
        case hyT2x2 => (intro w hSw; (try dsimp only at hSw); unfold Ep.SX at hSw; go_simp; try with_reducible rfl)
        try simp only [Act.put, List.setIfInBounds_toArray, List.set_cons_zero, List.set_cons_succ]
        refine wpAnyH_take (i := 2) (oi := { dst := some 32, op := Op.indexAddr 54 (Operand.tmp 30) (Operand.tmp 31), type := 0, pos := "law.go:111", after := #[{ on := 0, ground := Ground.data }, { on := 1, ground := Ground.data }], guard := none }) (v := ?vT2x3) rfl (by kernel_rfl) (by kernel_rfl) (by kernel_rfl) (fun _ _ _ h => h) (Or.inl ⟨by rfl, ?hyT2x3⟩) (by exact hS) ?rsT2x3
        case hyT2x3 => (intro w hSw; (try dsimp only at hSw); unfold Ep.SX at hSw; go_simp; try with_reducible rfl)
        try simp only [Act.put, List.setIfInBounds_toArray, List.set_cons_zero, List.set_cons_succ]
        refine wpAnyH_take (i := 3) (oi := { dst := some 33, op := Op.load 24 (Operand.tmp 32), type := 24, pos := "law.go:111", after := #[{ on := 2, ground := Ground.data }], guard := none }) (v := ?vT2x4) rfl (by kernel_rfl) (by kernel_rfl) (by kernel_rfl) (fun _ _ _ h => h) (Or.inl ⟨by rfl, ?hyT2x4⟩) (by exact hS) ?rsT2x4
        case hyT2x4 => (intro w hSw; (try dsimp only at hSw); unfold Ep.SX at hSw; go_simp; try with_reducible rfl)
        try simp only [Act.put, List.setIfInBounds_toArray, List.set_cons_zero, List.set_cons_succ]
        refine wpAnyH_take (i := 5) (oi := { dst := some 35, op := Op.move (Operand.tmp 6), type := 22, pos := "law.go:111", after := #[], guard := none }) (v := ?vT2x5) rfl (by kernel_rfl) (by kernel_rfl) (by kernel_rfl) (fun _ _ _ h => h) (Or.inl ⟨by rfl, ?hyT2x5⟩) (by exact hS) ?rsT2x5
        case hyT2x5 => (intro w hSw; (try dsimp only at hSw); unfold Ep.SX at hSw; go_simp; try with_reducible rfl)
        try simp only [Act.put, List.setIfInBounds_toArray, List.set_cons_zero, List.set_cons_succ]
        refine wpAnyH_take (i := 6) (oi := { dst := some 36, op := Op.move (Operand.tmp 7), type := 3, pos := "law.go:111", after := #[], guard := none }) (v := ?vT2x6) rfl (by kernel_rfl) (by kernel_rfl) (by kernel_rfl) (fun _ _ _ h => h) (Or.inl ⟨by rfl, ?hyT2x6⟩) (by exact hS) ?rsT2x6
        case hyT2x6 => (intro w hSw; (try dsimp only at hSw); unfold Ep.SX at hSw; go_simp; try with_reducible rfl)
        try simp only [Act.put, List.setIfInBounds_toArray, List.set_cons_zero, List.set_cons_succ]
        refine wpAnyH_take (i := 7) (oi := { dst := some 37, op := Op.indexAddr 22 (Operand.tmp 35) (Operand.tmp 36), type := 0, pos := "law.go:111", after := #[{ on := 5, ground := Ground.data }, { on := 6, ground := Ground.data }], guard := none }) (v := ?vT2x7) rfl (by kernel_rfl) (by kernel_rfl) (by kernel_rfl) (fun _ _ _ h => h) (Or.inl ⟨by rfl, ?hyT2x7⟩) (by exact hS) ?rsT2x7
        case hyT2x7 => (intro w hSw; (try dsimp only at hSw); unfold Ep.SX at hSw; go_simp; try with_reducible rfl)
        try simp only [Act.put, List.setIfInBounds_toArray, List.set_cons_zero, List.set_cons_succ]
        refine wpAnyH_take (i := 8) (oi := { dst := some 38, op := Op.load 3 (Operand.tmp 37), type := 3, pos := "law.go:111", after := #[{ on := 7, ground := Ground.data }], guard := none }) (v := ?vT2x8) rfl (by kernel_rfl) (by kernel_rfl) (by kernel_rfl) (fun _ _ _ h => h) (Or.inl ⟨by rfl, ?hyT2x8⟩) (by exact hS) ?rsT2x8
        case hyT2x8 => (intro w hSw; (try dsimp only at hSw); unfold Ep.SX at hSw; go_simp; try with_reducible rfl)
        try simp only [Act.put, List.setIfInBounds_toArray, List.set_cons_zero, List.set_cons_succ]
        refine wpAnyH_ready (rs := [4, 13]) (by kernel_rfl) (by simp) ?_
        refine (AllReadyH.cons (o := { dst := some 34, op := Op.call { callee := Callee.value (Operand.func 22), args := #[Operand.tmp 33], argTypes := #[24] }, type := 32, pos := "law.go:111", after := #[{ on := 3, ground := Ground.data }], guard := none }) rfl (fun K hK => ?_) (AllReadyH.cons (o := { dst := some 8, op := Op.alloc 32, type := 0, pos := "law.go:111", after := #[], guard := none }) rfl (fun K hK => ?_) AllReadyH.nil))
        · go_simp
          refine (Ep.of_sh _ _ _ _ _ _).mono ?_
          rintro e yT2x9 ⟨rfl, hq⟩
          try (go_wp2_with fail)
          have hS2 := SQ.out _ (Q.trans (Ep.SX.here hS) hq)
          refine hK.out _ _ (by exact hS2) (fun hHeld => ?_)
          clear hK K hHeld hS hq
          have hS := hS2
          clear hS2
          try simp only [Act.put, List.setIfInBounds_toArray, List.set_cons_zero, List.set_cons_succ]
          refine wpAnyH_ready (rs := [9, 13]) (by kernel_rfl) (by simp) ?_
          refine (AllReadyH.cons (o := { dst := some 39, op := Op.call { callee := Callee.value (Operand.func 38), args := #[Operand.tmp 34, Operand.tmp 38], argTypes := #[32, 3] }, type := 34, pos := "law.go:111", after := #[{ on := 4, ground := Ground.data }, { on := 8, ground := Ground.data }, { on := 4, ground := Ground.chain }], guard := none }) rfl (fun K hK => ?_) (AllReadyH.cons (o := { dst := some 8, op := Op.alloc 32, type := 0, pos := "law.go:111", after := #[], guard := none }) rfl (fun K hK => ?_) AllReadyH.nil))
          · go_simp
            refine (PP.out _ _ (HL.out.q (Ep.SX.here hS))).mono ?_
            rintro e yT2x10 ⟨a9, c9, rfl, hx9, hq⟩
            try (go_wp2_with fail)
            have hlf := hx9
            have hx9 := Ep.lf_lst hlf
            clear hlf
            have hS2 := SQ.out _ (Q.trans (Ep.SX.here hS) hq)
            refine hK.out _ _ (by exact hS2) (fun hHeld => ?_)
            clear hK K hHeld hS hq
            have hS := hS2
            clear hS2
            try simp only [Act.put, List.setIfInBounds_toArray, List.set_cons_zero, List.set_cons_succ]
            refine wpAnyH_take (i := 10) (oi := { dst := some 29, op := Op.move (Operand.tmp 39), type := 34, pos := "law.go:111", after := #[{ on := 9, ground := Ground.data }], guard := none }) (v := ?vT2x11) rfl (by kernel_rfl) (by kernel_rfl) (by kernel_rfl) (fun _ _ _ h => h) (Or.inl ⟨by rfl, ?hyT2x11⟩) (by exact hS) ?rsT2x11
            case hyT2x11 => (intro w hSw; (try dsimp only at hSw); unfold Ep.SX at hSw; go_simp; try with_reducible rfl)
            try simp only [Act.put, List.setIfInBounds_toArray, List.set_cons_zero, List.set_cons_succ]
            refine wpAnyH_take (i := 11) (oi := { dst := some 40, op := Op.extract (Operand.tmp 29) 0, type := 32, pos := "law.go:111", after := #[{ on := 10, ground := Ground.data }], guard := none }) (v := ?vT2x12) rfl (by kernel_rfl) (by kernel_rfl) (by kernel_rfl) (fun _ _ _ h => h) (Or.inl ⟨by rfl, ?hyT2x12⟩) (by exact hS) ?rsT2x12
            case hyT2x12 => (intro w hSw; (try dsimp only at hSw); unfold Ep.SX at hSw; go_simp; try with_reducible rfl)
            try simp only [Act.put, List.setIfInBounds_toArray, List.set_cons_zero, List.set_cons_succ]
            refine wpAnyH_take (i := 12) (oi := { dst := some 41, op := Op.extract (Operand.tmp 29) 1, type := 33, pos := "law.go:111", after := #[{ on := 10, ground := Ground.data }, { on := 14, ground := Ground.gcOnly Departure.lateStores }], guard := none }) (v := ?vT2x13) rfl (by kernel_rfl) (by kernel_rfl) (by kernel_rfl) (fun _ _ _ h => h) (Or.inl ⟨by rfl, ?hyT2x13⟩) (by exact hS) ?rsT2x13
            case hyT2x13 => (intro w hSw; (try dsimp only at hSw); unfold Ep.SX at hSw; go_simp; try with_reducible rfl)
            try simp only [Act.put, List.setIfInBounds_toArray, List.set_cons_zero, List.set_cons_succ]
            refine wpAnyH_ready (rs := [13]) (by kernel_rfl) (by simp) ?_
            refine (AllReadyH.cons (o := { dst := some 8, op := Op.alloc 32, type := 0, pos := "law.go:111", after := #[], guard := none }) rfl (fun K hK => ?_) AllReadyH.nil)
            go_simp
            have hq := (Q.refl yT2x10).alloc (.cells #[.bool false, .slice none 0 0, .int .i64 0] 32)
            have hB := heap_alloc_new yT2x10 (.cells #[.bool false, .slice none 0 0, .int .i64 0] 32)
            have hbu : yT2x10.heap.size < (yT2x10.alloc (.cells #[.bool false, .slice none 0 0, .int .i64 0] 32)).heap.size := by rw [World.size_alloc]; omega
            have hWb := (Ep.SX.here hS).le
            have hne_hx9 : ∀ (a : Addr) (n c : Nat), (.slice a9 zl c9 : Value) = .slice (some a) n c → n ≠ 0 → a.block ≠ yT2x10.heap.size := fun a n c h1 h2 => Nat.ne_of_lt (Lst.old hx9 a n c h1 h2)
            have hx9 := Lst.q hx9 hq
            have hS2 := SQ.out _ (Q.trans (Ep.SX.here hS) hq)
            refine hK.out _ _ (by exact hS2) (fun hHeld => ?_)
            clear hK K hHeld hS hq
            have hS := hS2
            clear hS2
            generalize yT2x10.alloc (.cells #[.bool false, .slice none 0 0, .int .i64 0] 32) = yT2x14 at *
            generalize yT2x10.heap.size = b at *
            have hne := hne_hx9
            try simp only [Act.put, List.setIfInBounds_toArray, List.set_cons_zero, List.set_cons_succ]
            refine wpAnyH_ready (rs := [14]) (by kernel_rfl) (by simp) ?_
            refine (AllReadyH.cons (o := { dst := none, op := Op.store 32 (Operand.tmp 8) (Operand.tmp 40), type := 0, pos := "law.go:111", after := #[{ on := 13, ground := Ground.data }, { on := 11, ground := Ground.data }, { on := 9, ground := Ground.chain }, { on := 0, ground := Ground.phase }, { on := 1, ground := Ground.phase }, { on := 2, ground := Ground.phase }, { on := 3, ground := Ground.phase }, { on := 4, ground := Ground.phase }, { on := 5, ground := Ground.phase }, { on := 6, ground := Ground.phase }, { on := 7, ground := Ground.phase }, { on := 8, ground := Ground.phase }, { on := 9, ground := Ground.phase }, { on := 10, ground := Ground.phase }, { on := 11, ground := Ground.phase }, { on := 12, ground := Ground.textOnly Departure.lateStores }, { on := 13, ground := Ground.phase }], guard := none }) rfl (fun K hK => ?_) AllReadyH.nil)
            obtain ⟨f0, f1, f2, f3, f4, f5⟩ := Er.block_cells hB
            have hset := Er.block_set (x' := .bool gr) (y' := .slice a9 zl c9) (z' := .int .i64 sr) hB
            have hqW := ((Q.setCell (Q.setCell (Q.setCell (Ep.SX.here hS) (ad := ⟨b, 0, none⟩) hWb (.bool gr)) (ad := ⟨b, 1, none⟩) hWb (.slice a9 zl c9)) (ad := ⟨b, 2, none⟩) hWb (.int .i64 sr)))
            have hl := Lst.setCell (Lst.setCell (Lst.setCell hx9 (ad := ⟨b, 0, none⟩) (.bool gr) hne) (ad := ⟨b, 1, none⟩) (.slice a9 zl c9) hne) (ad := ⟨b, 2, none⟩) (.int .i64 sr) hne
            go_simp
            have hS2 := SQ.out _ hqW
            refine hK.out _ _ (by exact hS2) (fun hHeld => ?_)
            clear hK K hHeld hS
            have hS := hS2
            clear hS2 f0 f1 f2 f3 f4 f5
            try simp only [Act.put, List.setIfInBounds_toArray, List.set_cons_zero, List.set_cons_succ]
            refine wpAnyH_take (i := 15) (oi := { dst := some 9, op := Op.assign (Operand.tmp 41), type := 33, pos := "law.go:111", after := #[{ on := 12, ground := Ground.data }, { on := 14, ground := Ground.chain }, { on := 0, ground := Ground.phase }, { on := 1, ground := Ground.phase }, { on := 2, ground := Ground.phase }, { on := 3, ground := Ground.phase }, { on := 4, ground := Ground.phase }, { on := 5, ground := Ground.phase }, { on := 6, ground := Ground.phase }, { on := 7, ground := Ground.phase }, { on := 8, ground := Ground.phase }, { on := 9, ground := Ground.phase }, { on := 10, ground := Ground.phase }, { on := 11, ground := Ground.phase }, { on := 12, ground := Ground.phase }, { on := 13, ground := Ground.phase }, { on := 14, ground := Ground.phase }], guard := none }) (v := ?vT2x16) rfl (by kernel_rfl) (by kernel_rfl) (by kernel_rfl) (fun _ _ _ h => h) (Or.inl ⟨by rfl, ?hyT2x16⟩) (by exact hS) ?rsT2x16
            case hyT2x16 => (intro w hSw; (try dsimp only at hSw); unfold Ep.SX at hSw; go_simp; try with_reducible rfl)
            try simp only [Act.put, List.setIfInBounds_toArray, List.set_cons_zero, List.set_cons_succ]
            refine wpAnyH_done (by kernel_rfl) ?_ _
            go_wp2_with fail
            go_meet
            exact ⟨b, a9, c9, rfl, rfl, hset, hl, hqW⟩
          · go_simp
            have hq := (Q.refl yT2x9).alloc (.cells #[.bool false, .slice none 0 0, .int .i64 0] 32)
            have hB := heap_alloc_new yT2x9 (.cells #[.bool false, .slice none 0 0, .int .i64 0] 32)
            have hbu : yT2x9.heap.size < (yT2x9.alloc (.cells #[.bool false, .slice none 0 0, .int .i64 0] 32)).heap.size := by rw [World.size_alloc]; omega
            have hWb := (Ep.SX.here hS).le
            have hS2 := SQ.out _ (Q.trans (Ep.SX.here hS) hq)
            refine hK.out _ _ (by exact hS2) (fun hHeld => ?_)
            clear hK K hHeld hS hq
            have hS := hS2
            clear hS2
            generalize yT2x9.alloc (.cells #[.bool false, .slice none 0 0, .int .i64 0] 32) = yT2x17 at *
            generalize yT2x9.heap.size = b at *
            try simp only [Act.put, List.setIfInBounds_toArray, List.set_cons_zero, List.set_cons_succ]
            refine wpAnyH_ready (rs := [9]) (by kernel_rfl) (by simp) ?_
            refine (AllReadyH.cons (o := { dst := some 39, op := Op.call { callee := Callee.value (Operand.func 38), args := #[Operand.tmp 34, Operand.tmp 38], argTypes := #[32, 3] }, type := 34, pos := "law.go:111", after := #[{ on := 4, ground := Ground.data }, { on := 8, ground := Ground.data }, { on := 4, ground := Ground.chain }], guard := none }) rfl (fun K hK => ?_) AllReadyH.nil)
            go_simp
            refine (PP.out _ _ (HL.out.q (Ep.SX.here hS))).mono ?_
            rintro e yT2x18 ⟨a9, c9, rfl, hx9, hq⟩
            try (go_wp2_with fail)
            have hB := (Q.block hq (lt_of_block hB)).trans hB
            have hlf := hx9
            have hx9 := Ep.lf_lst hlf
            have hne : ∀ (a : Addr) (n c : Nat), (.slice a9 zl c9 : Value) = .slice (some a) n c → n ≠ 0 → a.block ≠ b := Ep.lf_ne hlf hbu
            clear hlf
            have hS2 := SQ.out _ (Q.trans (Ep.SX.here hS) hq)
            have hbu := Nat.lt_of_lt_of_le hbu hq.le
            refine hK.out _ _ (by exact hS2) (fun hHeld => ?_)
            clear hK K hHeld hS hq
            have hS := hS2
            clear hS2
            try simp only [Act.put, List.setIfInBounds_toArray, List.set_cons_zero, List.set_cons_succ]
            refine wpAnyH_take (i := 10) (oi := { dst := some 29, op := Op.move (Operand.tmp 39), type := 34, pos := "law.go:111", after := #[{ on := 9, ground := Ground.data }], guard := none }) (v := ?vT2x19) rfl (by kernel_rfl) (by kernel_rfl) (by kernel_rfl) (fun _ _ _ h => h) (Or.inl ⟨by rfl, ?hyT2x19⟩) (by exact hS) ?rsT2x19
            case hyT2x19 => (intro w hSw; (try dsimp only at hSw); unfold Ep.SX at hSw; go_simp; try with_reducible rfl)
            try simp only [Act.put, List.setIfInBounds_toArray, List.set_cons_zero, List.set_cons_succ]
            refine wpAnyH_take (i := 11) (oi := { dst := some 40, op := Op.extract (Operand.tmp 29) 0, type := 32, pos := "law.go:111", after := #[{ on := 10, ground := Ground.data }], guard := none }) (v := ?vT2x20) rfl (by kernel_rfl) (by kernel_rfl) (by kernel_rfl) (fun _ _ _ h => h) (Or.inl ⟨by rfl, ?hyT2x20⟩) (by exact hS) ?rsT2x20
            case hyT2x20 => (intro w hSw; (try dsimp only at hSw); unfold Ep.SX at hSw; go_simp; try with_reducible rfl)
            try simp only [Act.put, List.setIfInBounds_toArray, List.set_cons_zero, List.set_cons_succ]
            refine wpAnyH_take (i := 12) (oi := { dst := some 41, op := Op.extract (Operand.tmp 29) 1, type := 33, pos := "law.go:111", after := #[{ on := 10, ground := Ground.data }, { on := 14, ground := Ground.gcOnly Departure.lateStores }], guard := none }) (v := ?vT2x21) rfl (by kernel_rfl) (by kernel_rfl) (by kernel_rfl) (fun _ _ _ h => h) (Or.inl ⟨by rfl, ?hyT2x21⟩) (by exact hS) ?rsT2x21
            case hyT2x21 => (intro w hSw; (try dsimp only at hSw); unfold Ep.SX at hSw; go_simp; try with_reducible rfl)
            try simp only [Act.put, List.setIfInBounds_toArray, List.set_cons_zero, List.set_cons_succ]
            refine wpAnyH_ready (rs := [14]) (by kernel_rfl) (by simp) ?_
            refine (AllReadyH.cons (o := { dst := none, op := Op.store 32 (Operand.tmp 8) (Operand.tmp 40), type := 0, pos := "law.go:111", after := #[{ on := 13, ground := Ground.data }, { on := 11, ground := Ground.data }, { on := 9, ground := Ground.chain }, { on := 0, ground := Ground.phase }, { on := 1, ground := Ground.phase }, { on := 2, ground := Ground.phase }, { on := 3, ground := Ground.phase }, { on := 4, ground := Ground.phase }, { on := 5, ground := Ground.phase }, { on := 6, ground := Ground.phase }, { on := 7, ground := Ground.phase }, { on := 8, ground := Ground.phase }, { on := 9, ground := Ground.phase }, { on := 10, ground := Ground.phase }, { on := 11, ground := Ground.phase }, { on := 12, ground := Ground.textOnly Departure.lateStores }, { on := 13, ground := Ground.phase }], guard := none }) rfl (fun K hK => ?_) AllReadyH.nil)
            obtain ⟨f0, f1, f2, f3, f4, f5⟩ := Er.block_cells hB
            have hset := Er.block_set (x' := .bool gr) (y' := .slice a9 zl c9) (z' := .int .i64 sr) hB
            have hqW := ((Q.setCell (Q.setCell (Q.setCell (Ep.SX.here hS) (ad := ⟨b, 0, none⟩) hWb (.bool gr)) (ad := ⟨b, 1, none⟩) hWb (.slice a9 zl c9)) (ad := ⟨b, 2, none⟩) hWb (.int .i64 sr)))
            have hl := Lst.setCell (Lst.setCell (Lst.setCell hx9 (ad := ⟨b, 0, none⟩) (.bool gr) hne) (ad := ⟨b, 1, none⟩) (.slice a9 zl c9) hne) (ad := ⟨b, 2, none⟩) (.int .i64 sr) hne
            go_simp
            have hS2 := SQ.out _ hqW
            refine hK.out _ _ (by exact hS2) (fun hHeld => ?_)
            clear hK K hHeld hS
            have hS := hS2
            clear hS2 f0 f1 f2 f3 f4 f5
            try simp only [Act.put, List.setIfInBounds_toArray, List.set_cons_zero, List.set_cons_succ]
            refine wpAnyH_take (i := 15) (oi := { dst := some 9, op := Op.assign (Operand.tmp 41), type := 33, pos := "law.go:111", after := #[{ on := 12, ground := Ground.data }, { on := 14, ground := Ground.chain }, { on := 0, ground := Ground.phase }, { on := 1, ground := Ground.phase }, { on := 2, ground := Ground.phase }, { on := 3, ground := Ground.phase }, { on := 4, ground := Ground.phase }, { on := 5, ground := Ground.phase }, { on := 6, ground := Ground.phase }, { on := 7, ground := Ground.phase }, { on := 8, ground := Ground.phase }, { on := 9, ground := Ground.phase }, { on := 10, ground := Ground.phase }, { on := 11, ground := Ground.phase }, { on := 12, ground := Ground.phase }, { on := 13, ground := Ground.phase }, { on := 14, ground := Ground.phase }], guard := none }) (v := ?vT2x23) rfl (by kernel_rfl) (by kernel_rfl) (by kernel_rfl) (fun _ _ _ h => h) (Or.inl ⟨by rfl, ?hyT2x23⟩) (by exact hS) ?rsT2x23
            case hyT2x23 => (intro w hSw; (try dsimp only at hSw); unfold Ep.SX at hSw; go_simp; try with_reducible rfl)
            try simp only [Act.put, List.setIfInBounds_toArray, List.set_cons_zero, List.set_cons_succ]
            refine wpAnyH_done (by kernel_rfl) ?_ _
            go_wp2_with fail
            go_meet
            exact ⟨b, a9, c9, rfl, rfl, hset, hl, hqW⟩
        · go_simp
          have hq := (Q.refl yT2x0).alloc (.cells #[.bool false, .slice none 0 0, .int .i64 0] 32)
          have hB := heap_alloc_new yT2x0 (.cells #[.bool false, .slice none 0 0, .int .i64 0] 32)
          have hbu : yT2x0.heap.size < (yT2x0.alloc (.cells #[.bool false, .slice none 0 0, .int .i64 0] 32)).heap.size := by rw [World.size_alloc]; omega
          have hWb := (Ep.SX.here hS).le
          have hS2 := SQ.out _ (Q.trans (Ep.SX.here hS) hq)
          refine hK.out _ _ (by exact hS2) (fun hHeld => ?_)
          clear hK K hHeld hS hq
          have hS := hS2
          clear hS2
          generalize yT2x0.alloc (.cells #[.bool false, .slice none 0 0, .int .i64 0] 32) = yT2x24 at *
          generalize yT2x0.heap.size = b at *
          try simp only [Act.put, List.setIfInBounds_toArray, List.set_cons_zero, List.set_cons_succ]
          refine wpAnyH_ready (rs := [4]) (by kernel_rfl) (by simp) ?_
          refine (AllReadyH.cons (o := { dst := some 34, op := Op.call { callee := Callee.value (Operand.func 22), args := #[Operand.tmp 33], argTypes := #[24] }, type := 32, pos := "law.go:111", after := #[{ on := 3, ground := Ground.data }], guard := none }) rfl (fun K hK => ?_) AllReadyH.nil)
          go_simp
          refine (Ep.of_sh _ _ _ _ _ _).mono ?_
          rintro e yT2x25 ⟨rfl, hq⟩
          try (go_wp2_with fail)
          have hB := (Q.block hq (lt_of_block hB)).trans hB
          have hS2 := SQ.out _ (Q.trans (Ep.SX.here hS) hq)
          have hbu := Nat.lt_of_lt_of_le hbu hq.le
          refine hK.out _ _ (by exact hS2) (fun hHeld => ?_)
          clear hK K hHeld hS hq
          have hS := hS2
          clear hS2
          try simp only [Act.put, List.setIfInBounds_toArray, List.set_cons_zero, List.set_cons_succ]
          refine wpAnyH_ready (rs := [9]) (by kernel_rfl) (by simp) ?_
          refine (AllReadyH.cons (o := { dst := some 39, op := Op.call { callee := Callee.value (Operand.func 38), args := #[Operand.tmp 34, Operand.tmp 38], argTypes := #[32, 3] }, type := 34, pos := "law.go:111", after := #[{ on := 4, ground := Ground.data }, { on := 8, ground := Ground.data }, { on := 4, ground := Ground.chain }], guard := none }) rfl (fun K hK => ?_) AllReadyH.nil)
          go_simp
          refine (PP.out _ _ (HL.out.q (Ep.SX.here hS))).mono ?_
          rintro e yT2x26 ⟨a9, c9, rfl, hx9, hq⟩
          try (go_wp2_with fail)
          have hB := (Q.block hq (lt_of_block hB)).trans hB
          have hlf := hx9
          have hx9 := Ep.lf_lst hlf
          have hne : ∀ (a : Addr) (n c : Nat), (.slice a9 zl c9 : Value) = .slice (some a) n c → n ≠ 0 → a.block ≠ b := Ep.lf_ne hlf hbu
          clear hlf
          have hS2 := SQ.out _ (Q.trans (Ep.SX.here hS) hq)
          have hbu := Nat.lt_of_lt_of_le hbu hq.le
          refine hK.out _ _ (by exact hS2) (fun hHeld => ?_)
          clear hK K hHeld hS hq
          have hS := hS2
          clear hS2
          try simp only [Act.put, List.setIfInBounds_toArray, List.set_cons_zero, List.set_cons_succ]
          refine wpAnyH_take (i := 10) (oi := { dst := some 29, op := Op.move (Operand.tmp 39), type := 34, pos := "law.go:111", after := #[{ on := 9, ground := Ground.data }], guard := none }) (v := ?vT2x27) rfl (by kernel_rfl) (by kernel_rfl) (by kernel_rfl) (fun _ _ _ h => h) (Or.inl ⟨by rfl, ?hyT2x27⟩) (by exact hS) ?rsT2x27
          case hyT2x27 => (intro w hSw; (try dsimp only at hSw); unfold Ep.SX at hSw; go_simp; try with_reducible rfl)
          try simp only [Act.put, List.setIfInBounds_toArray, List.set_cons_zero, List.set_cons_succ]
          refine wpAnyH_take (i := 11) (oi := { dst := some 40, op := Op.extract (Operand.tmp 29) 0, type := 32, pos := "law.go:111", after := #[{ on := 10, ground := Ground.data }], guard := none }) (v := ?vT2x28) rfl (by kernel_rfl) (by kernel_rfl) (by kernel_rfl) (fun _ _ _ h => h) (Or.inl ⟨by rfl, ?hyT2x28⟩) (by exact hS) ?rsT2x28
          case hyT2x28 => (intro w hSw; (try dsimp only at hSw); unfold Ep.SX at hSw; go_simp; try with_reducible rfl)
          try simp only [Act.put, List.setIfInBounds_toArray, List.set_cons_zero, List.set_cons_succ]
          refine wpAnyH_take (i := 12) (oi := { dst := some 41, op := Op.extract (Operand.tmp 29) 1, type := 33, pos := "law.go:111", after := #[{ on := 10, ground := Ground.data }, { on := 14, ground := Ground.gcOnly Departure.lateStores }], guard := none }) (v := ?vT2x29) rfl (by kernel_rfl) (by kernel_rfl) (by kernel_rfl) (fun _ _ _ h => h) (Or.inl ⟨by rfl, ?hyT2x29⟩) (by exact hS) ?rsT2x29
          case hyT2x29 => (intro w hSw; (try dsimp only at hSw); unfold Ep.SX at hSw; go_simp; try with_reducible rfl)
          try simp only [Act.put, List.setIfInBounds_toArray, List.set_cons_zero, List.set_cons_succ]
          refine wpAnyH_ready (rs := [14]) (by kernel_rfl) (by simp) ?_
          refine (AllReadyH.cons (o := { dst := none, op := Op.store 32 (Operand.tmp 8) (Operand.tmp 40), type := 0, pos := "law.go:111", after := #[{ on := 13, ground := Ground.data }, { on := 11, ground := Ground.data }, { on := 9, ground := Ground.chain }, { on := 0, ground := Ground.phase }, { on := 1, ground := Ground.phase }, { on := 2, ground := Ground.phase }, { on := 3, ground := Ground.phase }, { on := 4, ground := Ground.phase }, { on := 5, ground := Ground.phase }, { on := 6, ground := Ground.phase }, { on := 7, ground := Ground.phase }, { on := 8, ground := Ground.phase }, { on := 9, ground := Ground.phase }, { on := 10, ground := Ground.phase }, { on := 11, ground := Ground.phase }, { on := 12, ground := Ground.textOnly Departure.lateStores }, { on := 13, ground := Ground.phase }], guard := none }) rfl (fun K hK => ?_) AllReadyH.nil)
          obtain ⟨f0, f1, f2, f3, f4, f5⟩ := Er.block_cells hB
          have hset := Er.block_set (x' := .bool gr) (y' := .slice a9 zl c9) (z' := .int .i64 sr) hB
          have hqW := ((Q.setCell (Q.setCell (Q.setCell (Ep.SX.here hS) (ad := ⟨b, 0, none⟩) hWb (.bool gr)) (ad := ⟨b, 1, none⟩) hWb (.slice a9 zl c9)) (ad := ⟨b, 2, none⟩) hWb (.int .i64 sr)))
          have hl := Lst.setCell (Lst.setCell (Lst.setCell hx9 (ad := ⟨b, 0, none⟩) (.bool gr) hne) (ad := ⟨b, 1, none⟩) (.slice a9 zl c9) hne) (ad := ⟨b, 2, none⟩) (.int .i64 sr) hne
          go_simp
          have hS2 := SQ.out _ hqW
          refine hK.out _ _ (by exact hS2) (fun hHeld => ?_)
          clear hK K hHeld hS
          have hS := hS2
          clear hS2 f0 f1 f2 f3 f4 f5
          try simp only [Act.put, List.setIfInBounds_toArray, List.set_cons_zero, List.set_cons_succ]
          refine wpAnyH_take (i := 15) (oi := { dst := some 9, op := Op.assign (Operand.tmp 41), type := 33, pos := "law.go:111", after := #[{ on := 12, ground := Ground.data }, { on := 14, ground := Ground.chain }, { on := 0, ground := Ground.phase }, { on := 1, ground := Ground.phase }, { on := 2, ground := Ground.phase }, { on := 3, ground := Ground.phase }, { on := 4, ground := Ground.phase }, { on := 5, ground := Ground.phase }, { on := 6, ground := Ground.phase }, { on := 7, ground := Ground.phase }, { on := 8, ground := Ground.phase }, { on := 9, ground := Ground.phase }, { on := 10, ground := Ground.phase }, { on := 11, ground := Ground.phase }, { on := 12, ground := Ground.phase }, { on := 13, ground := Ground.phase }, { on := 14, ground := Ground.phase }], guard := none }) (v := ?vT2x31) rfl (by kernel_rfl) (by kernel_rfl) (by kernel_rfl) (fun _ _ _ h => h) (Or.inl ⟨by rfl, ?hyT2x31⟩) (by exact hS) ?rsT2x31
          case hyT2x31 => (intro w hSw; (try dsimp only at hSw); unfold Ep.SX at hSw; go_simp; try with_reducible rfl)
          try simp only [Act.put, List.setIfInBounds_toArray, List.set_cons_zero, List.set_cons_succ]
          refine wpAnyH_done (by kernel_rfl) ?_ _
          go_wp2_with fail
          go_meet
          exact ⟨b, a9, c9, rfl, rfl, hset, hl, hqW⟩
      case rest =>
        obtain ⟨b6, a6, c6, rfl, rfl, hb6, hl6, hq6⟩ := hcut
        obtain ⟨w6, hw6⟩ : ∃ x, x = wc := ⟨_, rfl⟩
        subst hw6
        have HB6 := Lib.hid hb6
        have LZ6 := Lib.hid hl6
        clear SQ hb6 hl6
        have HBX6 := Lib.hid ((Q.block hq6 (lt_of_block HBX.out)).trans HBX.out)
        have HBN6 := Lib.hid ((Q.block hq6 (lt_of_block HBN.out)).trans HBN.out)
        have HL6 := Lib.hid (HL.out.q hq6)
        have QR6 := Lib.hid (QR.out.trans hq6)
        clear HBX HBN HL QR hq6
        have HBX := HBX6
        have HBN := HBN6
        have HL := HL6
        have QR := QR6
        clear HBX6 HBN6 HL6 QR6 PP
        have SQ := Lib.hid (fun u (q : Q w6 u) => (by
          obtain ⟨x0, x1, x2⟩ := CX.out u ((Q.block q (lt_of_block HBX.out)).trans HBX.out)
          exact ⟨x0, x1, x2, CN.out u ((Q.block q (lt_of_block HBN.out)).trans HBN.out), q⟩ : Ep.SX w6 X N i g0 (.slice a n c) s k u))
        go_upto_region 7 with fail
        go_cut [10, 11] from 25 to 84 (fun p e wx => ∃ b a9 c9, p = .pointer (some ⟨b, 0, none⟩) ∧ e = .int .i64 er ∧ wx.heap[b]? = some (.cells #[.bool gr, .slice a9 zl c9, .int .i64 sr] 24) ∧ Lst wx (.slice a9 zl c9) Z ∧ Q w6 wx)
        case first =>
          refine wp_region_held_drew (S := fun u => Ep.SX w6 X N i g0 (.slice a n c) s k u) (by kernel_rfl) (by exact SQ.out _ ((Q.refl w6).drew)) (fun hHeld => ?_)
          have hS : Ep.SX w6 X N i g0 (.slice a n c) s k w6.drew := hHeld
          clear hHeld
          generalize w6.drew = yT3x0 at hS ⊢
          refine wpAnyH_take (i := 0) (oi := { dst := some 43, op := Op.move (Operand.tmp 5), type := 54, pos := "law.go:112", after := #[], guard := none }) (v := ?vT3x1) rfl (by kernel_rfl) (by kernel_rfl) (by kernel_rfl) (fun _ _ _ h => h) (Or.inl ⟨by rfl, ?hyT3x1⟩) (by exact hS) ?rsT3x1
          case hyT3x1 => (intro w hSw; (try dsimp only at hSw); unfold Ep.SX at hSw; go_simp; try with_reducible rfl)
          try simp only [Act.put, List.setIfInBounds_toArray, List.set_cons_zero, List.set_cons_succ]
          refine wpAnyH_take (i := 1) (oi := { dst := some 44, op := Op.move (Operand.tmp 7), type := 3, pos := "law.go:112", after := #[], guard := none }) (v := ?vT3x2) rfl (by kernel_rfl) (by kernel_rfl) (by kernel_rfl) (fun _ _ _ h => h) (Or.inl ⟨by rfl, ?hyT3x2⟩) (by exact hS) ?rsT3x2
          case hyT3x2 => (intro w hSw; (try dsimp only at hSw); unfold Ep.SX at hSw; go_simp; try with_reducible rfl)
          try simp only [Act.put, List.setIfInBounds_toArray, List.set_cons_zero, List.set_cons_succ]
          refine wpAnyH_take (i := 2) (oi := { dst := some 45, op := Op.indexAddr 54 (Operand.tmp 43) (Operand.tmp 44), type := 0, pos := "law.go:112", after := #[{ on := 0, ground := Ground.data }, { on := 1, ground := Ground.data }], guard := none }) (v := ?vT3x3) rfl (by kernel_rfl) (by kernel_rfl) (by kernel_rfl) (fun _ _ _ h => h) (Or.inl ⟨by rfl, ?hyT3x3⟩) (by exact hS) ?rsT3x3
          case hyT3x3 => (intro w hSw; (try dsimp only at hSw); unfold Ep.SX at hSw; go_simp; try with_reducible rfl)
          try simp only [Act.put, List.setIfInBounds_toArray, List.set_cons_zero, List.set_cons_succ]
          refine wpAnyH_take (i := 3) (oi := { dst := some 46, op := Op.load 24 (Operand.tmp 45), type := 24, pos := "law.go:112", after := #[{ on := 2, ground := Ground.data }], guard := none }) (v := ?vT3x4) rfl (by kernel_rfl) (by kernel_rfl) (by kernel_rfl) (fun _ _ _ h => h) (Or.inl ⟨by rfl, ?hyT3x4⟩) (by exact hS) ?rsT3x4
          case hyT3x4 => (intro w hSw; (try dsimp only at hSw); unfold Ep.SX at hSw; go_simp; try with_reducible rfl)
          try simp only [Act.put, List.setIfInBounds_toArray, List.set_cons_zero, List.set_cons_succ]
          refine wpAnyH_take (i := 4) (oi := { dst := some 47, op := Op.move (Operand.tmp 6), type := 22, pos := "law.go:112", after := #[], guard := none }) (v := ?vT3x5) rfl (by kernel_rfl) (by kernel_rfl) (by kernel_rfl) (fun _ _ _ h => h) (Or.inl ⟨by rfl, ?hyT3x5⟩) (by exact hS) ?rsT3x5
          case hyT3x5 => (intro w hSw; (try dsimp only at hSw); unfold Ep.SX at hSw; go_simp; try with_reducible rfl)
          try simp only [Act.put, List.setIfInBounds_toArray, List.set_cons_zero, List.set_cons_succ]
          refine wpAnyH_take (i := 5) (oi := { dst := some 48, op := Op.move (Operand.tmp 7), type := 3, pos := "law.go:112", after := #[], guard := none }) (v := ?vT3x6) rfl (by kernel_rfl) (by kernel_rfl) (by kernel_rfl) (fun _ _ _ h => h) (Or.inl ⟨by rfl, ?hyT3x6⟩) (by exact hS) ?rsT3x6
          case hyT3x6 => (intro w hSw; (try dsimp only at hSw); unfold Ep.SX at hSw; go_simp; try with_reducible rfl)
          try simp only [Act.put, List.setIfInBounds_toArray, List.set_cons_zero, List.set_cons_succ]
          refine wpAnyH_take (i := 6) (oi := { dst := some 49, op := Op.indexAddr 22 (Operand.tmp 47) (Operand.tmp 48), type := 0, pos := "law.go:112", after := #[{ on := 4, ground := Ground.data }, { on := 5, ground := Ground.data }], guard := none }) (v := ?vT3x7) rfl (by kernel_rfl) (by kernel_rfl) (by kernel_rfl) (fun _ _ _ h => h) (Or.inl ⟨by rfl, ?hyT3x7⟩) (by exact hS) ?rsT3x7
          case hyT3x7 => (intro w hSw; (try dsimp only at hSw); unfold Ep.SX at hSw; go_simp; try with_reducible rfl)
          try simp only [Act.put, List.setIfInBounds_toArray, List.set_cons_zero, List.set_cons_succ]
          refine wpAnyH_take (i := 7) (oi := { dst := some 50, op := Op.load 3 (Operand.tmp 49), type := 3, pos := "law.go:112", after := #[{ on := 6, ground := Ground.data }], guard := none }) (v := ?vT3x8) rfl (by kernel_rfl) (by kernel_rfl) (by kernel_rfl) (fun _ _ _ h => h) (Or.inl ⟨by rfl, ?hyT3x8⟩) (by exact hS) ?rsT3x8
          case hyT3x8 => (intro w hSw; (try dsimp only at hSw); unfold Ep.SX at hSw; go_simp; try with_reducible rfl)
          try simp only [Act.put, List.setIfInBounds_toArray, List.set_cons_zero, List.set_cons_succ]
          refine wpAnyH_ready (rs := [8, 12]) (by kernel_rfl) (by simp) ?_
          refine (AllReadyH.cons (o := { dst := some 51, op := Op.call { callee := Callee.value (Operand.func 39), args := #[Operand.tmp 46, Operand.tmp 50], argTypes := #[24, 3] }, type := 36, pos := "law.go:112", after := #[{ on := 3, ground := Ground.data }, { on := 7, ground := Ground.data }], guard := none }) rfl (fun K hK => ?_) (AllReadyH.cons (o := { dst := some 10, op := Op.alloc 24, type := 0, pos := "law.go:112", after := #[], guard := none }) rfl (fun K hK => ?_) AllReadyH.nil))
          · go_simp
            refine (RP.out _ _ (HL.out.q (Ep.SX.here hS))).mono ?_
            rintro e yT3x9 ⟨a9, c9, rfl, hx9, hq⟩
            try (go_wp2_with fail)
            have hlf := hx9
            have hx9 := Ep.lf_lst hlf
            clear hlf
            have hS2 := SQ.out _ (Q.trans (Ep.SX.here hS) hq)
            refine hK.out _ _ (by exact hS2) (fun hHeld => ?_)
            clear hK K hHeld hS hq
            have hS := hS2
            clear hS2
            try simp only [Act.put, List.setIfInBounds_toArray, List.set_cons_zero, List.set_cons_succ]
            refine wpAnyH_take (i := 9) (oi := { dst := some 42, op := Op.move (Operand.tmp 51), type := 36, pos := "law.go:112", after := #[{ on := 8, ground := Ground.data }], guard := none }) (v := ?vT3x10) rfl (by kernel_rfl) (by kernel_rfl) (by kernel_rfl) (fun _ _ _ h => h) (Or.inl ⟨by rfl, ?hyT3x10⟩) (by exact hS) ?rsT3x10
            case hyT3x10 => (intro w hSw; (try dsimp only at hSw); unfold Ep.SX at hSw; go_simp; try with_reducible rfl)
            try simp only [Act.put, List.setIfInBounds_toArray, List.set_cons_zero, List.set_cons_succ]
            refine wpAnyH_take (i := 10) (oi := { dst := some 52, op := Op.extract (Operand.tmp 42) 0, type := 24, pos := "law.go:112", after := #[{ on := 9, ground := Ground.data }], guard := none }) (v := ?vT3x11) rfl (by kernel_rfl) (by kernel_rfl) (by kernel_rfl) (fun _ _ _ h => h) (Or.inl ⟨by rfl, ?hyT3x11⟩) (by exact hS) ?rsT3x11
            case hyT3x11 => (intro w hSw; (try dsimp only at hSw); unfold Ep.SX at hSw; go_simp; try with_reducible rfl)
            try simp only [Act.put, List.setIfInBounds_toArray, List.set_cons_zero, List.set_cons_succ]
            refine wpAnyH_take (i := 11) (oi := { dst := some 53, op := Op.extract (Operand.tmp 42) 1, type := 33, pos := "law.go:112", after := #[{ on := 9, ground := Ground.data }, { on := 13, ground := Ground.gcOnly Departure.lateStores }], guard := none }) (v := ?vT3x12) rfl (by kernel_rfl) (by kernel_rfl) (by kernel_rfl) (fun _ _ _ h => h) (Or.inl ⟨by rfl, ?hyT3x12⟩) (by exact hS) ?rsT3x12
            case hyT3x12 => (intro w hSw; (try dsimp only at hSw); unfold Ep.SX at hSw; go_simp; try with_reducible rfl)
            try simp only [Act.put, List.setIfInBounds_toArray, List.set_cons_zero, List.set_cons_succ]
            refine wpAnyH_ready (rs := [12]) (by kernel_rfl) (by simp) ?_
            refine (AllReadyH.cons (o := { dst := some 10, op := Op.alloc 24, type := 0, pos := "law.go:112", after := #[], guard := none }) rfl (fun K hK => ?_) AllReadyH.nil)
            go_simp
            have hq := (Q.refl yT3x9).alloc (.cells #[.bool false, .slice none 0 0, .int .i64 0] 24)
            have hB := heap_alloc_new yT3x9 (.cells #[.bool false, .slice none 0 0, .int .i64 0] 24)
            have hbu : yT3x9.heap.size < (yT3x9.alloc (.cells #[.bool false, .slice none 0 0, .int .i64 0] 24)).heap.size := by rw [World.size_alloc]; omega
            have hWb := (Ep.SX.here hS).le
            have hne_hx9 : ∀ (a : Addr) (n c : Nat), (.slice a9 zl c9 : Value) = .slice (some a) n c → n ≠ 0 → a.block ≠ yT3x9.heap.size := fun a n c h1 h2 => Nat.ne_of_lt (Lst.old hx9 a n c h1 h2)
            have hx9 := Lst.q hx9 hq
            have hS2 := SQ.out _ (Q.trans (Ep.SX.here hS) hq)
            refine hK.out _ _ (by exact hS2) (fun hHeld => ?_)
            clear hK K hHeld hS hq
            have hS := hS2
            clear hS2
            generalize yT3x9.alloc (.cells #[.bool false, .slice none 0 0, .int .i64 0] 24) = yT3x13 at *
            generalize yT3x9.heap.size = b at *
            have hne := hne_hx9
            try simp only [Act.put, List.setIfInBounds_toArray, List.set_cons_zero, List.set_cons_succ]
            refine wpAnyH_ready (rs := [13]) (by kernel_rfl) (by simp) ?_
            refine (AllReadyH.cons (o := { dst := none, op := Op.store 24 (Operand.tmp 10) (Operand.tmp 52), type := 0, pos := "law.go:112", after := #[{ on := 12, ground := Ground.data }, { on := 10, ground := Ground.data }, { on := 8, ground := Ground.chain }, { on := 0, ground := Ground.phase }, { on := 1, ground := Ground.phase }, { on := 2, ground := Ground.phase }, { on := 3, ground := Ground.phase }, { on := 4, ground := Ground.phase }, { on := 5, ground := Ground.phase }, { on := 6, ground := Ground.phase }, { on := 7, ground := Ground.phase }, { on := 8, ground := Ground.phase }, { on := 9, ground := Ground.phase }, { on := 10, ground := Ground.phase }, { on := 11, ground := Ground.textOnly Departure.lateStores }, { on := 12, ground := Ground.phase }], guard := none }) rfl (fun K hK => ?_) AllReadyH.nil)
            obtain ⟨f0, f1, f2, f3, f4, f5⟩ := Er.block_cells hB
            have hset := Er.block_set (x' := .bool gr) (y' := .slice a9 zl c9) (z' := .int .i64 sr) hB
            have hqW := ((Q.setCell (Q.setCell (Q.setCell (Ep.SX.here hS) (ad := ⟨b, 0, none⟩) hWb (.bool gr)) (ad := ⟨b, 1, none⟩) hWb (.slice a9 zl c9)) (ad := ⟨b, 2, none⟩) hWb (.int .i64 sr)))
            have hl := Lst.setCell (Lst.setCell (Lst.setCell hx9 (ad := ⟨b, 0, none⟩) (.bool gr) hne) (ad := ⟨b, 1, none⟩) (.slice a9 zl c9) hne) (ad := ⟨b, 2, none⟩) (.int .i64 sr) hne
            go_simp
            have hS2 := SQ.out _ hqW
            refine hK.out _ _ (by exact hS2) (fun hHeld => ?_)
            clear hK K hHeld hS
            have hS := hS2
            clear hS2 f0 f1 f2 f3 f4 f5
            try simp only [Act.put, List.setIfInBounds_toArray, List.set_cons_zero, List.set_cons_succ]
            refine wpAnyH_take (i := 14) (oi := { dst := some 11, op := Op.assign (Operand.tmp 53), type := 33, pos := "law.go:112", after := #[{ on := 11, ground := Ground.data }, { on := 13, ground := Ground.chain }, { on := 0, ground := Ground.phase }, { on := 1, ground := Ground.phase }, { on := 2, ground := Ground.phase }, { on := 3, ground := Ground.phase }, { on := 4, ground := Ground.phase }, { on := 5, ground := Ground.phase }, { on := 6, ground := Ground.phase }, { on := 7, ground := Ground.phase }, { on := 8, ground := Ground.phase }, { on := 9, ground := Ground.phase }, { on := 10, ground := Ground.phase }, { on := 11, ground := Ground.phase }, { on := 12, ground := Ground.phase }, { on := 13, ground := Ground.phase }], guard := none }) (v := ?vT3x15) rfl (by kernel_rfl) (by kernel_rfl) (by kernel_rfl) (fun _ _ _ h => h) (Or.inl ⟨by rfl, ?hyT3x15⟩) (by exact hS) ?rsT3x15
            case hyT3x15 => (intro w hSw; (try dsimp only at hSw); unfold Ep.SX at hSw; go_simp; try with_reducible rfl)
            try simp only [Act.put, List.setIfInBounds_toArray, List.set_cons_zero, List.set_cons_succ]
            refine wpAnyH_done (by kernel_rfl) ?_ _
            go_wp2_with fail
            go_meet
            exact ⟨b, a9, c9, rfl, rfl, hset, hl, hqW⟩
          · go_simp
            have hq := (Q.refl yT3x0).alloc (.cells #[.bool false, .slice none 0 0, .int .i64 0] 24)
            have hB := heap_alloc_new yT3x0 (.cells #[.bool false, .slice none 0 0, .int .i64 0] 24)
            have hbu : yT3x0.heap.size < (yT3x0.alloc (.cells #[.bool false, .slice none 0 0, .int .i64 0] 24)).heap.size := by rw [World.size_alloc]; omega
            have hWb := (Ep.SX.here hS).le
            have hS2 := SQ.out _ (Q.trans (Ep.SX.here hS) hq)
            refine hK.out _ _ (by exact hS2) (fun hHeld => ?_)
            clear hK K hHeld hS hq
            have hS := hS2
            clear hS2
            generalize yT3x0.alloc (.cells #[.bool false, .slice none 0 0, .int .i64 0] 24) = yT3x16 at *
            generalize yT3x0.heap.size = b at *
            try simp only [Act.put, List.setIfInBounds_toArray, List.set_cons_zero, List.set_cons_succ]
            refine wpAnyH_ready (rs := [8]) (by kernel_rfl) (by simp) ?_
            refine (AllReadyH.cons (o := { dst := some 51, op := Op.call { callee := Callee.value (Operand.func 39), args := #[Operand.tmp 46, Operand.tmp 50], argTypes := #[24, 3] }, type := 36, pos := "law.go:112", after := #[{ on := 3, ground := Ground.data }, { on := 7, ground := Ground.data }], guard := none }) rfl (fun K hK => ?_) AllReadyH.nil)
            go_simp
            refine (RP.out _ _ (HL.out.q (Ep.SX.here hS))).mono ?_
            rintro e yT3x17 ⟨a9, c9, rfl, hx9, hq⟩
            try (go_wp2_with fail)
            have hB := (Q.block hq (lt_of_block hB)).trans hB
            have hlf := hx9
            have hx9 := Ep.lf_lst hlf
            have hne : ∀ (a : Addr) (n c : Nat), (.slice a9 zl c9 : Value) = .slice (some a) n c → n ≠ 0 → a.block ≠ b := Ep.lf_ne hlf hbu
            clear hlf
            have hS2 := SQ.out _ (Q.trans (Ep.SX.here hS) hq)
            have hbu := Nat.lt_of_lt_of_le hbu hq.le
            refine hK.out _ _ (by exact hS2) (fun hHeld => ?_)
            clear hK K hHeld hS hq
            have hS := hS2
            clear hS2
            try simp only [Act.put, List.setIfInBounds_toArray, List.set_cons_zero, List.set_cons_succ]
            refine wpAnyH_take (i := 9) (oi := { dst := some 42, op := Op.move (Operand.tmp 51), type := 36, pos := "law.go:112", after := #[{ on := 8, ground := Ground.data }], guard := none }) (v := ?vT3x18) rfl (by kernel_rfl) (by kernel_rfl) (by kernel_rfl) (fun _ _ _ h => h) (Or.inl ⟨by rfl, ?hyT3x18⟩) (by exact hS) ?rsT3x18
            case hyT3x18 => (intro w hSw; (try dsimp only at hSw); unfold Ep.SX at hSw; go_simp; try with_reducible rfl)
            try simp only [Act.put, List.setIfInBounds_toArray, List.set_cons_zero, List.set_cons_succ]
            refine wpAnyH_take (i := 10) (oi := { dst := some 52, op := Op.extract (Operand.tmp 42) 0, type := 24, pos := "law.go:112", after := #[{ on := 9, ground := Ground.data }], guard := none }) (v := ?vT3x19) rfl (by kernel_rfl) (by kernel_rfl) (by kernel_rfl) (fun _ _ _ h => h) (Or.inl ⟨by rfl, ?hyT3x19⟩) (by exact hS) ?rsT3x19
            case hyT3x19 => (intro w hSw; (try dsimp only at hSw); unfold Ep.SX at hSw; go_simp; try with_reducible rfl)
            try simp only [Act.put, List.setIfInBounds_toArray, List.set_cons_zero, List.set_cons_succ]
            refine wpAnyH_take (i := 11) (oi := { dst := some 53, op := Op.extract (Operand.tmp 42) 1, type := 33, pos := "law.go:112", after := #[{ on := 9, ground := Ground.data }, { on := 13, ground := Ground.gcOnly Departure.lateStores }], guard := none }) (v := ?vT3x20) rfl (by kernel_rfl) (by kernel_rfl) (by kernel_rfl) (fun _ _ _ h => h) (Or.inl ⟨by rfl, ?hyT3x20⟩) (by exact hS) ?rsT3x20
            case hyT3x20 => (intro w hSw; (try dsimp only at hSw); unfold Ep.SX at hSw; go_simp; try with_reducible rfl)
            try simp only [Act.put, List.setIfInBounds_toArray, List.set_cons_zero, List.set_cons_succ]
            refine wpAnyH_ready (rs := [13]) (by kernel_rfl) (by simp) ?_
            refine (AllReadyH.cons (o := { dst := none, op := Op.store 24 (Operand.tmp 10) (Operand.tmp 52), type := 0, pos := "law.go:112", after := #[{ on := 12, ground := Ground.data }, { on := 10, ground := Ground.data }, { on := 8, ground := Ground.chain }, { on := 0, ground := Ground.phase }, { on := 1, ground := Ground.phase }, { on := 2, ground := Ground.phase }, { on := 3, ground := Ground.phase }, { on := 4, ground := Ground.phase }, { on := 5, ground := Ground.phase }, { on := 6, ground := Ground.phase }, { on := 7, ground := Ground.phase }, { on := 8, ground := Ground.phase }, { on := 9, ground := Ground.phase }, { on := 10, ground := Ground.phase }, { on := 11, ground := Ground.textOnly Departure.lateStores }, { on := 12, ground := Ground.phase }], guard := none }) rfl (fun K hK => ?_) AllReadyH.nil)
            obtain ⟨f0, f1, f2, f3, f4, f5⟩ := Er.block_cells hB
            have hset := Er.block_set (x' := .bool gr) (y' := .slice a9 zl c9) (z' := .int .i64 sr) hB
            have hqW := ((Q.setCell (Q.setCell (Q.setCell (Ep.SX.here hS) (ad := ⟨b, 0, none⟩) hWb (.bool gr)) (ad := ⟨b, 1, none⟩) hWb (.slice a9 zl c9)) (ad := ⟨b, 2, none⟩) hWb (.int .i64 sr)))
            have hl := Lst.setCell (Lst.setCell (Lst.setCell hx9 (ad := ⟨b, 0, none⟩) (.bool gr) hne) (ad := ⟨b, 1, none⟩) (.slice a9 zl c9) hne) (ad := ⟨b, 2, none⟩) (.int .i64 sr) hne
            go_simp
            have hS2 := SQ.out _ hqW
            refine hK.out _ _ (by exact hS2) (fun hHeld => ?_)
            clear hK K hHeld hS
            have hS := hS2
            clear hS2 f0 f1 f2 f3 f4 f5
            try simp only [Act.put, List.setIfInBounds_toArray, List.set_cons_zero, List.set_cons_succ]
            refine wpAnyH_take (i := 14) (oi := { dst := some 11, op := Op.assign (Operand.tmp 53), type := 33, pos := "law.go:112", after := #[{ on := 11, ground := Ground.data }, { on := 13, ground := Ground.chain }, { on := 0, ground := Ground.phase }, { on := 1, ground := Ground.phase }, { on := 2, ground := Ground.phase }, { on := 3, ground := Ground.phase }, { on := 4, ground := Ground.phase }, { on := 5, ground := Ground.phase }, { on := 6, ground := Ground.phase }, { on := 7, ground := Ground.phase }, { on := 8, ground := Ground.phase }, { on := 9, ground := Ground.phase }, { on := 10, ground := Ground.phase }, { on := 11, ground := Ground.phase }, { on := 12, ground := Ground.phase }, { on := 13, ground := Ground.phase }], guard := none }) (v := ?vT3x22) rfl (by kernel_rfl) (by kernel_rfl) (by kernel_rfl) (fun _ _ _ h => h) (Or.inl ⟨by rfl, ?hyT3x22⟩) (by exact hS) ?rsT3x22
            case hyT3x22 => (intro w hSw; (try dsimp only at hSw); unfold Ep.SX at hSw; go_simp; try with_reducible rfl)
            try simp only [Act.put, List.setIfInBounds_toArray, List.set_cons_zero, List.set_cons_succ]
            refine wpAnyH_done (by kernel_rfl) ?_ _
            go_wp2_with fail
            go_meet
            exact ⟨b, a9, c9, rfl, rfl, hset, hl, hqW⟩
        case rest =>
          obtain ⟨b7, a7, c7, rfl, rfl, hb7, hl7, hq7⟩ := hcut
          obtain ⟨w7, hw7⟩ : ∃ x, x = wc := ⟨_, rfl⟩
          subst hw7
          have HB7 := Lib.hid hb7
          have LZ7 := Lib.hid hl7
          have HB67 := Lib.hid ((Q.block hq7 (lt_of_block HB6.out)).trans HB6.out)
          have LZ67 := Lib.hid (LZ6.out.q hq7)
          have HBX7 := Lib.hid ((Q.block hq7 (lt_of_block HBX.out)).trans HBX.out)
          have HBN7 := Lib.hid ((Q.block hq7 (lt_of_block HBN.out)).trans HBN.out)
          have HL7 := Lib.hid (HL.out.q hq7)
          have QR7 := Lib.hid (QR.out.trans hq7)
          clear SQ hb7 hl7 HB6 LZ6 HBX HBN HL QR hq7 RP
          obtain ⟨k_a0, k_a1, k_a2, _, _, _⟩ := Er.block_cells HB67.out
          obtain ⟨k_b0, k_b1, k_b2, _, _, _⟩ := Er.block_cells HB7.out
          go_wp2_with fail
          have SQr := Lib.hid (fun u u' (k : Ep.SB2 (w7) (b6) gr (.slice a6 zl c6) (sr) (b7) gr (.slice a7 zl c7) (sr) u) (q : Q u u') => (Ep.SB2.of HB67.out HB7.out (k.here.trans q) : Ep.SB2 (w7) (b6) gr (.slice a6 zl c6) (sr) (b7) gr (.slice a7 zl c7) (sr) u'))
          have Kasr := Lib.hid (fun u g a n c s (k : Ep.SB2 (w7) (b6) gr (.slice a6 zl c6) (sr) (b7) gr (.slice a7 zl c7) (sr) u) => (by
            refine (Ep.as_sh u g a n c s).mono ?_
            rintro e w' ⟨rfl, hq⟩
            exact ⟨rfl, SQr.out _ _ k hq, fun v zs hl => hl.q hq⟩ : Calls Try.prog 19 #[.agg #[.bool g, .slice a n c, .int .i64 s]] u fun e w' => e = .returned (.agg #[.bool g, .slice a n c, .int .i64 s]) ∧ Ep.SB2 (w7) (b6) gr (.slice a6 zl c6) (sr) (b7) gr (.slice a7 zl c7) (sr) w' ∧ ∀ v zs, Lst u v zs → Lst w' v zs))
          have KSr := Lib.hid (fun u  (k : Ep.SB2 (w7) (b6) gr (.slice a6 zl c6) (sr) (b7) gr (.slice a7 zl c7) (sr) u) => (by
            refine (Ep.same_sh u gr a6 a7 zl c6 c7 sr Z (LZ67.out.q k.here) (LZ7.out.q k.here) (by have := HZL.out; omega)).mono ?_
            rintro e w' ⟨rfl, hq⟩
            exact ⟨rfl, SQr.out _ _ k hq, fun v zs hl => hl.q hq⟩ : Calls Try.prog 18 #[.agg #[.bool gr, .slice a6 zl c6, .int .i64 sr], .agg #[.bool gr, .slice a7 zl c7, .int .i64 sr]] u fun e w' => e = .returned (.bool true) ∧ Ep.SB2 (w7) (b6) gr (.slice a6 zl c6) (sr) (b7) gr (.slice a7 zl c7) (sr) w' ∧ ∀ v zs, Lst u v zs → Lst w' v zs))
          have hst0 := Ep.SB2.of HB67.out HB7.out (Q.refl _)
          have hst := Ep.SB2.of HB67.out HB7.out ((Q.refl w7).drew)
          unfold Ep.SB2 at hst hst0
          go_region_held3 (fun u => u.cell? ⟨b6, 0, none⟩ = some (.bool gr) ∧ (u.cell? ⟨b6, 1, none⟩ = some (.slice a6 zl c6) ∧ (u.cell? ⟨b6, 2, none⟩ = some (.int .i64 sr) ∧ (u.cell? ⟨b7, 0, none⟩ = some (.bool gr) ∧ (u.cell? ⟨b7, 1, none⟩ = some (.slice a7 zl c7) ∧ (u.cell? ⟨b7, 2, none⟩ = some (.int .i64 sr) ∧ (Q w7 u))))))) (first | exact hst | exact hst0 | assumption) (first | ((go_at_call 19); refine (Kasr.out _ _ _ _ _ _ ?_).mono ?_; assumption; rintro e yr ⟨rfl, hS, hcar⟩; unfold Ep.SB2 at hS; skip) | ((go_at_call 18); refine (KSr.out _  ?_).mono ?_; assumption; rintro e yr ⟨rfl, hS, hcar⟩; unfold Ep.SB2 at hS; skip))
          clear k_a0 k_a1 k_a2 k_b0 k_b1 k_b2
          have hqr : Q w7 _ := (show Ep.SB2 (w7) (b6) gr (.slice a6 zl c6) (sr) (b7) gr (.slice a7 zl c7) (sr) _ from hS).here
          clear hst hst0 hS hcar
          have L71_A := Lib.hid (Lst.q LZ67.out hqr)
          clear LZ67
          have L71_B := Lib.hid (Lst.q LZ7.out hqr)
          clear LZ7
          have L71_E := Lib.hid (Lst.q HL7.out hqr)
          clear HL7
          have B71_a := Lib.hid ((Q.block hqr (lt_of_block HB67.out)).trans HB67.out)
          clear HB67
          have B71_b := Lib.hid ((Q.block hqr (lt_of_block HB7.out)).trans HB7.out)
          clear HB7
          have H71_X := Lib.hid ((Q.block hqr (lt_of_block HBX7.out)).trans HBX7.out)
          clear HBX7
          have H71_N := Lib.hid ((Q.block hqr (lt_of_block HBN7.out)).trans HBN7.out)
          clear HBN7
          have Q71 := Lib.hid (Q.trans QR7.out hqr)
          clear QR7
          clear hqr
          by_cases he : er = 0
          · subst he
            obtain ⟨hk, hcm⟩ := HC.out rfl
            subst hk
            have HCM := Lib.hid hcm
            clear hcm HC
            have SQ := Lib.hid (fun u (q : Q yr u) => (by
              obtain ⟨x0, x1, x2⟩ := CX.out u ((Q.block q (lt_of_block H71_X.out)).trans H71_X.out)
              obtain ⟨x4, x5, x6, _, _, _⟩ := Er.block_cells ((Q.block q (lt_of_block B71_a.out)).trans B71_a.out)
              exact ⟨x0, x1, x2, CN.out u ((Q.block q (lt_of_block H71_N.out)).trans H71_N.out), x4, x5, x6, q⟩ : Ep.SY yr X N i g0 (.slice a n c) s sr b6 gr (.slice a6 zl c6) sr u))
            go_wp2_with fail
            refine wp_region_held_drew (S := fun u => Ep.SY yr X N i g0 (.slice a n c) s sr b6 gr (.slice a6 zl c6) sr u) (by kernel_rfl) (by exact SQ.out _ ((Q.refl yr).drew)) (fun hHeld => ?_)
            have hS : Ep.SY yr X N i g0 (.slice a n c) s sr b6 gr (.slice a6 zl c6) sr yr.drew := hHeld
            clear hHeld
            generalize yr.drew = yT4x0 at hS ⊢
            refine wpAnyH_take (i := 0) (oi := { dst := some 64, op := Op.move (Operand.tmp 9), type := 33, pos := "law.go:116", after := #[], guard := none }) (v := ?vT4x1) rfl (by kernel_rfl) (by kernel_rfl) (by kernel_rfl) (fun _ _ _ h => h) (Or.inl ⟨by rfl, ?hyT4x1⟩) (by exact hS) ?rsT4x1
            case hyT4x1 => (intro w hSw; (try dsimp only at hSw); unfold Ep.SY at hSw; go_simp; try with_reducible rfl)
            try simp only [Act.put, List.setIfInBounds_toArray, List.set_cons_zero, List.set_cons_succ]
            refine wpAnyH_take (i := 1) (oi := { dst := some 65, op := Op.binOp BinOp.eql 33 (Operand.tmp 64) (Operand.const (Value.int IntKind.i64 0)) 33, type := 4, pos := "law.go:116", after := #[{ on := 0, ground := Ground.data }], guard := none }) (v := ?vT4x2) rfl (by kernel_rfl) (by kernel_rfl) (by kernel_rfl) (fun _ _ _ h => h) (Or.inl ⟨by rfl, ?hyT4x2⟩) (by exact hS) ?rsT4x2
            case hyT4x2 => (intro w hSw; (try dsimp only at hSw); unfold Ep.SY at hSw; go_simp; try with_reducible rfl)
            try simp only [Act.put, List.setIfInBounds_toArray, List.set_cons_zero, List.set_cons_succ]
            refine wpAnyH_take (i := 2) (oi := { dst := some 66, op := Op.move (Operand.tmp 65), type := 4, pos := "law.go:116", after := #[{ on := 1, ground := Ground.data }], guard := none }) (v := ?vT4x3) rfl (by kernel_rfl) (by kernel_rfl) (by kernel_rfl) (fun _ _ _ h => h) (Or.inl ⟨by rfl, ?hyT4x3⟩) (by exact hS) ?rsT4x3
            case hyT4x3 => (intro w hSw; (try dsimp only at hSw); unfold Ep.SY at hSw; go_simp; try with_reducible rfl)
            try simp only [Act.put, List.setIfInBounds_toArray, List.set_cons_zero, List.set_cons_succ]
            refine wpAnyH_take (i := 3) (oi := { dst := some 67, op := Op.fieldAddr 32 (Operand.tmp 8) 2, type := 0, pos := "law.go:116", after := #[{ on := 2, ground := Ground.guard }], guard := some (2, true) }) (v := ?vT4x4) rfl (by kernel_rfl) (by kernel_rfl) (by kernel_rfl) (fun _ _ _ h => h) (Or.inl ⟨by rfl, ?hyT4x4⟩) (by exact hS) ?rsT4x4
            case hyT4x4 => (intro w hSw; (try dsimp only at hSw); unfold Ep.SY at hSw; go_simp; try with_reducible rfl)
            try simp only [Act.put, List.setIfInBounds_toArray, List.set_cons_zero, List.set_cons_succ]
            refine wpAnyH_take (i := 4) (oi := { dst := some 68, op := Op.load 3 (Operand.tmp 67), type := 3, pos := "law.go:116", after := #[{ on := 3, ground := Ground.data }, { on := 2, ground := Ground.guard }], guard := some (2, true) }) (v := ?vT4x5) rfl (by kernel_rfl) (by kernel_rfl) (by kernel_rfl) (fun _ _ _ h => h) (Or.inl ⟨by rfl, ?hyT4x5⟩) (by exact hS) ?rsT4x5
            case hyT4x5 => (intro w hSw; (try dsimp only at hSw); unfold Ep.SY at hSw; go_simp; try with_reducible rfl)
            try simp only [Act.put, List.setIfInBounds_toArray, List.set_cons_zero, List.set_cons_succ]
            refine wpAnyH_take (i := 5) (oi := { dst := some 69, op := Op.move (Operand.tmp 6), type := 22, pos := "law.go:116", after := #[{ on := 2, ground := Ground.guard }], guard := some (2, true) }) (v := ?vT4x6) rfl (by kernel_rfl) (by kernel_rfl) (by kernel_rfl) (fun _ _ _ h => h) (Or.inl ⟨by rfl, ?hyT4x6⟩) (by exact hS) ?rsT4x6
            case hyT4x6 => (intro w hSw; (try dsimp only at hSw); unfold Ep.SY at hSw; go_simp; try with_reducible rfl)
            try simp only [Act.put, List.setIfInBounds_toArray, List.set_cons_zero, List.set_cons_succ]
            refine wpAnyH_take (i := 6) (oi := { dst := some 70, op := Op.move (Operand.tmp 7), type := 3, pos := "law.go:116", after := #[{ on := 2, ground := Ground.guard }], guard := some (2, true) }) (v := ?vT4x7) rfl (by kernel_rfl) (by kernel_rfl) (by kernel_rfl) (fun _ _ _ h => h) (Or.inl ⟨by rfl, ?hyT4x7⟩) (by exact hS) ?rsT4x7
            case hyT4x7 => (intro w hSw; (try dsimp only at hSw); unfold Ep.SY at hSw; go_simp; try with_reducible rfl)
            try simp only [Act.put, List.setIfInBounds_toArray, List.set_cons_zero, List.set_cons_succ]
            refine wpAnyH_take (i := 7) (oi := { dst := some 71, op := Op.indexAddr 22 (Operand.tmp 69) (Operand.tmp 70), type := 0, pos := "law.go:116", after := #[{ on := 5, ground := Ground.data }, { on := 6, ground := Ground.data }, { on := 2, ground := Ground.guard }], guard := some (2, true) }) (v := ?vT4x8) rfl (by kernel_rfl) (by kernel_rfl) (by kernel_rfl) (fun _ _ _ h => h) (Or.inl ⟨by rfl, ?hyT4x8⟩) (by exact hS) ?rsT4x8
            case hyT4x8 => (intro w hSw; (try dsimp only at hSw); unfold Ep.SY at hSw; go_simp; try with_reducible rfl)
            try simp only [Act.put, List.setIfInBounds_toArray, List.set_cons_zero, List.set_cons_succ]
            refine wpAnyH_take (i := 8) (oi := { dst := some 72, op := Op.load 3 (Operand.tmp 71), type := 3, pos := "law.go:116", after := #[{ on := 7, ground := Ground.data }, { on := 2, ground := Ground.guard }], guard := some (2, true) }) (v := ?vT4x9) rfl (by kernel_rfl) (by kernel_rfl) (by kernel_rfl) (fun _ _ _ h => h) (Or.inl ⟨by rfl, ?hyT4x9⟩) (by exact hS) ?rsT4x9
            case hyT4x9 => (intro w hSw; (try dsimp only at hSw); unfold Ep.SY at hSw; go_simp; try with_reducible rfl)
            try simp only [Act.put, List.setIfInBounds_toArray, List.set_cons_zero, List.set_cons_succ]
            refine wpAnyH_take (i := 9) (oi := { dst := some 73, op := Op.binOp BinOp.neq 3 (Operand.tmp 68) (Operand.tmp 72) 3, type := 4, pos := "law.go:116", after := #[{ on := 4, ground := Ground.data }, { on := 8, ground := Ground.data }, { on := 2, ground := Ground.guard }], guard := some (2, true) }) (v := ?vT4x10) rfl (by kernel_rfl) (by kernel_rfl) (by kernel_rfl) (fun _ _ _ h => h) (Or.inl ⟨by rfl, ?hyT4x10⟩) (by exact hS) ?rsT4x10
            case hyT4x10 => (intro w hSw; (try dsimp only at hSw); unfold Ep.SY at hSw; go_simp; try with_reducible rfl)
            try simp only [Act.put, List.setIfInBounds_toArray, List.set_cons_zero, List.set_cons_succ]
            refine wpAnyH_take (i := 10) (oi := { dst := some 74, op := Op.move (Operand.tmp 73), type := 4, pos := "law.go:116", after := #[{ on := 9, ground := Ground.data }, { on := 2, ground := Ground.chain }, { on := 2, ground := Ground.guard }], guard := some (2, true) }) (v := ?vT4x11) rfl (by kernel_rfl) (by kernel_rfl) (by kernel_rfl) (fun _ _ _ h => h) (Or.inl ⟨by rfl, ?hyT4x11⟩) (by exact hS) ?rsT4x11
            case hyT4x11 => (intro w hSw; (try dsimp only at hSw); unfold Ep.SY at hSw; go_simp; try with_reducible rfl)
            try simp only [Act.put, List.setIfInBounds_toArray, List.set_cons_zero, List.set_cons_succ]
            refine wpAnyH_take (i := 11) (oi := { dst := some 75, op := Op.load 32 (Operand.tmp 8), type := 32, pos := "law.go:116", after := #[{ on := 10, ground := Ground.guard }], guard := some (10, false) }) (v := ?vT4x12) rfl (by kernel_rfl) (by kernel_rfl) (by kernel_rfl) (fun _ _ _ h => h) (Or.inl ⟨by rfl, ?hyT4x12⟩) (by exact hS) ?rsT4x12
            case hyT4x12 => (intro w hSw; (try dsimp only at hSw); unfold Ep.SY at hSw; go_simp; try with_reducible rfl)
            try simp only [Act.put, List.setIfInBounds_toArray, List.set_cons_zero, List.set_cons_succ]
            refine wpAnyH_take (i := 12) (oi := { dst := some 76, op := Op.move (Operand.tmp 5), type := 54, pos := "law.go:116", after := #[{ on := 10, ground := Ground.guard }], guard := some (10, false) }) (v := ?vT4x13) rfl (by kernel_rfl) (by kernel_rfl) (by kernel_rfl) (fun _ _ _ h => h) (Or.inl ⟨by rfl, ?hyT4x13⟩) (by exact hS) ?rsT4x13
            case hyT4x13 => (intro w hSw; (try dsimp only at hSw); unfold Ep.SY at hSw; go_simp; try with_reducible rfl)
            try simp only [Act.put, List.setIfInBounds_toArray, List.set_cons_zero, List.set_cons_succ]
            refine wpAnyH_take (i := 13) (oi := { dst := some 77, op := Op.move (Operand.tmp 7), type := 3, pos := "law.go:116", after := #[{ on := 10, ground := Ground.guard }], guard := some (10, false) }) (v := ?vT4x14) rfl (by kernel_rfl) (by kernel_rfl) (by kernel_rfl) (fun _ _ _ h => h) (Or.inl ⟨by rfl, ?hyT4x14⟩) (by exact hS) ?rsT4x14
            case hyT4x14 => (intro w hSw; (try dsimp only at hSw); unfold Ep.SY at hSw; go_simp; try with_reducible rfl)
            try simp only [Act.put, List.setIfInBounds_toArray, List.set_cons_zero, List.set_cons_succ]
            refine wpAnyH_take (i := 14) (oi := { dst := some 78, op := Op.indexAddr 54 (Operand.tmp 76) (Operand.tmp 77), type := 0, pos := "law.go:116", after := #[{ on := 12, ground := Ground.data }, { on := 13, ground := Ground.data }, { on := 10, ground := Ground.guard }], guard := some (10, false) }) (v := ?vT4x15) rfl (by kernel_rfl) (by kernel_rfl) (by kernel_rfl) (fun _ _ _ h => h) (Or.inl ⟨by rfl, ?hyT4x15⟩) (by exact hS) ?rsT4x15
            case hyT4x15 => (intro w hSw; (try dsimp only at hSw); unfold Ep.SY at hSw; go_simp; try with_reducible rfl)
            try simp only [Act.put, List.setIfInBounds_toArray, List.set_cons_zero, List.set_cons_succ]
            refine wpAnyH_take (i := 15) (oi := { dst := some 79, op := Op.load 24 (Operand.tmp 78), type := 24, pos := "law.go:116", after := #[{ on := 14, ground := Ground.data }, { on := 10, ground := Ground.guard }], guard := some (10, false) }) (v := ?vT4x16) rfl (by kernel_rfl) (by kernel_rfl) (by kernel_rfl) (fun _ _ _ h => h) (Or.inl ⟨by rfl, ?hyT4x16⟩) (by exact hS) ?rsT4x16
            case hyT4x16 => (intro w hSw; (try dsimp only at hSw); unfold Ep.SY at hSw; go_simp; try with_reducible rfl)
            try simp only [Act.put, List.setIfInBounds_toArray, List.set_cons_zero, List.set_cons_succ]
            refine wpAnyH_ready (rs := [16]) (by kernel_rfl) (by simp) ?_
            refine (AllReadyH.cons (o := { dst := some 80, op := Op.call { callee := Callee.value (Operand.func 22), args := #[Operand.tmp 79], argTypes := #[24] }, type := 32, pos := "law.go:116", after := #[{ on := 15, ground := Ground.data }, { on := 10, ground := Ground.chain }, { on := 10, ground := Ground.guard }], guard := some (10, false) }) rfl (fun K hK => ?_) AllReadyH.nil)
            go_simp
            refine (Ep.of_sh _ _ _ _ _ _).mono ?_
            rintro e yT4x17 ⟨rfl, hq⟩
            try (go_wp2_with fail)
            have hS2 := SQ.out _ (Q.trans (Ep.SY.here hS) hq)
            refine hK.out _ _ (by exact hS2) (fun hHeld => ?_)
            clear hK K hHeld hS hq
            have hS := hS2
            clear hS2
            try simp only [Act.put, List.setIfInBounds_toArray, List.set_cons_zero, List.set_cons_succ]
            refine wpAnyH_ready (rs := [17]) (by kernel_rfl) (by simp) ?_
            refine (AllReadyH.cons (o := { dst := some 81, op := Op.call { callee := Callee.value (Operand.func 30), args := #[Operand.tmp 75, Operand.tmp 80], argTypes := #[32, 32] }, type := 3, pos := "law.go:116", after := #[{ on := 11, ground := Ground.data }, { on := 16, ground := Ground.data }, { on := 16, ground := Ground.chain }, { on := 10, ground := Ground.guard }], guard := some (10, false) }) rfl (fun K hK => ?_) AllReadyH.nil)
            go_simp
            refine (HCM.out _ _ _ (L71_A.out.q (Ep.SY.here hS)) (L71_E.out.q (Ep.SY.here hS))).mono ?_
            rintro e yT4x18 ⟨rfl, hq⟩
            try (go_wp2_with fail)
            have hS2 := SQ.out _ (Q.trans (Ep.SY.here hS) hq)
            refine hK.out _ _ (by exact hS2) (fun hHeld => ?_)
            clear hK K hHeld hS hq
            have hS := hS2
            clear hS2
            try simp only [Act.put, List.setIfInBounds_toArray, List.set_cons_zero, List.set_cons_succ]
            refine wpAnyH_take (i := 18) (oi := { dst := some 82, op := Op.binOp BinOp.neq 3 (Operand.tmp 81) (Operand.const (Value.int IntKind.i64 0)) 3, type := 4, pos := "law.go:116", after := #[{ on := 17, ground := Ground.data }, { on := 10, ground := Ground.guard }], guard := some (10, false) }) (v := ?vT4x19) rfl (by kernel_rfl) (by kernel_rfl) (by kernel_rfl) (fun _ _ _ h => h) (Or.inl ⟨by rfl, ?hyT4x19⟩) (by exact hS) ?rsT4x19
            case hyT4x19 => (intro w hSw; (try dsimp only at hSw); unfold Ep.SY at hSw; go_simp; try with_reducible rfl)
            try simp only [Act.put, List.setIfInBounds_toArray, List.set_cons_zero, List.set_cons_succ]
            refine wpAnyH_take (i := 19) (oi := { dst := some 83, op := Op.pick (Operand.tmp 74) (Operand.const (Value.bool true)) (Operand.tmp 82), type := 4, pos := "law.go:116", after := #[{ on := 10, ground := Ground.data }, { on := 18, ground := Ground.data }, { on := 2, ground := Ground.guard }], guard := some (2, true) }) (v := ?vT4x20) rfl (by kernel_rfl) (by kernel_rfl) (by kernel_rfl) (fun _ _ _ h => h) (Or.inl ⟨by rfl, ?hyT4x20⟩) (by exact hS) ?rsT4x20
            case hyT4x20 => (intro w hSw; (try dsimp only at hSw); unfold Ep.SY at hSw; go_simp; try with_reducible rfl)
            try simp only [Act.put, List.setIfInBounds_toArray, List.set_cons_zero, List.set_cons_succ]
            refine wpAnyH_take (i := 20) (oi := { dst := some 84, op := Op.pick (Operand.tmp 66) (Operand.tmp 83) (Operand.const (Value.bool false)), type := 4, pos := "law.go:116", after := #[{ on := 2, ground := Ground.data }, { on := 19, ground := Ground.data }], guard := none }) (v := ?vT4x21) rfl (by kernel_rfl) (by kernel_rfl) (by kernel_rfl) (fun _ _ _ h => h) (Or.inl ⟨by rfl, ?hyT4x21⟩) (by exact hS) ?rsT4x21
            case hyT4x21 => (intro w hSw; (try dsimp only at hSw); unfold Ep.SY at hSw; go_simp; try with_reducible rfl)
            try simp only [Act.put, List.setIfInBounds_toArray, List.set_cons_zero, List.set_cons_succ]
            refine wpAnyH_done (by kernel_rfl) ?_ _
            have hqr := Ep.SY.here hS
            have HBXE := Lib.hid ((Q.block hqr (lt_of_block H71_X.out)).trans H71_X.out)
            have HBNE := Lib.hid ((Q.block hqr (lt_of_block H71_N.out)).trans H71_N.out)
            have HQE := Lib.hid (Q71.out.trans hqr)
            clear hqr hS SQ
            go_wp2_with fail
            exact ⟨⟨i + 1, by go_num, by omega, HBXE.out, HBNE.out, HQE.out⟩, by simp [intOf]; omega⟩
          · have hed : decide (er = 0) = false := by simp [he]
            have hee : (er == 0) = false := by simp [he]
            have SQ := Lib.hid (fun u (q : Q yr u) => (by
              obtain ⟨x0, x1, x2⟩ := CX.out u ((Q.block q (lt_of_block H71_X.out)).trans H71_X.out)
              obtain ⟨x4, x5, x6, _, _, _⟩ := Er.block_cells ((Q.block q (lt_of_block B71_a.out)).trans B71_a.out)
              exact ⟨x0, x1, x2, CN.out u ((Q.block q (lt_of_block H71_N.out)).trans H71_N.out), x4, x5, x6, q⟩ : Ep.SY yr X N i g0 (.slice a n c) s k b6 gr (.slice a6 zl c6) sr u))
            go_wp2_with fail
            refine wp_region_held_drew (S := fun u => Ep.SY yr X N i g0 (.slice a n c) s k b6 gr (.slice a6 zl c6) sr u) (by kernel_rfl) (by exact SQ.out _ ((Q.refl yr).drew)) (fun hHeld => ?_)
            have hS : Ep.SY yr X N i g0 (.slice a n c) s k b6 gr (.slice a6 zl c6) sr yr.drew := hHeld
            clear hHeld
            generalize yr.drew = yT5x0 at hS ⊢
            refine wpAnyH_take (i := 0) (oi := { dst := some 64, op := Op.move (Operand.tmp 9), type := 33, pos := "law.go:116", after := #[], guard := none }) (v := ?vT5x1) rfl (by kernel_rfl) (by kernel_rfl) (by kernel_rfl) (fun _ _ _ h => h) (Or.inl ⟨by rfl, ?hyT5x1⟩) (by exact hS) ?rsT5x1
            case hyT5x1 => (intro w hSw; (try dsimp only at hSw); unfold Ep.SY at hSw; go_simp; try with_reducible rfl)
            try simp only [Act.put, List.setIfInBounds_toArray, List.set_cons_zero, List.set_cons_succ]
            refine wpAnyH_take (i := 1) (oi := { dst := some 65, op := Op.binOp BinOp.eql 33 (Operand.tmp 64) (Operand.const (Value.int IntKind.i64 0)) 33, type := 4, pos := "law.go:116", after := #[{ on := 0, ground := Ground.data }], guard := none }) (v := ?vT5x2) rfl (by kernel_rfl) (by kernel_rfl) (by kernel_rfl) (fun _ _ _ h => h) (Or.inl ⟨by rfl, ?hyT5x2⟩) (by exact hS) ?rsT5x2
            case hyT5x2 => (intro w hSw; (try dsimp only at hSw); unfold Ep.SY at hSw; go_simp; try with_reducible rfl)
            try simp only [Act.put, List.setIfInBounds_toArray, List.set_cons_zero, List.set_cons_succ]
            refine wpAnyH_take (i := 2) (oi := { dst := some 66, op := Op.move (Operand.tmp 65), type := 4, pos := "law.go:116", after := #[{ on := 1, ground := Ground.data }], guard := none }) (v := ?vT5x3) rfl (by kernel_rfl) (by kernel_rfl) (by kernel_rfl) (fun _ _ _ h => h) (Or.inl ⟨by rfl, ?hyT5x3⟩) (by exact hS) ?rsT5x3
            case hyT5x3 => (intro w hSw; (try dsimp only at hSw); unfold Ep.SY at hSw; go_simp; try with_reducible rfl)
            try simp only [Act.put, List.setIfInBounds_toArray, List.set_cons_zero, List.set_cons_succ]
            refine wpAnyH_take (i := 3) (oi := { dst := some 67, op := Op.fieldAddr 32 (Operand.tmp 8) 2, type := 0, pos := "law.go:116", after := #[{ on := 2, ground := Ground.guard }], guard := some (2, true) }) (v := undef) rfl (by kernel_rfl) (by kernel_rfl) (by kernel_rfl) (fun _ _ _ h => h) (Or.inr ⟨by rfl, rfl⟩) (by exact hS) ?_
            try simp only [Act.put, List.setIfInBounds_toArray, List.set_cons_zero, List.set_cons_succ]
            refine wpAnyH_take (i := 4) (oi := { dst := some 68, op := Op.load 3 (Operand.tmp 67), type := 3, pos := "law.go:116", after := #[{ on := 3, ground := Ground.data }, { on := 2, ground := Ground.guard }], guard := some (2, true) }) (v := undef) rfl (by kernel_rfl) (by kernel_rfl) (by kernel_rfl) (fun _ _ _ h => h) (Or.inr ⟨by rfl, rfl⟩) (by exact hS) ?_
            try simp only [Act.put, List.setIfInBounds_toArray, List.set_cons_zero, List.set_cons_succ]
            refine wpAnyH_take (i := 5) (oi := { dst := some 69, op := Op.move (Operand.tmp 6), type := 22, pos := "law.go:116", after := #[{ on := 2, ground := Ground.guard }], guard := some (2, true) }) (v := undef) rfl (by kernel_rfl) (by kernel_rfl) (by kernel_rfl) (fun _ _ _ h => h) (Or.inr ⟨by rfl, rfl⟩) (by exact hS) ?_
            try simp only [Act.put, List.setIfInBounds_toArray, List.set_cons_zero, List.set_cons_succ]
            refine wpAnyH_take (i := 6) (oi := { dst := some 70, op := Op.move (Operand.tmp 7), type := 3, pos := "law.go:116", after := #[{ on := 2, ground := Ground.guard }], guard := some (2, true) }) (v := undef) rfl (by kernel_rfl) (by kernel_rfl) (by kernel_rfl) (fun _ _ _ h => h) (Or.inr ⟨by rfl, rfl⟩) (by exact hS) ?_
            try simp only [Act.put, List.setIfInBounds_toArray, List.set_cons_zero, List.set_cons_succ]
            refine wpAnyH_take (i := 7) (oi := { dst := some 71, op := Op.indexAddr 22 (Operand.tmp 69) (Operand.tmp 70), type := 0, pos := "law.go:116", after := #[{ on := 5, ground := Ground.data }, { on := 6, ground := Ground.data }, { on := 2, ground := Ground.guard }], guard := some (2, true) }) (v := undef) rfl (by kernel_rfl) (by kernel_rfl) (by kernel_rfl) (fun _ _ _ h => h) (Or.inr ⟨by rfl, rfl⟩) (by exact hS) ?_
            try simp only [Act.put, List.setIfInBounds_toArray, List.set_cons_zero, List.set_cons_succ]
            refine wpAnyH_take (i := 8) (oi := { dst := some 72, op := Op.load 3 (Operand.tmp 71), type := 3, pos := "law.go:116", after := #[{ on := 7, ground := Ground.data }, { on := 2, ground := Ground.guard }], guard := some (2, true) }) (v := undef) rfl (by kernel_rfl) (by kernel_rfl) (by kernel_rfl) (fun _ _ _ h => h) (Or.inr ⟨by rfl, rfl⟩) (by exact hS) ?_
            try simp only [Act.put, List.setIfInBounds_toArray, List.set_cons_zero, List.set_cons_succ]
            refine wpAnyH_take (i := 9) (oi := { dst := some 73, op := Op.binOp BinOp.neq 3 (Operand.tmp 68) (Operand.tmp 72) 3, type := 4, pos := "law.go:116", after := #[{ on := 4, ground := Ground.data }, { on := 8, ground := Ground.data }, { on := 2, ground := Ground.guard }], guard := some (2, true) }) (v := undef) rfl (by kernel_rfl) (by kernel_rfl) (by kernel_rfl) (fun _ _ _ h => h) (Or.inr ⟨by rfl, rfl⟩) (by exact hS) ?_
            try simp only [Act.put, List.setIfInBounds_toArray, List.set_cons_zero, List.set_cons_succ]
            refine wpAnyH_take (i := 10) (oi := { dst := some 74, op := Op.move (Operand.tmp 73), type := 4, pos := "law.go:116", after := #[{ on := 9, ground := Ground.data }, { on := 2, ground := Ground.chain }, { on := 2, ground := Ground.guard }], guard := some (2, true) }) (v := undef) rfl (by kernel_rfl) (by kernel_rfl) (by kernel_rfl) (fun _ _ _ h => h) (Or.inr ⟨by rfl, rfl⟩) (by exact hS) ?_
            try simp only [Act.put, List.setIfInBounds_toArray, List.set_cons_zero, List.set_cons_succ]
            refine wpAnyH_take (i := 11) (oi := { dst := some 75, op := Op.load 32 (Operand.tmp 8), type := 32, pos := "law.go:116", after := #[{ on := 10, ground := Ground.guard }], guard := some (10, false) }) (v := undef) rfl (by kernel_rfl) (by kernel_rfl) (by kernel_rfl) (fun _ _ _ h => h) (Or.inr ⟨by rfl, rfl⟩) (by exact hS) ?_
            try simp only [Act.put, List.setIfInBounds_toArray, List.set_cons_zero, List.set_cons_succ]
            refine wpAnyH_take (i := 12) (oi := { dst := some 76, op := Op.move (Operand.tmp 5), type := 54, pos := "law.go:116", after := #[{ on := 10, ground := Ground.guard }], guard := some (10, false) }) (v := undef) rfl (by kernel_rfl) (by kernel_rfl) (by kernel_rfl) (fun _ _ _ h => h) (Or.inr ⟨by rfl, rfl⟩) (by exact hS) ?_
            try simp only [Act.put, List.setIfInBounds_toArray, List.set_cons_zero, List.set_cons_succ]
            refine wpAnyH_take (i := 13) (oi := { dst := some 77, op := Op.move (Operand.tmp 7), type := 3, pos := "law.go:116", after := #[{ on := 10, ground := Ground.guard }], guard := some (10, false) }) (v := undef) rfl (by kernel_rfl) (by kernel_rfl) (by kernel_rfl) (fun _ _ _ h => h) (Or.inr ⟨by rfl, rfl⟩) (by exact hS) ?_
            try simp only [Act.put, List.setIfInBounds_toArray, List.set_cons_zero, List.set_cons_succ]
            refine wpAnyH_take (i := 14) (oi := { dst := some 78, op := Op.indexAddr 54 (Operand.tmp 76) (Operand.tmp 77), type := 0, pos := "law.go:116", after := #[{ on := 12, ground := Ground.data }, { on := 13, ground := Ground.data }, { on := 10, ground := Ground.guard }], guard := some (10, false) }) (v := undef) rfl (by kernel_rfl) (by kernel_rfl) (by kernel_rfl) (fun _ _ _ h => h) (Or.inr ⟨by rfl, rfl⟩) (by exact hS) ?_
            try simp only [Act.put, List.setIfInBounds_toArray, List.set_cons_zero, List.set_cons_succ]
            refine wpAnyH_take (i := 15) (oi := { dst := some 79, op := Op.load 24 (Operand.tmp 78), type := 24, pos := "law.go:116", after := #[{ on := 14, ground := Ground.data }, { on := 10, ground := Ground.guard }], guard := some (10, false) }) (v := undef) rfl (by kernel_rfl) (by kernel_rfl) (by kernel_rfl) (fun _ _ _ h => h) (Or.inr ⟨by rfl, rfl⟩) (by exact hS) ?_
            try simp only [Act.put, List.setIfInBounds_toArray, List.set_cons_zero, List.set_cons_succ]
            refine wpAnyH_ready (rs := [16]) (by kernel_rfl) (by simp) ?_
            refine (AllReadyH.cons (o := { dst := some 80, op := Op.call { callee := Callee.value (Operand.func 22), args := #[Operand.tmp 79], argTypes := #[24] }, type := 32, pos := "law.go:116", after := #[{ on := 15, ground := Ground.data }, { on := 10, ground := Ground.chain }, { on := 10, ground := Ground.guard }], guard := some (10, false) }) rfl (fun K hK => ?_) AllReadyH.nil)
            go_simp
            refine hK.out _ _ (by exact hS) (fun hHeld => ?_)
            clear hK K hHeld
            try simp only [Act.put, List.setIfInBounds_toArray, List.set_cons_zero, List.set_cons_succ]
            refine wpAnyH_ready (rs := [17]) (by kernel_rfl) (by simp) ?_
            refine (AllReadyH.cons (o := { dst := some 81, op := Op.call { callee := Callee.value (Operand.func 30), args := #[Operand.tmp 75, Operand.tmp 80], argTypes := #[32, 32] }, type := 3, pos := "law.go:116", after := #[{ on := 11, ground := Ground.data }, { on := 16, ground := Ground.data }, { on := 16, ground := Ground.chain }, { on := 10, ground := Ground.guard }], guard := some (10, false) }) rfl (fun K hK => ?_) AllReadyH.nil)
            go_simp
            refine hK.out _ _ (by exact hS) (fun hHeld => ?_)
            clear hK K hHeld
            try simp only [Act.put, List.setIfInBounds_toArray, List.set_cons_zero, List.set_cons_succ]
            refine wpAnyH_take (i := 18) (oi := { dst := some 82, op := Op.binOp BinOp.neq 3 (Operand.tmp 81) (Operand.const (Value.int IntKind.i64 0)) 3, type := 4, pos := "law.go:116", after := #[{ on := 17, ground := Ground.data }, { on := 10, ground := Ground.guard }], guard := some (10, false) }) (v := undef) rfl (by kernel_rfl) (by kernel_rfl) (by kernel_rfl) (fun _ _ _ h => h) (Or.inr ⟨by rfl, rfl⟩) (by exact hS) ?_
            try simp only [Act.put, List.setIfInBounds_toArray, List.set_cons_zero, List.set_cons_succ]
            refine wpAnyH_take (i := 19) (oi := { dst := some 83, op := Op.pick (Operand.tmp 74) (Operand.const (Value.bool true)) (Operand.tmp 82), type := 4, pos := "law.go:116", after := #[{ on := 10, ground := Ground.data }, { on := 18, ground := Ground.data }, { on := 2, ground := Ground.guard }], guard := some (2, true) }) (v := undef) rfl (by kernel_rfl) (by kernel_rfl) (by kernel_rfl) (fun _ _ _ h => h) (Or.inr ⟨by rfl, rfl⟩) (by exact hS) ?_
            try simp only [Act.put, List.setIfInBounds_toArray, List.set_cons_zero, List.set_cons_succ]
            refine wpAnyH_take (i := 20) (oi := { dst := some 84, op := Op.pick (Operand.tmp 66) (Operand.tmp 83) (Operand.const (Value.bool false)), type := 4, pos := "law.go:116", after := #[{ on := 2, ground := Ground.data }, { on := 19, ground := Ground.data }], guard := none }) (v := ?vT5x21) rfl (by kernel_rfl) (by kernel_rfl) (by kernel_rfl) (fun _ _ _ h => h) (Or.inl ⟨by rfl, ?hyT5x21⟩) (by exact hS) ?rsT5x21
            case hyT5x21 => (intro w hSw; (try dsimp only at hSw); unfold Ep.SY at hSw; go_simp; try with_reducible rfl)
            try simp only [Act.put, List.setIfInBounds_toArray, List.set_cons_zero, List.set_cons_succ]
            refine wpAnyH_done (by kernel_rfl) ?_ _
            have hqr := Ep.SY.here hS
            have HBXE := Lib.hid ((Q.block hqr (lt_of_block H71_X.out)).trans H71_X.out)
            have HBNE := Lib.hid ((Q.block hqr (lt_of_block H71_N.out)).trans H71_N.out)
            have HQE := Lib.hid (Q71.out.trans hqr)
            clear hqr hS SQ
            go_wp2_with fail
            exact ⟨⟨i + 1, by go_num, by omega, HBXE.out, HBNE.out, HQE.out⟩, by simp [intOf]; omega⟩
    · have hi3 : i = 3 := by omega
      subst hi3
      have HQE := Lib.hid (HQ2.out.trans hq)
      clear hq hbx hbn
      go_wp2_with fail
      refine (LV.out _).mono ?_
      rintro e z9 ⟨rfl, hq9⟩
      have HQ9 := Lib.hid (HQE.out.trans hq9)
      clear hq9
      go_wp2_with fail
      go_ret
      exact ⟨rfl, HQ9.out⟩

set_option maxRecDepth 100000 in
theorem lifted (os : Os) (started : os.Started) (H : Type) (enc : TypeId × Value → H) :
    ReturnsInHanded {} Try.checked os 9 .any (Rows.decimalAlignsSpec.pre6 enc Try.prog Try.f9 Rows.decimalAlignsRow.domain false) (Rows.decimalAlignsSpec.post enc Try.prog Try.f9 false true false false) := by
  refine returnsInHanded_of_change (C := Try.checked) own started (by kernel_rfl) Try.func9
    (ChangeSpec.witness6 (enc := enc) (C := Try.checked) false ⟨#[], #[.agg #[.bool false, .slice none 0 0, .int .i64 0], .int .i64 0], []⟩ 8 (by kernel_rfl) (by kernel_rfl) (by kernel_rfl) (by kernel_rfl)) ?_
  intro W base args ds gs before hval0 hW hcnd _
  have hval : ∀ (j : Nat) t v, Try.f9.params[j]? = some t → args[j]? = some v → Value.okWide Try.prog W .any base t v := hval0
  have hW' := hW
  obtain ⟨p, q, hA0, hV, rfl, hfz, hnd⟩ := hW
  have hA : DataW.TrodAll enc Try.prog W 0 (fun _ => true) true Try.f9.params.toList args.toList ds p := hA0
  rw [Try.params9] at hA hval
  obtain ⟨v0, vs0, d0, ds0, p0, q0, hargs, rfl, rfl, h0, r0⟩ := trodAll_cons hA
  obtain ⟨v1, vs1, d1, ds1, p1, q1, rfl, rfl, rfl, h1, r1⟩ := trodAll_cons r0
  obtain ⟨rfl, rfl, rfl⟩ := trodAll_nil r1
  obtain rfl : args = #[v0, v1] := by cases args; simp_all
  obtain ⟨rfl, rfl⟩ := trodVars_none hV
  have k0 := h0
  have lt0 : ∀ x ∈ p0, x.block < W.heap.size := by obtain ⟨m, hm⟩ := k0; exact DataW.trod_lt m _ _ _ hm
  obtain ⟨c00, c01, c02, y00, y01, y02, m0, rfl, _, _, hy00, hy01, hy02⟩ := Joins.open_agg3 Try.underlying24 (by kernel_rfl) (by kernel_rfl) (hval 0 24 v0 rfl rfl) h0
  obtain ⟨g0, rfl⟩ : ∃ b, c00 = .bool b := by
    obtain ⟨b, h, _⟩ := DataW.trod_bool Try.underlying4 hy00
    exact ⟨b, by simpa using h⟩
  obtain ⟨s0, rfl, ws0⟩ : ∃ n, c02 = .int .i64 n ∧ (Lit.int .i64 n).wf = true := by
    obtain ⟨n, h, _, hw⟩ := DataW.trod_int Try.underlying3 hy02
    exact ⟨n, by simpa using h, hw⟩
  obtain ⟨a0, len0, cap0, z0, rfl, w0⟩ : ∃ a len cap zs, c01 = .slice a len cap ∧ IsRow .i64 W a len cap zs := by
    rcases open_ints Try.underlying22 Try.underlying3 (by kernel_rfl) hy01 with ⟨hcs, _⟩ | ⟨x, l, c, zs, hcs, _, hl, hm, hz, _, hcell, hwz⟩
    · exact ⟨none, 0, 0, [], by simpa using hcs, .inl ⟨rfl, rfl, rfl, rfl⟩⟩
    · exact ⟨some x, l, c, zs, by simpa using hcs, .inr ⟨_, rfl, hl, hm, by simpa using hz, hcell, hwz⟩⟩
  obtain ⟨xs0, l0, _, b0⟩ := w0.lst
  obtain ⟨a1, rfl, rfl, rfl, w1⟩ := open_int Try.underlying3 (hval 1 3 v1 rfl rfl) h1
  clear hA0 hval0
  refine (walk W g0 (.slice a0 len0 cap0) xs0 l0 b0 s0 (bounds_i64 ws0) a1 (bounds_i64 w1)).mono fun e W' ⟨he, bel⟩ => ?_
  subst he
  exact ⟨_, rfl, _, _, _, [], _, [], hW', trodAll_mk1 (shut_bool Try.underlying4 _), (trodAll_cons_mk (Below.trod laidOut (by kernel_rfl) (of_decide_eq_true (by kernel_rfl)) k0 bel lt0) (trodAll_cons_mk (shut_int Try.underlying3 w1) trodAll_mk0)), rfl, bel.below.frame _, fun h => by cases h⟩

/-- The statement. -/
theorem proved : Rows.DecimalAlignsSaid :=
  OpenClaim.holds_of_wide 9 Try.f9 rfl rfl rfl rfl rfl rfl rfl ⟨rfl, rfl, rfl, rfl, rfl⟩ rfl rfl rfl rfl rfl (by kernel_rfl) Try.func9 (by kernel_rfl)
    (of_decide_eq_true (by kernel_rfl)) (by unfold Func.isWrapper; first | (rw [if_pos (by decide +kernel)]; kernel_rfl) | (rw [if_neg (by decide +kernel)]; exact ⟨rfl, rfl⟩))
    (fun os started H enc _ => lifted os started H enc)
#print axioms proved
end Go.Proofs.Ytilbefdeanhnpaa.decimalAligns
