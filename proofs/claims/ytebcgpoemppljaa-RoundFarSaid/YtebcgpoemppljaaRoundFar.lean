/- RoundFar: of whatever decimal (its first 12 numbers made digits, its scale made 0 to 9), a scale (made 0 to 9) and a mode (made one) a number is changed by less than one of the last place, in the half modes by no more than half of one; no conditions. -/
import Derived.Test.YtebcgpoemppljaaRows
import Derived.WalkKit
import Derived.ProofKit
import Derived.OpenShut
import Derived.ShutString
import Derived.ChangeOld
import Derived.Below
import Derived.Lib.SmallJoins
import Derived.Test.YtebcgpoemppljaaInts
import Derived.Test.YtebcgpoemppljaaUtfM
import Derived.Test.YtebcgpoemppljaaUtfG
import Derived.Test.YtebcgpoemppljaaUtfR
import Derived.Test.YtebcgpoemppljaaDigM
import Derived.Test.YtebcgpoemppljaaDigL
import Derived.Test.YtebcgpoemppljaaDigR
import Derived.Test.YtebcgpoemppljaaDecM
import Derived.Test.YtebcgpoemppljaaDecR
import Derived.Test.YtebcgpoemppljaaDecS
import Derived.Test.YtebcgpoemppljaaDecC
import Derived.Test.YtebcgpoemppljaaDecZ
import Derived.Test.YtebcgpoemppljaaDecY
import Derived.Test.YtebcgpoemppljaaRndM
import Derived.Test.YtebcgpoemppljaaRndN
import Derived.Test.YtebcgpoemppljaaRndU
import Derived.Test.YtebcgpoemppljaaRndP
import Derived.Test.YtebcgpoemppljaaRndZ
import Derived.Test.YtebcgpoemppljaaDecA
import Derived.Test.YtebcgpoemppljaaRndT
import Derived.Test.YtebcgpoemppljaaRndC
import Derived.Test.YtebcgpoemppljaaRndR
set_option linter.unusedVariables false
set_option linter.unusedSimpArgs false
namespace Go.Proofs.Ytebcgpoemppljaa.roundFar
open Go.ChangeShapes Go.WideShapes Go.ChangeAt Go.RowKit
open Go.ChangeMaps (open_string shut_string)

theorem own : ownKnob Try.prog.godebug = none := by kernel_rfl
theorem laidOut : laidOutB Try.prog = true := by kernel_rfl


set_option maxHeartbeats 8000000 in
set_option maxRecDepth 100000 in
theorem walk (w : World) (g0 : Bool) (v0 : Value) (xs0 : List Int) (w0 : Lst w v0 xs0) (b0 : ∀ n ∈ xs0, -9223372036854775808 ≤ n ∧ n ≤ 9223372036854775807) (s0 : Int) (ws0 : -9223372036854775808 ≤ s0 ∧ s0 ≤ 9223372036854775807) (a1 : Int) (w1 : -9223372036854775808 ≤ a1 ∧ a1 ≤ 9223372036854775807) (a2 : Int) (w2 : -9223372036854775808 ≤ a2 ∧ a2 ≤ 9223372036854775807) :
    Calls Try.prog 6 #[.agg #[.bool g0, v0, .int .i64 s0], .int .i64 a1, .int .i64 a2] w fun e w' => e = .returned (.bool true) ∧ Q w w' := by
  obtain ⟨A0, C0, rfl, _, _⟩ := w0.shape2
  have hgl0 := Dm.gdL_len xs0 12
  have kX0 := Dm.gdL_ok xs0 12
  have hab0 := Um.around_bd s0 10 (by omega)
  obtain ⟨t0, ht0⟩ : ∃ t : Nat, Um.around s0 10 = (t : Int) := ⟨(Um.around s0 10).toNat, by omega⟩
  rw [ht0] at hab0
  have hs0 : t0 ≤ 9 := by omega
  obtain ⟨p0, hp0⟩ : ∃ p, (Dm.gdL xs0 12).length = p := ⟨_, rfl⟩
  have hpm0 : p0 ≤ 12 := by omega
  have G0 := Lib.hid (fun u (q : Q w u) => Ep.good_sh u g0 A0 xs0.length C0 s0 xs0 12 (w0.q q) rfl ws0 (by omega) b0 t0 p0 ht0 hp0)
  generalize Dm.gdL xs0 12 = X0 at *
  generalize hn0 : xs0.length = n0 at *
  have HP0 := Lib.hid hp0
  clear hgl0 hab0 ht0 hp0
  have A1 := fun w => Ur.around_any a1 10 w w1.1 w1.2 (by omega) (by omega)
  have hab1 := Um.around_bd a1 10 (by omega)
  obtain ⟨n, hn⟩ : ∃ t : Nat, Um.around a1 10 = (t : Int) := ⟨(Um.around a1 10).toNat, by omega⟩
  rw [hn] at A1 hab1
  have nlt : n < 10 := by omega
  have AR1 := Lib.hid A1
  clear A1 hab1 hn
  have A2 := fun w => Ur.around_any a2 7 w w2.1 w2.2 (by omega) (by omega)
  have hab2 := Um.around_bd a2 7 (by omega)
  obtain ⟨m, hm⟩ : ∃ t : Nat, Um.around a2 7 = (t : Int) := ⟨(Um.around a2 7).toNat, by omega⟩
  rw [hm] at A2 hab2
  have mlt : m < 7 := by omega
  have AR2 := Lib.hid A2
  clear A2 hab2 hm
  have hp0 := HP0.out
  have P0 := Rl.to_prog g0 t0 n m X0 (by omega) kX0 (by omega) (by omega) (by omega)
  have zl0 := Rl.rk_len g0 t0 n m X0 (by omega) kX0 (by omega)
  unfold Rl.R3 at P0
  have hN : n ≤ max n t0 ∧ t0 ≤ max n t0 := by omega
  have hrk := Rm.rk_at g0 (Dm.num X0) t0 n (max n t0) m hN.1 hN.2
  have hP : 0 < 10 ^ (max n t0 - n) := Nat.pow_pos (by omega)
  have hfar := Rm.rr_far g0 (Dm.num X0 * 10 ^ (max n t0 - t0)) (10 ^ (max n t0 - n)) m hP
  have hhalf := Rm.rr_half g0 (Dm.num X0 * 10 ^ (max n t0 - t0)) (10 ^ (max n t0 - n)) m hP
  rw [← hrk] at hfar hhalf
  clear hrk
  generalize Rm.rk g0 (Dm.st (Dm.num X0) t0).1 (Dm.st (Dm.num X0) t0).2 n m = R0 at *
  have AD := Rr.add_t (Dm.cg g0 R0) (!g0) n t0 (Dm.dg R0) X0 (by omega) (by omega) (Dm.okD_dg _) kX0 (by omega) (by omega)
  have hal := Ep.ad_len (Dm.cg g0 R0) (!g0) n t0 (max n t0) (Dm.dg R0) X0 (Dm.okD_dg _) kX0 (by omega) (by omega) (by omega)
  rw [Dm.num_dg, Rm.far_eq _ _ _ _ hP] at AD hal
  generalize Rm.gap (R0 * 10 ^ (max n t0 - n)) (Dm.num X0 * 10 ^ (max n t0 - t0)) = DD at *
  have hlt := Rm.far_lt DD n (max n t0) _ hN.1 rfl hfar
  have hle := fun h => Rm.half_le DD n (max n t0) _ hN.1 rfl (hhalf h)
  have hsl := Dm.st_le DD (max n t0)
  have TI := fun u v h => Er.times_pos false v (Dm.st DD (max n t0)).2 2 (Dm.dg (Dm.st DD (max n t0)).1) u h (by omega) (Dm.okD_dg _) (by omega) (by omega)
  have hsl2 := Dm.st_le ((Dm.st DD (max n t0)).1 * 2) (Dm.st DD (max n t0)).2
  have htl : (Dm.dg (Dm.st ((Dm.st DD (max n t0)).1 * 2) (Dm.st DD (max n t0)).2).1).length < 9100 := by
    have a := Rr.st_fst_le ((Dm.st DD (max n t0)).1 * 2) (Dm.st DD (max n t0)).2
    have b := Dm.num_lt _ (Dm.okD_dg (Dm.st DD (max n t0)).1)
    rw [Dm.num_dg] at b
    have c := Dm.dg_len_lt (Dm.st ((Dm.st DD (max n t0)).1 * 2) (Dm.st DD (max n t0)).2).1 ((Dm.dg (Dm.st DD (max n t0)).1).length + 1) (by rw [Nat.pow_succ]; omega)
    omega
  have ok1 : Dm.okD [1] := fun d hd => by simp at hd; omega
  have C1 := fun u a b c d h1 h2 => Rl.cmp_sh false false (Dm.st DD (max n t0)).2 n (Dm.dg (Dm.st DD (max n t0)).1) [1] (by omega) (by simp) (Dm.okD_dg _) ok1 (by omega) (by omega) u a b _ 1 c d rfl rfl h1 h2
  have C2 := fun u a b c d h1 h2 => Rl.cmp_sh false false (Dm.st ((Dm.st DD (max n t0)).1 * 2) (Dm.st DD (max n t0)).2).2 n (Dm.dg (Dm.st ((Dm.st DD (max n t0)).1 * 2) (Dm.st DD (max n t0)).2).1) [1] (by omega) (by simp) (Dm.okD_dg _) ok1 (by omega) (by omega) u a b _ 1 c d rfl rfl h1 h2
  rw [Dm.num_dg, Rr.num_one] at C1 C2
  have TT := fun u v h => (by
    refine (TI u v h).mono ?_
    rintro e w' ⟨x, rfl, hx, hq⟩
    obtain ⟨a, c, rfl⟩ := hx.shape
    rw [Dm.num_dg] at hx ⊢
    exact ⟨a, c, rfl, hx.lst, hq⟩ : Calls Try.prog 24 #[.agg #[.bool false, v, .int .i64 (Dm.st DD (max n t0)).2], .int .i64 (2 : Nat)] u fun e w' => ∃ a c, e = .returned (.tuple #[.agg #[.bool (Dm.cg false ((Dm.st DD (max n t0)).1 * 2)), .slice a (Dm.dg (Dm.st ((Dm.st DD (max n t0)).1 * 2) (Dm.st DD (max n t0)).2).1).length c, .int .i64 ((Dm.st ((Dm.st DD (max n t0)).1 * 2) (Dm.st DD (max n t0)).2).2 : Nat)], .int .i64 0]) ∧ Lst w' (.slice a (Dm.dg (Dm.st ((Dm.st DD (max n t0)).1 * 2) (Dm.st DD (max n t0)).2).1).length c) (Dm.dg (Dm.st ((Dm.st DD (max n t0)).1 * 2) (Dm.st DD (max n t0)).2).1) ∧ Q u w')
  have hcf : Dm.cg false ((Dm.st DD (max n t0)).1 * 2) = false := by unfold Dm.cg; split <;> rfl
  rw [hcf] at TT
  unfold Rr.T2 at AD
  clear TI hcf
  generalize Dm.cmpD false (Dm.st DD (max n t0)).1 (Dm.st DD (max n t0)).2 false 1 n = k1 at *
  generalize Dm.cmpD false (Dm.st ((Dm.st DD (max n t0)).1 * 2) (Dm.st DD (max n t0)).2).1 (Dm.st ((Dm.st DD (max n t0)).1 * 2) (Dm.st DD (max n t0)).2).2 false 1 n = k2 at *
  generalize Dm.dg (Dm.st ((Dm.st DD (max n t0)).1 * 2) (Dm.st DD (max n t0)).2).1 = ZT at *
  generalize (Dm.st ((Dm.st DD (max n t0)).1 * 2) (Dm.st DD (max n t0)).2).2 = st at *
  generalize Dm.dg (Dm.st DD (max n t0)).1 = ZF at *
  generalize (Dm.st DD (max n t0)).2 = sf at *
  generalize Dm.cg (Dm.adG (Dm.cg g0 R0) (R0 * 10 ^ (max n t0 - n)) (!g0) (Dm.num X0 * 10 ^ (max n t0 - t0))) DD = gf at *
  generalize Dm.cg g0 R0 = c0 at *
  generalize Dm.dg R0 = Z0 at *
  generalize Z0.length = r0 at *
  generalize ZF.length = rf at *
  generalize ZT.length = rt at *
  obtain ⟨ng, hng⟩ : ∃ ng, (!g0) = ng := ⟨_, rfl⟩
  rw [hng] at AD
  have HNG := Lib.hid hng
  have PP0 := Lib.hid P0
  have HAD := Lib.hid AD
  have HTT := Lib.hid TT
  have HC1 := Lib.hid C1
  have HC2 := Lib.hid C2
  have HLE := Lib.hid hle
  have hk1 : decide (k1 < (0 : Int)) = true := by simp; exact hlt
  have LV := Lib.hid Rl.lives_any
  clear P0 AD TT C1 C2 hle hng hal hfar hhalf hP hN hsl hsl2 htl ok1 zl0 hp0 w0 b0 kX0 hn0
  go_enter Try.func6, Try.ntmps6
  have Q0 := Lib.hid (show Q w (w.alloc (.cells #[.bool g0, .slice A0 n0 C0, .int .i64 s0] 24)) from ((Q.refl w).alloc (.cells #[.bool g0, .slice A0 n0 C0, .int .i64 s0] 24)))
  have B0_i0 := Lib.hid (show (w.alloc (.cells #[.bool g0, .slice A0 n0 C0, .int .i64 s0] 24)).heap[w.heap.size]? = some (.cells #[.bool g0, .slice A0 n0 C0, .int .i64 s0] 24) from by exact heap_alloc_new _ _)
  obtain ⟨k_i00, k_i01, k_i02, _, _, _⟩ := Er.block_cells B0_i0.out
  go_wp2_with fail
  refine (G0.out _ Q0.out).mono ?_
  rintro e z1 ⟨a1, c1x, rfl, hx, hq⟩
  clear k_i00 k_i01 k_i02
  have B1_i0 := Lib.hid ((Q.block hq (lt_of_block B0_i0.out)).trans B0_i0.out)
  clear B0_i0
  have Q1 := Lib.hid (Q.trans Q0.out hq)
  clear Q0
  have L1_X0 := Lib.hid hx
  clear hx
  clear hq
  have hq := (Q.refl z1).alloc (.cells #[.bool g0, .slice a1 p0 c1x, .int .i64 t0] 24)
  have hb := heap_alloc_new z1 (.cells #[.bool g0, .slice a1 p0 c1x, .int .i64 t0] 24)
  have L2_X0 := Lib.hid (Lst.q L1_X0.out hq)
  clear L1_X0
  have B2_i0 := Lib.hid ((Q.block hq (lt_of_block B1_i0.out)).trans B1_i0.out)
  clear B1_i0
  have Q2 := Lib.hid (Q.trans Q1.out hq)
  clear Q1
  have B2_x := Lib.hid hb
  clear hb hq
  obtain ⟨k_i00, k_i01, k_i02, _, _, _⟩ := Er.block_cells B2_i0.out
  obtain ⟨k_x0, k_x1, k_x2, _, _, _⟩ := Er.block_cells B2_x.out
  go_wp2_with fail
  refine (AR1.out _).mono ?_
  rintro e y ⟨rfl, rfl⟩
  clear k_i00 k_i01 k_i02 k_x0 k_x1 k_x2
  obtain ⟨k_i00, k_i01, k_i02, _, _, _⟩ := Er.block_cells B2_i0.out
  obtain ⟨k_x0, k_x1, k_x2, _, _, _⟩ := Er.block_cells B2_x.out
  go_wp2_with fail
  refine (AR2.out _).mono ?_
  rintro e y ⟨rfl, rfl⟩
  clear k_i00 k_i01 k_i02 k_x0 k_x1 k_x2
  obtain ⟨k_i00, k_i01, k_i02, _, _, _⟩ := Er.block_cells B2_i0.out
  obtain ⟨k_x0, k_x1, k_x2, _, _, _⟩ := Er.block_cells B2_x.out
  go_wp2_with fail
  refine (Rl.of_sh _ _ _ _ _ _).mono ?_
  rintro e z3 ⟨rfl, hq⟩
  clear k_i00 k_i01 k_i02 k_x0 k_x1 k_x2
  have L3_X0 := Lib.hid (Lst.q L2_X0.out hq)
  clear L2_X0
  have B3_i0 := Lib.hid ((Q.block hq (lt_of_block B2_i0.out)).trans B2_i0.out)
  clear B2_i0
  have B3_x := Lib.hid ((Q.block hq (lt_of_block B2_x.out)).trans B2_x.out)
  clear B2_x
  have Q3 := Lib.hid (Q.trans Q2.out hq)
  clear Q2
  clear hq
  obtain ⟨k_i00, k_i01, k_i02, _, _, _⟩ := Er.block_cells B3_i0.out
  obtain ⟨k_x0, k_x1, k_x2, _, _, _⟩ := Er.block_cells B3_x.out
  go_wp2_with fail
  refine (PP0.out _ _ L3_X0.out).mono ?_
  rintro e z4 ⟨a3, c3x, rfl, hx, hq⟩
  clear k_i00 k_i01 k_i02 k_x0 k_x1 k_x2
  have L4_X0 := Lib.hid (Lst.q L3_X0.out hq)
  clear L3_X0
  have B4_i0 := Lib.hid ((Q.block hq (lt_of_block B3_i0.out)).trans B3_i0.out)
  clear B3_i0
  have B4_x := Lib.hid ((Q.block hq (lt_of_block B3_x.out)).trans B3_x.out)
  clear B3_x
  have Q4 := Lib.hid (Q.trans Q3.out hq)
  clear Q3
  have L4_Z0 := Lib.hid hx.lst
  clear hx
  clear hq
  have hq := (Q.refl z4).alloc (.cells #[.bool c0, .slice a3 r0 c3x, .int .i64 n] 27)
  have hb := heap_alloc_new z4 (.cells #[.bool c0, .slice a3 r0 c3x, .int .i64 n] 27)
  have L5_X0 := Lib.hid (Lst.q L4_X0.out hq)
  clear L4_X0
  have L5_Z0 := Lib.hid (Lst.q L4_Z0.out hq)
  clear L4_Z0
  have B5_i0 := Lib.hid ((Q.block hq (lt_of_block B4_i0.out)).trans B4_i0.out)
  clear B4_i0
  have B5_x := Lib.hid ((Q.block hq (lt_of_block B4_x.out)).trans B4_x.out)
  clear B4_x
  have Q5 := Lib.hid (Q.trans Q4.out hq)
  clear Q4
  have B5_p := Lib.hid hb
  clear hb hq
  have SQ := Lib.hid (fun u (q : Q ((z4.alloc (.cells #[.bool c0, .slice a3 r0 c3x, .int .i64 n] 27))) u) => (Ep.SB2.of B5_p.out B5_x.out q : Ep.SB2 ((z4.alloc (.cells #[.bool c0, .slice a3 r0 c3x, .int .i64 n] 27))) (z4.heap.size) c0 (.slice a3 r0 c3x) (n) (z1.heap.size) g0 (.slice a1 p0 c1x) (t0) u))
  obtain ⟨k_i00, k_i01, k_i02, _, _, _⟩ := Er.block_cells B5_i0.out
  obtain ⟨k_x0, k_x1, k_x2, _, _, _⟩ := Er.block_cells B5_x.out
  obtain ⟨k_p0, k_p1, k_p2, _, _, _⟩ := Er.block_cells B5_p.out
  go_upto_region 7 with fail
  go_cut [12, 13] (fun p e wx => ∃ b9 a9 c9, p = .pointer (some ⟨b9, 0, none⟩) ∧ e = .int .i64 0 ∧ (z4.alloc (.cells #[.bool c0, .slice a3 r0 c3x, .int .i64 n] 27)).heap.size ≤ b9 ∧ wx.heap[b9]? = some (.cells #[.bool gf, .slice a9 rf c9, .int .i64 sf] 24) ∧ Lst wx (.slice a9 rf c9) ZF ∧ (∀ (a : Addr) (n c : Nat), (.slice a9 rf c9 : Value) = .slice (some a) n c → n ≠ 0 → a.block ≠ b9) ∧ Q (z4.alloc (.cells #[.bool c0, .slice a3 r0 c3x, .int .i64 n] 27)) wx)
  case first =>
    refine wp_region_held_drew (S := fun u => Ep.SB2 ((z4.alloc (.cells #[.bool c0, .slice a3 r0 c3x, .int .i64 n] 27))) (z4.heap.size) c0 (.slice a3 r0 c3x) (n) (z1.heap.size) g0 (.slice a1 p0 c1x) (t0) u) (by kernel_rfl) (by exact SQ.out _ ((Q.refl (z4.alloc (.cells #[.bool c0, .slice a3 r0 c3x, .int .i64 n] 27))).drew)) (fun hHeld => ?_)
    have hS : Ep.SB2 ((z4.alloc (.cells #[.bool c0, .slice a3 r0 c3x, .int .i64 n] 27))) (z4.heap.size) c0 (.slice a3 r0 c3x) (n) (z1.heap.size) g0 (.slice a1 p0 c1x) (t0) (z4.alloc (.cells #[.bool c0, .slice a3 r0 c3x, .int .i64 n] 27)).drew := hHeld
    clear hHeld
    generalize (z4.alloc (.cells #[.bool c0, .slice a3 r0 c3x, .int .i64 n] 27)).drew = yT10x0 at hS ⊢
    refine wpAnyH_take (i := 0) (oi := { dst := some 34, op := Op.load 27 (Operand.tmp 10), type := 27, pos := "law.go:76", after := #[], guard := none }) (v := ?vT10x1) rfl (by kernel_rfl) (by kernel_rfl) (by kernel_rfl) (fun _ _ _ h => h) (Or.inl ⟨by rfl, ?hyT10x1⟩) (by exact hS) ?rsT10x1
    case hyT10x1 => (intro w hSw; (try dsimp only at hSw); unfold Ep.SB2 at hSw; go_simp; try with_reducible rfl)
    try simp only [Act.put, List.setIfInBounds_toArray, List.set_cons_zero, List.set_cons_succ]
    refine wpAnyH_take (i := 2) (oi := { dst := some 36, op := Op.load 24 (Operand.tmp 7), type := 24, pos := "law.go:76", after := #[], guard := none }) (v := ?vT10x2) rfl (by kernel_rfl) (by kernel_rfl) (by kernel_rfl) (fun _ _ _ h => h) (Or.inl ⟨by rfl, ?hyT10x2⟩) (by exact hS) ?rsT10x2
    case hyT10x2 => (intro w hSw; (try dsimp only at hSw); unfold Ep.SB2 at hSw; go_simp; try with_reducible rfl)
    try simp only [Act.put, List.setIfInBounds_toArray, List.set_cons_zero, List.set_cons_succ]
    refine wpAnyH_ready (rs := [1, 8]) (by kernel_rfl) (by simp) ?_
    refine (AllReadyH.cons (o := { dst := some 35, op := Op.call { callee := Callee.value (Operand.func 17), args := #[Operand.tmp 34], argTypes := #[27] }, type := 24, pos := "law.go:76", after := #[{ on := 0, ground := Ground.data }], guard := none }) rfl (fun K hK => ?_) (AllReadyH.cons (o := { dst := some 12, op := Op.alloc 24, type := 0, pos := "law.go:76", after := #[], guard := none }) rfl (fun K hK => ?_) AllReadyH.nil))
    · go_simp
      refine (Rl.as_sh _ _ _ _ _ _).mono ?_
      rintro e yT10x3 ⟨rfl, hq⟩
      try (go_wp2_with fail)
      have hS2 := SQ.out _ (Q.trans (Ep.SB2.here hS) hq)
      refine hK.out _ _ (by exact hS2) (fun hHeld => ?_)
      clear hK K hHeld hS hq
      have hS := hS2
      clear hS2
      try simp only [Act.put, List.setIfInBounds_toArray, List.set_cons_zero, List.set_cons_succ]
      refine wpAnyH_ready (rs := [3, 8]) (by kernel_rfl) (by simp) ?_
      refine (AllReadyH.cons (o := { dst := some 37, op := Op.call { callee := Callee.value (Operand.func 23), args := #[Operand.tmp 36], argTypes := #[24] }, type := 24, pos := "law.go:76", after := #[{ on := 2, ground := Ground.data }, { on := 1, ground := Ground.chain }], guard := none }) rfl (fun K hK => ?_) (AllReadyH.cons (o := { dst := some 12, op := Op.alloc 24, type := 0, pos := "law.go:76", after := #[], guard := none }) rfl (fun K hK => ?_) AllReadyH.nil))
      · go_simp
        refine (Rr.minus_sh _ _ _ HNG.out _ _ _ _).mono ?_
        rintro e yT10x4 ⟨rfl, hq⟩
        try (go_wp2_with fail)
        have hS2 := SQ.out _ (Q.trans (Ep.SB2.here hS) hq)
        refine hK.out _ _ (by exact hS2) (fun hHeld => ?_)
        clear hK K hHeld hS hq
        have hS := hS2
        clear hS2
        try simp only [Act.put, List.setIfInBounds_toArray, List.set_cons_zero, List.set_cons_succ]
        refine wpAnyH_ready (rs := [4, 8]) (by kernel_rfl) (by simp) ?_
        refine (AllReadyH.cons (o := { dst := some 38, op := Op.call { callee := Callee.value (Operand.func 22), args := #[Operand.tmp 35, Operand.tmp 37], argTypes := #[24, 24] }, type := 32, pos := "law.go:76", after := #[{ on := 1, ground := Ground.data }, { on := 3, ground := Ground.data }, { on := 3, ground := Ground.chain }], guard := none }) rfl (fun K hK => ?_) (AllReadyH.cons (o := { dst := some 12, op := Op.alloc 24, type := 0, pos := "law.go:76", after := #[], guard := none }) rfl (fun K hK => ?_) AllReadyH.nil))
        · go_simp
          refine (HAD.out _ _ _ (L5_Z0.out.q (Ep.SB2.here hS)) (L5_X0.out.q (Ep.SB2.here hS))).mono ?_
          rintro e yT10x5 ⟨a9, c9, rfl, hx9, hq⟩
          try (go_wp2_with fail)
          have hlf := hx9
          have hx9 := Rr.lf_lst hlf
          clear hlf
          have hS2 := SQ.out _ (Q.trans (Ep.SB2.here hS) hq)
          refine hK.out _ _ (by exact hS2) (fun hHeld => ?_)
          clear hK K hHeld hS hq
          have hS := hS2
          clear hS2
          try simp only [Act.put, List.setIfInBounds_toArray, List.set_cons_zero, List.set_cons_succ]
          refine wpAnyH_take (i := 5) (oi := { dst := some 33, op := Op.move (Operand.tmp 38), type := 32, pos := "law.go:76", after := #[{ on := 4, ground := Ground.data }], guard := none }) (v := ?vT10x6) rfl (by kernel_rfl) (by kernel_rfl) (by kernel_rfl) (fun _ _ _ h => h) (Or.inl ⟨by rfl, ?hyT10x6⟩) (by exact hS) ?rsT10x6
          case hyT10x6 => (intro w hSw; (try dsimp only at hSw); unfold Ep.SB2 at hSw; go_simp; try with_reducible rfl)
          try simp only [Act.put, List.setIfInBounds_toArray, List.set_cons_zero, List.set_cons_succ]
          refine wpAnyH_take (i := 6) (oi := { dst := some 39, op := Op.extract (Operand.tmp 33) 0, type := 24, pos := "law.go:76", after := #[{ on := 5, ground := Ground.data }], guard := none }) (v := ?vT10x7) rfl (by kernel_rfl) (by kernel_rfl) (by kernel_rfl) (fun _ _ _ h => h) (Or.inl ⟨by rfl, ?hyT10x7⟩) (by exact hS) ?rsT10x7
          case hyT10x7 => (intro w hSw; (try dsimp only at hSw); unfold Ep.SB2 at hSw; go_simp; try with_reducible rfl)
          try simp only [Act.put, List.setIfInBounds_toArray, List.set_cons_zero, List.set_cons_succ]
          refine wpAnyH_take (i := 7) (oi := { dst := some 40, op := Op.extract (Operand.tmp 33) 1, type := 28, pos := "law.go:76", after := #[{ on := 5, ground := Ground.data }, { on := 9, ground := Ground.gcOnly Departure.lateStores }], guard := none }) (v := ?vT10x8) rfl (by kernel_rfl) (by kernel_rfl) (by kernel_rfl) (fun _ _ _ h => h) (Or.inl ⟨by rfl, ?hyT10x8⟩) (by exact hS) ?rsT10x8
          case hyT10x8 => (intro w hSw; (try dsimp only at hSw); unfold Ep.SB2 at hSw; go_simp; try with_reducible rfl)
          try simp only [Act.put, List.setIfInBounds_toArray, List.set_cons_zero, List.set_cons_succ]
          refine wpAnyH_ready (rs := [8]) (by kernel_rfl) (by simp) ?_
          refine (AllReadyH.cons (o := { dst := some 12, op := Op.alloc 24, type := 0, pos := "law.go:76", after := #[], guard := none }) rfl (fun K hK => ?_) AllReadyH.nil)
          go_simp
          have hq := (Q.refl yT10x5).alloc (.cells #[.bool false, .slice none 0 0, .int .i64 0] 24)
          have hB := heap_alloc_new yT10x5 (.cells #[.bool false, .slice none 0 0, .int .i64 0] 24)
          have hbu : yT10x5.heap.size < (yT10x5.alloc (.cells #[.bool false, .slice none 0 0, .int .i64 0] 24)).heap.size := by rw [World.size_alloc]; omega
          have hWb := (Ep.SB2.here hS).le
          have hne_hx9 : ∀ (a : Addr) (n c : Nat), (.slice a9 rf c9 : Value) = .slice (some a) n c → n ≠ 0 → a.block ≠ yT10x5.heap.size := fun a n c h1 h2 => Nat.ne_of_lt (Lst.old hx9 a n c h1 h2)
          have hx9 := Lst.q hx9 hq
          have hS2 := SQ.out _ (Q.trans (Ep.SB2.here hS) hq)
          refine hK.out _ _ (by exact hS2) (fun hHeld => ?_)
          clear hK K hHeld hS hq
          have hS := hS2
          clear hS2
          generalize yT10x5.alloc (.cells #[.bool false, .slice none 0 0, .int .i64 0] 24) = yT10x9 at *
          generalize yT10x5.heap.size = b9 at *
          have hne := hne_hx9
          try simp only [Act.put, List.setIfInBounds_toArray, List.set_cons_zero, List.set_cons_succ]
          refine wpAnyH_ready (rs := [9]) (by kernel_rfl) (by simp) ?_
          refine (AllReadyH.cons (o := { dst := none, op := Op.store 24 (Operand.tmp 12) (Operand.tmp 39), type := 0, pos := "law.go:76", after := #[{ on := 8, ground := Ground.data }, { on := 6, ground := Ground.data }, { on := 4, ground := Ground.chain }, { on := 0, ground := Ground.phase }, { on := 1, ground := Ground.phase }, { on := 2, ground := Ground.phase }, { on := 3, ground := Ground.phase }, { on := 4, ground := Ground.phase }, { on := 5, ground := Ground.phase }, { on := 6, ground := Ground.phase }, { on := 7, ground := Ground.textOnly Departure.lateStores }, { on := 8, ground := Ground.phase }], guard := none }) rfl (fun K hK => ?_) AllReadyH.nil)
          obtain ⟨f0, f1, f2, f3, f4, f5⟩ := Er.block_cells hB
          have hset := Er.block_set (x' := .bool gf) (y' := .slice a9 rf c9) (z' := .int .i64 sf) hB
          have hqW := ((Q.setCell (Q.setCell (Q.setCell (Ep.SB2.here hS) (ad := ⟨b9, 0, none⟩) hWb (.bool gf)) (ad := ⟨b9, 1, none⟩) hWb (.slice a9 rf c9)) (ad := ⟨b9, 2, none⟩) hWb (.int .i64 sf)))
          have hl := Lst.setCell (Lst.setCell (Lst.setCell hx9 (ad := ⟨b9, 0, none⟩) (.bool gf) hne) (ad := ⟨b9, 1, none⟩) (.slice a9 rf c9) hne) (ad := ⟨b9, 2, none⟩) (.int .i64 sf) hne
          go_simp
          have hS2 := SQ.out _ hqW
          refine hK.out _ _ (by exact hS2) (fun hHeld => ?_)
          clear hK K hHeld hS
          have hS := hS2
          clear hS2 f0 f1 f2 f3 f4 f5
          try simp only [Act.put, List.setIfInBounds_toArray, List.set_cons_zero, List.set_cons_succ]
          refine wpAnyH_take (i := 10) (oi := { dst := some 13, op := Op.assign (Operand.tmp 40), type := 28, pos := "law.go:76", after := #[{ on := 7, ground := Ground.data }, { on := 9, ground := Ground.chain }, { on := 0, ground := Ground.phase }, { on := 1, ground := Ground.phase }, { on := 2, ground := Ground.phase }, { on := 3, ground := Ground.phase }, { on := 4, ground := Ground.phase }, { on := 5, ground := Ground.phase }, { on := 6, ground := Ground.phase }, { on := 7, ground := Ground.phase }, { on := 8, ground := Ground.phase }, { on := 9, ground := Ground.phase }], guard := none }) (v := ?vT10x11) rfl (by kernel_rfl) (by kernel_rfl) (by kernel_rfl) (fun _ _ _ h => h) (Or.inl ⟨by rfl, ?hyT10x11⟩) (by exact hS) ?rsT10x11
          case hyT10x11 => (intro w hSw; (try dsimp only at hSw); unfold Ep.SB2 at hSw; go_simp; try with_reducible rfl)
          try simp only [Act.put, List.setIfInBounds_toArray, List.set_cons_zero, List.set_cons_succ]
          refine wpAnyH_done (by kernel_rfl) ?_ _
          go_wp2_with fail
          go_meet
          exact ⟨b9, a9, c9, rfl, rfl, hWb, hset, hl, hne, hqW⟩
        · go_simp
          have hq := (Q.refl yT10x4).alloc (.cells #[.bool false, .slice none 0 0, .int .i64 0] 24)
          have hB := heap_alloc_new yT10x4 (.cells #[.bool false, .slice none 0 0, .int .i64 0] 24)
          have hbu : yT10x4.heap.size < (yT10x4.alloc (.cells #[.bool false, .slice none 0 0, .int .i64 0] 24)).heap.size := by rw [World.size_alloc]; omega
          have hWb := (Ep.SB2.here hS).le
          have hS2 := SQ.out _ (Q.trans (Ep.SB2.here hS) hq)
          refine hK.out _ _ (by exact hS2) (fun hHeld => ?_)
          clear hK K hHeld hS hq
          have hS := hS2
          clear hS2
          generalize yT10x4.alloc (.cells #[.bool false, .slice none 0 0, .int .i64 0] 24) = yT10x12 at *
          generalize yT10x4.heap.size = b9 at *
          try simp only [Act.put, List.setIfInBounds_toArray, List.set_cons_zero, List.set_cons_succ]
          refine wpAnyH_ready (rs := [4]) (by kernel_rfl) (by simp) ?_
          refine (AllReadyH.cons (o := { dst := some 38, op := Op.call { callee := Callee.value (Operand.func 22), args := #[Operand.tmp 35, Operand.tmp 37], argTypes := #[24, 24] }, type := 32, pos := "law.go:76", after := #[{ on := 1, ground := Ground.data }, { on := 3, ground := Ground.data }, { on := 3, ground := Ground.chain }], guard := none }) rfl (fun K hK => ?_) AllReadyH.nil)
          go_simp
          refine (HAD.out _ _ _ (L5_Z0.out.q (Ep.SB2.here hS)) (L5_X0.out.q (Ep.SB2.here hS))).mono ?_
          rintro e yT10x13 ⟨a9, c9, rfl, hx9, hq⟩
          try (go_wp2_with fail)
          have hB := (Q.block hq (lt_of_block hB)).trans hB
          have hlf := hx9
          have hx9 := Rr.lf_lst hlf
          have hne : ∀ (a : Addr) (n c : Nat), (.slice a9 rf c9 : Value) = .slice (some a) n c → n ≠ 0 → a.block ≠ b9 := Rr.lf_ne hlf hbu
          clear hlf
          have hS2 := SQ.out _ (Q.trans (Ep.SB2.here hS) hq)
          have hbu := Nat.lt_of_lt_of_le hbu hq.le
          refine hK.out _ _ (by exact hS2) (fun hHeld => ?_)
          clear hK K hHeld hS hq
          have hS := hS2
          clear hS2
          try simp only [Act.put, List.setIfInBounds_toArray, List.set_cons_zero, List.set_cons_succ]
          refine wpAnyH_take (i := 5) (oi := { dst := some 33, op := Op.move (Operand.tmp 38), type := 32, pos := "law.go:76", after := #[{ on := 4, ground := Ground.data }], guard := none }) (v := ?vT10x14) rfl (by kernel_rfl) (by kernel_rfl) (by kernel_rfl) (fun _ _ _ h => h) (Or.inl ⟨by rfl, ?hyT10x14⟩) (by exact hS) ?rsT10x14
          case hyT10x14 => (intro w hSw; (try dsimp only at hSw); unfold Ep.SB2 at hSw; go_simp; try with_reducible rfl)
          try simp only [Act.put, List.setIfInBounds_toArray, List.set_cons_zero, List.set_cons_succ]
          refine wpAnyH_take (i := 6) (oi := { dst := some 39, op := Op.extract (Operand.tmp 33) 0, type := 24, pos := "law.go:76", after := #[{ on := 5, ground := Ground.data }], guard := none }) (v := ?vT10x15) rfl (by kernel_rfl) (by kernel_rfl) (by kernel_rfl) (fun _ _ _ h => h) (Or.inl ⟨by rfl, ?hyT10x15⟩) (by exact hS) ?rsT10x15
          case hyT10x15 => (intro w hSw; (try dsimp only at hSw); unfold Ep.SB2 at hSw; go_simp; try with_reducible rfl)
          try simp only [Act.put, List.setIfInBounds_toArray, List.set_cons_zero, List.set_cons_succ]
          refine wpAnyH_take (i := 7) (oi := { dst := some 40, op := Op.extract (Operand.tmp 33) 1, type := 28, pos := "law.go:76", after := #[{ on := 5, ground := Ground.data }, { on := 9, ground := Ground.gcOnly Departure.lateStores }], guard := none }) (v := ?vT10x16) rfl (by kernel_rfl) (by kernel_rfl) (by kernel_rfl) (fun _ _ _ h => h) (Or.inl ⟨by rfl, ?hyT10x16⟩) (by exact hS) ?rsT10x16
          case hyT10x16 => (intro w hSw; (try dsimp only at hSw); unfold Ep.SB2 at hSw; go_simp; try with_reducible rfl)
          try simp only [Act.put, List.setIfInBounds_toArray, List.set_cons_zero, List.set_cons_succ]
          refine wpAnyH_ready (rs := [9]) (by kernel_rfl) (by simp) ?_
          refine (AllReadyH.cons (o := { dst := none, op := Op.store 24 (Operand.tmp 12) (Operand.tmp 39), type := 0, pos := "law.go:76", after := #[{ on := 8, ground := Ground.data }, { on := 6, ground := Ground.data }, { on := 4, ground := Ground.chain }, { on := 0, ground := Ground.phase }, { on := 1, ground := Ground.phase }, { on := 2, ground := Ground.phase }, { on := 3, ground := Ground.phase }, { on := 4, ground := Ground.phase }, { on := 5, ground := Ground.phase }, { on := 6, ground := Ground.phase }, { on := 7, ground := Ground.textOnly Departure.lateStores }, { on := 8, ground := Ground.phase }], guard := none }) rfl (fun K hK => ?_) AllReadyH.nil)
          obtain ⟨f0, f1, f2, f3, f4, f5⟩ := Er.block_cells hB
          have hset := Er.block_set (x' := .bool gf) (y' := .slice a9 rf c9) (z' := .int .i64 sf) hB
          have hqW := ((Q.setCell (Q.setCell (Q.setCell (Ep.SB2.here hS) (ad := ⟨b9, 0, none⟩) hWb (.bool gf)) (ad := ⟨b9, 1, none⟩) hWb (.slice a9 rf c9)) (ad := ⟨b9, 2, none⟩) hWb (.int .i64 sf)))
          have hl := Lst.setCell (Lst.setCell (Lst.setCell hx9 (ad := ⟨b9, 0, none⟩) (.bool gf) hne) (ad := ⟨b9, 1, none⟩) (.slice a9 rf c9) hne) (ad := ⟨b9, 2, none⟩) (.int .i64 sf) hne
          go_simp
          have hS2 := SQ.out _ hqW
          refine hK.out _ _ (by exact hS2) (fun hHeld => ?_)
          clear hK K hHeld hS
          have hS := hS2
          clear hS2 f0 f1 f2 f3 f4 f5
          try simp only [Act.put, List.setIfInBounds_toArray, List.set_cons_zero, List.set_cons_succ]
          refine wpAnyH_take (i := 10) (oi := { dst := some 13, op := Op.assign (Operand.tmp 40), type := 28, pos := "law.go:76", after := #[{ on := 7, ground := Ground.data }, { on := 9, ground := Ground.chain }, { on := 0, ground := Ground.phase }, { on := 1, ground := Ground.phase }, { on := 2, ground := Ground.phase }, { on := 3, ground := Ground.phase }, { on := 4, ground := Ground.phase }, { on := 5, ground := Ground.phase }, { on := 6, ground := Ground.phase }, { on := 7, ground := Ground.phase }, { on := 8, ground := Ground.phase }, { on := 9, ground := Ground.phase }], guard := none }) (v := ?vT10x18) rfl (by kernel_rfl) (by kernel_rfl) (by kernel_rfl) (fun _ _ _ h => h) (Or.inl ⟨by rfl, ?hyT10x18⟩) (by exact hS) ?rsT10x18
          case hyT10x18 => (intro w hSw; (try dsimp only at hSw); unfold Ep.SB2 at hSw; go_simp; try with_reducible rfl)
          try simp only [Act.put, List.setIfInBounds_toArray, List.set_cons_zero, List.set_cons_succ]
          refine wpAnyH_done (by kernel_rfl) ?_ _
          go_wp2_with fail
          go_meet
          exact ⟨b9, a9, c9, rfl, rfl, hWb, hset, hl, hne, hqW⟩
      · go_simp
        have hq := (Q.refl yT10x3).alloc (.cells #[.bool false, .slice none 0 0, .int .i64 0] 24)
        have hB := heap_alloc_new yT10x3 (.cells #[.bool false, .slice none 0 0, .int .i64 0] 24)
        have hbu : yT10x3.heap.size < (yT10x3.alloc (.cells #[.bool false, .slice none 0 0, .int .i64 0] 24)).heap.size := by rw [World.size_alloc]; omega
        have hWb := (Ep.SB2.here hS).le
        have hS2 := SQ.out _ (Q.trans (Ep.SB2.here hS) hq)
        refine hK.out _ _ (by exact hS2) (fun hHeld => ?_)
        clear hK K hHeld hS hq
        have hS := hS2
        clear hS2
        generalize yT10x3.alloc (.cells #[.bool false, .slice none 0 0, .int .i64 0] 24) = yT10x19 at *
        generalize yT10x3.heap.size = b9 at *
        try simp only [Act.put, List.setIfInBounds_toArray, List.set_cons_zero, List.set_cons_succ]
        refine wpAnyH_ready (rs := [3]) (by kernel_rfl) (by simp) ?_
        refine (AllReadyH.cons (o := { dst := some 37, op := Op.call { callee := Callee.value (Operand.func 23), args := #[Operand.tmp 36], argTypes := #[24] }, type := 24, pos := "law.go:76", after := #[{ on := 2, ground := Ground.data }, { on := 1, ground := Ground.chain }], guard := none }) rfl (fun K hK => ?_) AllReadyH.nil)
        go_simp
        refine (Rr.minus_sh _ _ _ HNG.out _ _ _ _).mono ?_
        rintro e yT10x20 ⟨rfl, hq⟩
        try (go_wp2_with fail)
        have hB := (Q.block hq (lt_of_block hB)).trans hB
        have hS2 := SQ.out _ (Q.trans (Ep.SB2.here hS) hq)
        have hbu := Nat.lt_of_lt_of_le hbu hq.le
        refine hK.out _ _ (by exact hS2) (fun hHeld => ?_)
        clear hK K hHeld hS hq
        have hS := hS2
        clear hS2
        try simp only [Act.put, List.setIfInBounds_toArray, List.set_cons_zero, List.set_cons_succ]
        refine wpAnyH_ready (rs := [4]) (by kernel_rfl) (by simp) ?_
        refine (AllReadyH.cons (o := { dst := some 38, op := Op.call { callee := Callee.value (Operand.func 22), args := #[Operand.tmp 35, Operand.tmp 37], argTypes := #[24, 24] }, type := 32, pos := "law.go:76", after := #[{ on := 1, ground := Ground.data }, { on := 3, ground := Ground.data }, { on := 3, ground := Ground.chain }], guard := none }) rfl (fun K hK => ?_) AllReadyH.nil)
        go_simp
        refine (HAD.out _ _ _ (L5_Z0.out.q (Ep.SB2.here hS)) (L5_X0.out.q (Ep.SB2.here hS))).mono ?_
        rintro e yT10x21 ⟨a9, c9, rfl, hx9, hq⟩
        try (go_wp2_with fail)
        have hB := (Q.block hq (lt_of_block hB)).trans hB
        have hlf := hx9
        have hx9 := Rr.lf_lst hlf
        have hne : ∀ (a : Addr) (n c : Nat), (.slice a9 rf c9 : Value) = .slice (some a) n c → n ≠ 0 → a.block ≠ b9 := Rr.lf_ne hlf hbu
        clear hlf
        have hS2 := SQ.out _ (Q.trans (Ep.SB2.here hS) hq)
        have hbu := Nat.lt_of_lt_of_le hbu hq.le
        refine hK.out _ _ (by exact hS2) (fun hHeld => ?_)
        clear hK K hHeld hS hq
        have hS := hS2
        clear hS2
        try simp only [Act.put, List.setIfInBounds_toArray, List.set_cons_zero, List.set_cons_succ]
        refine wpAnyH_take (i := 5) (oi := { dst := some 33, op := Op.move (Operand.tmp 38), type := 32, pos := "law.go:76", after := #[{ on := 4, ground := Ground.data }], guard := none }) (v := ?vT10x22) rfl (by kernel_rfl) (by kernel_rfl) (by kernel_rfl) (fun _ _ _ h => h) (Or.inl ⟨by rfl, ?hyT10x22⟩) (by exact hS) ?rsT10x22
        case hyT10x22 => (intro w hSw; (try dsimp only at hSw); unfold Ep.SB2 at hSw; go_simp; try with_reducible rfl)
        try simp only [Act.put, List.setIfInBounds_toArray, List.set_cons_zero, List.set_cons_succ]
        refine wpAnyH_take (i := 6) (oi := { dst := some 39, op := Op.extract (Operand.tmp 33) 0, type := 24, pos := "law.go:76", after := #[{ on := 5, ground := Ground.data }], guard := none }) (v := ?vT10x23) rfl (by kernel_rfl) (by kernel_rfl) (by kernel_rfl) (fun _ _ _ h => h) (Or.inl ⟨by rfl, ?hyT10x23⟩) (by exact hS) ?rsT10x23
        case hyT10x23 => (intro w hSw; (try dsimp only at hSw); unfold Ep.SB2 at hSw; go_simp; try with_reducible rfl)
        try simp only [Act.put, List.setIfInBounds_toArray, List.set_cons_zero, List.set_cons_succ]
        refine wpAnyH_take (i := 7) (oi := { dst := some 40, op := Op.extract (Operand.tmp 33) 1, type := 28, pos := "law.go:76", after := #[{ on := 5, ground := Ground.data }, { on := 9, ground := Ground.gcOnly Departure.lateStores }], guard := none }) (v := ?vT10x24) rfl (by kernel_rfl) (by kernel_rfl) (by kernel_rfl) (fun _ _ _ h => h) (Or.inl ⟨by rfl, ?hyT10x24⟩) (by exact hS) ?rsT10x24
        case hyT10x24 => (intro w hSw; (try dsimp only at hSw); unfold Ep.SB2 at hSw; go_simp; try with_reducible rfl)
        try simp only [Act.put, List.setIfInBounds_toArray, List.set_cons_zero, List.set_cons_succ]
        refine wpAnyH_ready (rs := [9]) (by kernel_rfl) (by simp) ?_
        refine (AllReadyH.cons (o := { dst := none, op := Op.store 24 (Operand.tmp 12) (Operand.tmp 39), type := 0, pos := "law.go:76", after := #[{ on := 8, ground := Ground.data }, { on := 6, ground := Ground.data }, { on := 4, ground := Ground.chain }, { on := 0, ground := Ground.phase }, { on := 1, ground := Ground.phase }, { on := 2, ground := Ground.phase }, { on := 3, ground := Ground.phase }, { on := 4, ground := Ground.phase }, { on := 5, ground := Ground.phase }, { on := 6, ground := Ground.phase }, { on := 7, ground := Ground.textOnly Departure.lateStores }, { on := 8, ground := Ground.phase }], guard := none }) rfl (fun K hK => ?_) AllReadyH.nil)
        obtain ⟨f0, f1, f2, f3, f4, f5⟩ := Er.block_cells hB
        have hset := Er.block_set (x' := .bool gf) (y' := .slice a9 rf c9) (z' := .int .i64 sf) hB
        have hqW := ((Q.setCell (Q.setCell (Q.setCell (Ep.SB2.here hS) (ad := ⟨b9, 0, none⟩) hWb (.bool gf)) (ad := ⟨b9, 1, none⟩) hWb (.slice a9 rf c9)) (ad := ⟨b9, 2, none⟩) hWb (.int .i64 sf)))
        have hl := Lst.setCell (Lst.setCell (Lst.setCell hx9 (ad := ⟨b9, 0, none⟩) (.bool gf) hne) (ad := ⟨b9, 1, none⟩) (.slice a9 rf c9) hne) (ad := ⟨b9, 2, none⟩) (.int .i64 sf) hne
        go_simp
        have hS2 := SQ.out _ hqW
        refine hK.out _ _ (by exact hS2) (fun hHeld => ?_)
        clear hK K hHeld hS
        have hS := hS2
        clear hS2 f0 f1 f2 f3 f4 f5
        try simp only [Act.put, List.setIfInBounds_toArray, List.set_cons_zero, List.set_cons_succ]
        refine wpAnyH_take (i := 10) (oi := { dst := some 13, op := Op.assign (Operand.tmp 40), type := 28, pos := "law.go:76", after := #[{ on := 7, ground := Ground.data }, { on := 9, ground := Ground.chain }, { on := 0, ground := Ground.phase }, { on := 1, ground := Ground.phase }, { on := 2, ground := Ground.phase }, { on := 3, ground := Ground.phase }, { on := 4, ground := Ground.phase }, { on := 5, ground := Ground.phase }, { on := 6, ground := Ground.phase }, { on := 7, ground := Ground.phase }, { on := 8, ground := Ground.phase }, { on := 9, ground := Ground.phase }], guard := none }) (v := ?vT10x26) rfl (by kernel_rfl) (by kernel_rfl) (by kernel_rfl) (fun _ _ _ h => h) (Or.inl ⟨by rfl, ?hyT10x26⟩) (by exact hS) ?rsT10x26
        case hyT10x26 => (intro w hSw; (try dsimp only at hSw); unfold Ep.SB2 at hSw; go_simp; try with_reducible rfl)
        try simp only [Act.put, List.setIfInBounds_toArray, List.set_cons_zero, List.set_cons_succ]
        refine wpAnyH_done (by kernel_rfl) ?_ _
        go_wp2_with fail
        go_meet
        exact ⟨b9, a9, c9, rfl, rfl, hWb, hset, hl, hne, hqW⟩
    · go_simp
      have hq := (Q.refl yT10x0).alloc (.cells #[.bool false, .slice none 0 0, .int .i64 0] 24)
      have hB := heap_alloc_new yT10x0 (.cells #[.bool false, .slice none 0 0, .int .i64 0] 24)
      have hbu : yT10x0.heap.size < (yT10x0.alloc (.cells #[.bool false, .slice none 0 0, .int .i64 0] 24)).heap.size := by rw [World.size_alloc]; omega
      have hWb := (Ep.SB2.here hS).le
      have hS2 := SQ.out _ (Q.trans (Ep.SB2.here hS) hq)
      refine hK.out _ _ (by exact hS2) (fun hHeld => ?_)
      clear hK K hHeld hS hq
      have hS := hS2
      clear hS2
      generalize yT10x0.alloc (.cells #[.bool false, .slice none 0 0, .int .i64 0] 24) = yT10x27 at *
      generalize yT10x0.heap.size = b9 at *
      try simp only [Act.put, List.setIfInBounds_toArray, List.set_cons_zero, List.set_cons_succ]
      refine wpAnyH_ready (rs := [1]) (by kernel_rfl) (by simp) ?_
      refine (AllReadyH.cons (o := { dst := some 35, op := Op.call { callee := Callee.value (Operand.func 17), args := #[Operand.tmp 34], argTypes := #[27] }, type := 24, pos := "law.go:76", after := #[{ on := 0, ground := Ground.data }], guard := none }) rfl (fun K hK => ?_) AllReadyH.nil)
      go_simp
      refine (Rl.as_sh _ _ _ _ _ _).mono ?_
      rintro e yT10x28 ⟨rfl, hq⟩
      try (go_wp2_with fail)
      have hB := (Q.block hq (lt_of_block hB)).trans hB
      have hS2 := SQ.out _ (Q.trans (Ep.SB2.here hS) hq)
      have hbu := Nat.lt_of_lt_of_le hbu hq.le
      refine hK.out _ _ (by exact hS2) (fun hHeld => ?_)
      clear hK K hHeld hS hq
      have hS := hS2
      clear hS2
      try simp only [Act.put, List.setIfInBounds_toArray, List.set_cons_zero, List.set_cons_succ]
      refine wpAnyH_ready (rs := [3]) (by kernel_rfl) (by simp) ?_
      refine (AllReadyH.cons (o := { dst := some 37, op := Op.call { callee := Callee.value (Operand.func 23), args := #[Operand.tmp 36], argTypes := #[24] }, type := 24, pos := "law.go:76", after := #[{ on := 2, ground := Ground.data }, { on := 1, ground := Ground.chain }], guard := none }) rfl (fun K hK => ?_) AllReadyH.nil)
      go_simp
      refine (Rr.minus_sh _ _ _ HNG.out _ _ _ _).mono ?_
      rintro e yT10x29 ⟨rfl, hq⟩
      try (go_wp2_with fail)
      have hB := (Q.block hq (lt_of_block hB)).trans hB
      have hS2 := SQ.out _ (Q.trans (Ep.SB2.here hS) hq)
      have hbu := Nat.lt_of_lt_of_le hbu hq.le
      refine hK.out _ _ (by exact hS2) (fun hHeld => ?_)
      clear hK K hHeld hS hq
      have hS := hS2
      clear hS2
      try simp only [Act.put, List.setIfInBounds_toArray, List.set_cons_zero, List.set_cons_succ]
      refine wpAnyH_ready (rs := [4]) (by kernel_rfl) (by simp) ?_
      refine (AllReadyH.cons (o := { dst := some 38, op := Op.call { callee := Callee.value (Operand.func 22), args := #[Operand.tmp 35, Operand.tmp 37], argTypes := #[24, 24] }, type := 32, pos := "law.go:76", after := #[{ on := 1, ground := Ground.data }, { on := 3, ground := Ground.data }, { on := 3, ground := Ground.chain }], guard := none }) rfl (fun K hK => ?_) AllReadyH.nil)
      go_simp
      refine (HAD.out _ _ _ (L5_Z0.out.q (Ep.SB2.here hS)) (L5_X0.out.q (Ep.SB2.here hS))).mono ?_
      rintro e yT10x30 ⟨a9, c9, rfl, hx9, hq⟩
      try (go_wp2_with fail)
      have hB := (Q.block hq (lt_of_block hB)).trans hB
      have hlf := hx9
      have hx9 := Rr.lf_lst hlf
      have hne : ∀ (a : Addr) (n c : Nat), (.slice a9 rf c9 : Value) = .slice (some a) n c → n ≠ 0 → a.block ≠ b9 := Rr.lf_ne hlf hbu
      clear hlf
      have hS2 := SQ.out _ (Q.trans (Ep.SB2.here hS) hq)
      have hbu := Nat.lt_of_lt_of_le hbu hq.le
      refine hK.out _ _ (by exact hS2) (fun hHeld => ?_)
      clear hK K hHeld hS hq
      have hS := hS2
      clear hS2
      try simp only [Act.put, List.setIfInBounds_toArray, List.set_cons_zero, List.set_cons_succ]
      refine wpAnyH_take (i := 5) (oi := { dst := some 33, op := Op.move (Operand.tmp 38), type := 32, pos := "law.go:76", after := #[{ on := 4, ground := Ground.data }], guard := none }) (v := ?vT10x31) rfl (by kernel_rfl) (by kernel_rfl) (by kernel_rfl) (fun _ _ _ h => h) (Or.inl ⟨by rfl, ?hyT10x31⟩) (by exact hS) ?rsT10x31
      case hyT10x31 => (intro w hSw; (try dsimp only at hSw); unfold Ep.SB2 at hSw; go_simp; try with_reducible rfl)
      try simp only [Act.put, List.setIfInBounds_toArray, List.set_cons_zero, List.set_cons_succ]
      refine wpAnyH_take (i := 6) (oi := { dst := some 39, op := Op.extract (Operand.tmp 33) 0, type := 24, pos := "law.go:76", after := #[{ on := 5, ground := Ground.data }], guard := none }) (v := ?vT10x32) rfl (by kernel_rfl) (by kernel_rfl) (by kernel_rfl) (fun _ _ _ h => h) (Or.inl ⟨by rfl, ?hyT10x32⟩) (by exact hS) ?rsT10x32
      case hyT10x32 => (intro w hSw; (try dsimp only at hSw); unfold Ep.SB2 at hSw; go_simp; try with_reducible rfl)
      try simp only [Act.put, List.setIfInBounds_toArray, List.set_cons_zero, List.set_cons_succ]
      refine wpAnyH_take (i := 7) (oi := { dst := some 40, op := Op.extract (Operand.tmp 33) 1, type := 28, pos := "law.go:76", after := #[{ on := 5, ground := Ground.data }, { on := 9, ground := Ground.gcOnly Departure.lateStores }], guard := none }) (v := ?vT10x33) rfl (by kernel_rfl) (by kernel_rfl) (by kernel_rfl) (fun _ _ _ h => h) (Or.inl ⟨by rfl, ?hyT10x33⟩) (by exact hS) ?rsT10x33
      case hyT10x33 => (intro w hSw; (try dsimp only at hSw); unfold Ep.SB2 at hSw; go_simp; try with_reducible rfl)
      try simp only [Act.put, List.setIfInBounds_toArray, List.set_cons_zero, List.set_cons_succ]
      refine wpAnyH_ready (rs := [9]) (by kernel_rfl) (by simp) ?_
      refine (AllReadyH.cons (o := { dst := none, op := Op.store 24 (Operand.tmp 12) (Operand.tmp 39), type := 0, pos := "law.go:76", after := #[{ on := 8, ground := Ground.data }, { on := 6, ground := Ground.data }, { on := 4, ground := Ground.chain }, { on := 0, ground := Ground.phase }, { on := 1, ground := Ground.phase }, { on := 2, ground := Ground.phase }, { on := 3, ground := Ground.phase }, { on := 4, ground := Ground.phase }, { on := 5, ground := Ground.phase }, { on := 6, ground := Ground.phase }, { on := 7, ground := Ground.textOnly Departure.lateStores }, { on := 8, ground := Ground.phase }], guard := none }) rfl (fun K hK => ?_) AllReadyH.nil)
      obtain ⟨f0, f1, f2, f3, f4, f5⟩ := Er.block_cells hB
      have hset := Er.block_set (x' := .bool gf) (y' := .slice a9 rf c9) (z' := .int .i64 sf) hB
      have hqW := ((Q.setCell (Q.setCell (Q.setCell (Ep.SB2.here hS) (ad := ⟨b9, 0, none⟩) hWb (.bool gf)) (ad := ⟨b9, 1, none⟩) hWb (.slice a9 rf c9)) (ad := ⟨b9, 2, none⟩) hWb (.int .i64 sf)))
      have hl := Lst.setCell (Lst.setCell (Lst.setCell hx9 (ad := ⟨b9, 0, none⟩) (.bool gf) hne) (ad := ⟨b9, 1, none⟩) (.slice a9 rf c9) hne) (ad := ⟨b9, 2, none⟩) (.int .i64 sf) hne
      go_simp
      have hS2 := SQ.out _ hqW
      refine hK.out _ _ (by exact hS2) (fun hHeld => ?_)
      clear hK K hHeld hS
      have hS := hS2
      clear hS2 f0 f1 f2 f3 f4 f5
      try simp only [Act.put, List.setIfInBounds_toArray, List.set_cons_zero, List.set_cons_succ]
      refine wpAnyH_take (i := 10) (oi := { dst := some 13, op := Op.assign (Operand.tmp 40), type := 28, pos := "law.go:76", after := #[{ on := 7, ground := Ground.data }, { on := 9, ground := Ground.chain }, { on := 0, ground := Ground.phase }, { on := 1, ground := Ground.phase }, { on := 2, ground := Ground.phase }, { on := 3, ground := Ground.phase }, { on := 4, ground := Ground.phase }, { on := 5, ground := Ground.phase }, { on := 6, ground := Ground.phase }, { on := 7, ground := Ground.phase }, { on := 8, ground := Ground.phase }, { on := 9, ground := Ground.phase }], guard := none }) (v := ?vT10x35) rfl (by kernel_rfl) (by kernel_rfl) (by kernel_rfl) (fun _ _ _ h => h) (Or.inl ⟨by rfl, ?hyT10x35⟩) (by exact hS) ?rsT10x35
      case hyT10x35 => (intro w hSw; (try dsimp only at hSw); unfold Ep.SB2 at hSw; go_simp; try with_reducible rfl)
      try simp only [Act.put, List.setIfInBounds_toArray, List.set_cons_zero, List.set_cons_succ]
      refine wpAnyH_done (by kernel_rfl) ?_ _
      go_wp2_with fail
      go_meet
      exact ⟨b9, a9, c9, rfl, rfl, hWb, hset, hl, hne, hqW⟩
  case rest =>
    obtain ⟨b12, a12, c12, rfl, rfl, hwb, hb12, hl12, hne12, hqc⟩ := hcut
    obtain ⟨w12, hw12⟩ : ∃ x, x = wc := ⟨_, rfl⟩
    subst hw12
    have WB12 := Lib.hid (Nat.le_trans Q5.out.le hwb)
    have Q12 := Lib.hid (Q5.out.trans hqc)
    clear SQ hqc hwb
    have hneg := heap_setCell_same w12 b12 0 _ _ (.bool false) hb12
    have HBF := Lib.hid (show (w12.setCell ⟨b12, 0, none⟩ (.bool false)).heap[b12]? = some (.cells #[.bool false, .slice a12 rf c12, .int .i64 sf] 24) from hneg)
    have HLF := Lib.hid (Lst.setCell hl12 (ad := ⟨b12, 0, none⟩) (.bool false) hne12)
    have Q13 := Lib.hid (Q.setCell Q12.out (ad := ⟨b12, 0, none⟩) WB12.out (.bool false))
    obtain ⟨f0, f1, f2, f3, f4, f5⟩ := Er.block_cells hb12
    obtain ⟨e0, e1, e2, e3, e4, e5⟩ := Er.block_cells HBF.out
    clear hneg k_i00 k_i01 k_i02 k_x0 k_x1 k_x2 k_p0 k_p1 k_p2
    go_wp2_with fail
    refine (HTT.out _ _ HLF.out).mono ?_
    rintro e z ⟨a14, c14, rfl, hx, hq⟩
    clear f0 f1 f2 f3 f4 f5 e0 e1 e2 e3 e4 e5 hb12 hl12 hne12
    have HBF2 := Lib.hid ((Q.block hq (lt_of_block HBF.out)).trans HBF.out)
    have HLF2 := Lib.hid (Lst.q HLF.out hq)
    have Q14 := Lib.hid (Q13.out.trans hq)
    clear HBF HLF Q13 Q12 hq
    have q3 : Q z (((z.alloc (.cells #[.bool false, .slice a14 rt c14, .int .i64 st] 24)).alloc (.cells #[.int .i64 1] 3)).alloc (.cells #[.bool false, .slice (some ⟨z.heap.size + 1, 0, none⟩) 1 1, .int .i64 n] 24)) := ((((Q.refl z).alloc _).alloc _).alloc _)
    have h3 := Rr.heap_three z (.cells #[.bool false, .slice a14 rt c14, .int .i64 st] 24) (.cells #[.int .i64 1] 3) (.cells #[.bool false, .slice (some ⟨z.heap.size + 1, 0, none⟩) 1 1, .int .i64 n] 24)
    have hlo : Lst ((z.alloc (.cells #[.bool false, .slice a14 rt c14, .int .i64 st] 24)).alloc (.cells #[.int .i64 1] 3)) (.slice (some ⟨z.heap.size + 1, 0, none⟩) 1 1) [1] := by
      have h := Lst.made (z.alloc (.cells #[.bool false, .slice a14 rt c14, .int .i64 st] 24)) [1] 1 rfl (by unfold maxLen; omega)
      rw [World.size_alloc] at h
      exact h
    have BT := Lib.hid h3.1
    have BO := Lib.hid h3.2.2
    have LO := Lib.hid (hlo.q ((Q.refl _).alloc (.cells #[.bool false, .slice (some ⟨z.heap.size + 1, 0, none⟩) 1 1, .int .i64 n] 24)))
    have BF := Lib.hid ((Q.block q3 (lt_of_block HBF2.out)).trans HBF2.out)
    have LF3 := Lib.hid (HLF2.out.q q3)
    have LT3 := Lib.hid (hx.q q3)
    have Q15 := Lib.hid (Q14.out.trans q3)
    clear q3 h3 hlo hx HBF2 HLF2 Q14
    obtain ⟨k_tw0, k_tw1, k_tw2, _, _, _⟩ := Er.block_cells BT.out
    obtain ⟨k_on0, k_on1, k_on2, _, _, _⟩ := Er.block_cells BO.out
    obtain ⟨k_f0, k_f1, k_f2, _, _, _⟩ := Er.block_cells BF.out
    go_wp2_with fail
    refine (HC1.out _ _ _ _ _ LF3.out LO.out).mono ?_
    rintro e z31 ⟨rfl, hq⟩
    clear k_tw0 k_tw1 k_tw2 k_on0 k_on1 k_on2 k_f0 k_f1 k_f2
    have L31_F := Lib.hid (Lst.q LF3.out hq)
    clear LF3
    have L31_T := Lib.hid (Lst.q LT3.out hq)
    clear LT3
    have L31_O := Lib.hid (Lst.q LO.out hq)
    clear LO
    have B31_tw := Lib.hid ((Q.block hq (lt_of_block BT.out)).trans BT.out)
    clear BT
    have B31_on := Lib.hid ((Q.block hq (lt_of_block BO.out)).trans BO.out)
    clear BO
    have B31_f := Lib.hid ((Q.block hq (lt_of_block BF.out)).trans BF.out)
    clear BF
    have Q31 := Lib.hid (Q.trans Q15.out hq)
    clear Q15
    clear hq
    rcases (show (m : Int) < 4 ∨ 4 ≤ (m : Int) from by omega) with hm4 | hm4
    · have hm5 : decide ((m : Int) < 4) = true := by simp; omega
      obtain ⟨k_tw0, k_tw1, k_tw2, _, _, _⟩ := Er.block_cells B31_tw.out
      obtain ⟨k_on0, k_on1, k_on2, _, _, _⟩ := Er.block_cells B31_on.out
      obtain ⟨k_f0, k_f1, k_f2, _, _, _⟩ := Er.block_cells B31_f.out
      go_wp2_with fail
      refine (LV.out _).mono ?_
      rintro e z32 ⟨rfl, hq⟩
      clear k_tw0 k_tw1 k_tw2 k_on0 k_on1 k_on2 k_f0 k_f1 k_f2
      have L32_F := Lib.hid (Lst.q L31_F.out hq)
      clear L31_F
      have L32_T := Lib.hid (Lst.q L31_T.out hq)
      clear L31_T
      have L32_O := Lib.hid (Lst.q L31_O.out hq)
      clear L31_O
      have B32_tw := Lib.hid ((Q.block hq (lt_of_block B31_tw.out)).trans B31_tw.out)
      clear B31_tw
      have B32_on := Lib.hid ((Q.block hq (lt_of_block B31_on.out)).trans B31_on.out)
      clear B31_on
      have B32_f := Lib.hid ((Q.block hq (lt_of_block B31_f.out)).trans B31_f.out)
      clear B31_f
      have Q32 := Lib.hid (Q.trans Q31.out hq)
      clear Q31
      clear hq
      go_wp2_with fail
      go_ret
      exact ⟨rfl, Q32.out⟩
    · have hk2 := HLE.out ⟨by omega, by omega⟩
      have hm5 : decide ((m : Int) < 4) = false := by simp; omega
      have hm6 : ¬ (m : Int) < 4 := by omega
      obtain ⟨k_tw0, k_tw1, k_tw2, _, _, _⟩ := Er.block_cells B31_tw.out
      obtain ⟨k_on0, k_on1, k_on2, _, _, _⟩ := Er.block_cells B31_on.out
      obtain ⟨k_f0, k_f1, k_f2, _, _, _⟩ := Er.block_cells B31_f.out
      go_wp2_with fail
      refine (HC2.out _ _ _ _ _ L31_T.out L31_O.out).mono ?_
      rintro e z32 ⟨rfl, hq⟩
      clear k_tw0 k_tw1 k_tw2 k_on0 k_on1 k_on2 k_f0 k_f1 k_f2
      have L32_F := Lib.hid (Lst.q L31_F.out hq)
      clear L31_F
      have L32_T := Lib.hid (Lst.q L31_T.out hq)
      clear L31_T
      have L32_O := Lib.hid (Lst.q L31_O.out hq)
      clear L31_O
      have B32_tw := Lib.hid ((Q.block hq (lt_of_block B31_tw.out)).trans B31_tw.out)
      clear B31_tw
      have B32_on := Lib.hid ((Q.block hq (lt_of_block B31_on.out)).trans B31_on.out)
      clear B31_on
      have B32_f := Lib.hid ((Q.block hq (lt_of_block B31_f.out)).trans B31_f.out)
      clear B31_f
      have Q32 := Lib.hid (Q.trans Q31.out hq)
      clear Q31
      clear hq
      obtain ⟨k_tw0, k_tw1, k_tw2, _, _, _⟩ := Er.block_cells B32_tw.out
      obtain ⟨k_on0, k_on1, k_on2, _, _, _⟩ := Er.block_cells B32_on.out
      obtain ⟨k_f0, k_f1, k_f2, _, _, _⟩ := Er.block_cells B32_f.out
      go_wp2_with fail
      refine (LV.out _).mono ?_
      rintro e z33 ⟨rfl, hq⟩
      clear k_tw0 k_tw1 k_tw2 k_on0 k_on1 k_on2 k_f0 k_f1 k_f2
      have L33_F := Lib.hid (Lst.q L32_F.out hq)
      clear L32_F
      have L33_T := Lib.hid (Lst.q L32_T.out hq)
      clear L32_T
      have L33_O := Lib.hid (Lst.q L32_O.out hq)
      clear L32_O
      have B33_tw := Lib.hid ((Q.block hq (lt_of_block B32_tw.out)).trans B32_tw.out)
      clear B32_tw
      have B33_on := Lib.hid ((Q.block hq (lt_of_block B32_on.out)).trans B32_on.out)
      clear B32_on
      have B33_f := Lib.hid ((Q.block hq (lt_of_block B32_f.out)).trans B32_f.out)
      clear B32_f
      have Q33 := Lib.hid (Q.trans Q32.out hq)
      clear Q32
      clear hq
      go_wp2_with fail
      go_ret
      exact ⟨rfl, Q33.out⟩

set_option maxRecDepth 100000 in
theorem lifted (os : Os) (started : os.Started) (H : Type) (enc : TypeId × Value → H) :
    ReturnsInHanded {} Try.checked os 6 .any (Rows.roundFarSpec.pre6 enc Try.prog Try.f6 Rows.roundFarRow.domain false) (Rows.roundFarSpec.post enc Try.prog Try.f6 false true false false) := by
  refine returnsInHanded_of_change (C := Try.checked) own started (by kernel_rfl) Try.func6
    (ChangeSpec.witness6 (enc := enc) (C := Try.checked) false ⟨#[], #[.agg #[.bool false, .slice none 0 0, .int .i64 0], .int .i64 0, .int .i64 0], []⟩ 8 (by kernel_rfl) (by kernel_rfl) (by kernel_rfl) (by kernel_rfl)) ?_
  intro W base args ds gs before hval0 hW hcnd _
  have hval : ∀ (j : Nat) t v, Try.f6.params[j]? = some t → args[j]? = some v → Value.okWide Try.prog W .any base t v := hval0
  have hW' := hW
  obtain ⟨p, q, hA0, hV, rfl, hfz, hnd⟩ := hW
  have hA : DataW.TrodAll enc Try.prog W 0 (fun _ => true) true Try.f6.params.toList args.toList ds p := hA0
  rw [Try.params6] at hA hval
  obtain ⟨v0, vs0, d0, ds0, p0, q0, hargs, rfl, rfl, h0, r0⟩ := trodAll_cons hA
  obtain ⟨v1, vs1, d1, ds1, p1, q1, rfl, rfl, rfl, h1, r1⟩ := trodAll_cons r0
  obtain ⟨v2, vs2, d2, ds2, p2, q2, rfl, rfl, rfl, h2, r2⟩ := trodAll_cons r1
  obtain ⟨rfl, rfl, rfl⟩ := trodAll_nil r2
  obtain rfl : args = #[v0, v1, v2] := by cases args; simp_all
  obtain ⟨rfl, rfl⟩ := trodVars_none hV
  have k0 := h0
  have lt0 : ∀ x ∈ p0, x.block < W.heap.size := by obtain ⟨m, hm⟩ := k0; exact DataW.trod_lt m _ _ _ hm
  obtain ⟨c00, c01, c02, y00, y01, y02, m0, rfl, _, _, hy00, hy01, hy02⟩ := Joins.open_agg3 Try.underlying24 (by kernel_rfl) (by kernel_rfl) (hval 0 24 v0 rfl rfl) h0
  obtain ⟨g0, rfl⟩ : ∃ b, c00 = .bool b := by
    obtain ⟨b, h, _⟩ := DataW.trod_bool Try.underlying4 hy00
    exact ⟨b, by simpa using h⟩
  obtain ⟨s0, rfl, ws0⟩ : ∃ n, c02 = .int .i64 n ∧ (Lit.int .i64 n).wf = true := by
    obtain ⟨n, h, _, hw⟩ := DataW.trod_int Try.underlying3 hy02
    exact ⟨n, by simpa using h, hw⟩
  obtain ⟨a0, len0, cap0, z0, rfl, w0⟩ : ∃ a len cap zs, c01 = .slice a len cap ∧ IsRow .i64 W a len cap zs := by
    rcases open_ints Try.underlying22 Try.underlying3 (by kernel_rfl) hy01 with ⟨hcs, _⟩ | ⟨x, l, c, zs, hcs, _, hl, hm, hz, _, hcell, hwz⟩
    · exact ⟨none, 0, 0, [], by simpa using hcs, .inl ⟨rfl, rfl, rfl, rfl⟩⟩
    · exact ⟨some x, l, c, zs, by simpa using hcs, .inr ⟨_, rfl, hl, hm, by simpa using hz, hcell, hwz⟩⟩
  obtain ⟨xs0, l0, _, b0⟩ := w0.lst
  obtain ⟨a1, rfl, rfl, rfl, w1⟩ := open_int Try.underlying3 (hval 1 3 v1 rfl rfl) h1
  obtain ⟨a2, rfl, rfl, rfl, w2⟩ := open_int Try.underlying3 (hval 2 3 v2 rfl rfl) h2
  clear hA0 hval0
  refine (walk W g0 (.slice a0 len0 cap0) xs0 l0 b0 s0 (bounds_i64 ws0) a1 (bounds_i64 w1) a2 (bounds_i64 w2)).mono fun e W' ⟨he, bel⟩ => ?_
  subst he
  exact ⟨_, rfl, _, _, _, [], _, [], hW', trodAll_mk1 (shut_bool Try.underlying4 _), (trodAll_cons_mk (Below.trod laidOut (by kernel_rfl) (of_decide_eq_true (by kernel_rfl)) k0 bel lt0) (trodAll_cons_mk (shut_int Try.underlying3 w1) (trodAll_cons_mk (shut_int Try.underlying3 w2) trodAll_mk0))), rfl, bel.below.frame _, fun h => by cases h⟩

/-- The statement. -/
theorem proved : Rows.RoundFarSaid :=
  OpenClaim.holds_of_wide 6 Try.f6 rfl rfl rfl rfl rfl rfl rfl ⟨rfl, rfl, rfl, rfl, rfl⟩ rfl rfl rfl rfl rfl (by kernel_rfl) Try.func6 (by kernel_rfl)
    (of_decide_eq_true (by kernel_rfl)) (by unfold Func.isWrapper; first | (rw [if_pos (by decide +kernel)]; kernel_rfl) | (rw [if_neg (by decide +kernel)]; exact ⟨rfl, rfl⟩))
    (fun os started H enc _ => lifted os started H enc)
#print axioms proved
end Go.Proofs.Ytebcgpoemppljaa.roundFar
