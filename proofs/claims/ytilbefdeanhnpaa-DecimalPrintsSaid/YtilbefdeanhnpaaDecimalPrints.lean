/- DecimalPrints: whatever decimal's (its first 20 numbers, raw, and made one that may be) text is the document's, or there is none; it is parsed as the same number, and printed so again; no conditions. -/
import Derived.Test.YtilbefdeanhnpaaRows
import Derived.WalkKit
import Derived.ProofKit
import Derived.OpenShut
import Derived.ShutString
import Derived.ChangeOld
import Derived.Below
import Derived.Lib.SmallJoins
import Derived.Test.YtilbefdeanhnpaaInts
import Derived.Test.YtilbefdeanhnpaaUtfM
import Derived.Test.YtilbefdeanhnpaaUtfG
import Derived.Test.YtilbefdeanhnpaaUtfR
import Derived.Test.YtilbefdeanhnpaaDigM
import Derived.Test.YtilbefdeanhnpaaDigL
import Derived.Test.YtilbefdeanhnpaaDigR
import Derived.Test.YtilbefdeanhnpaaDecM
import Derived.Test.YtilbefdeanhnpaaDecR
import Derived.Test.YtilbefdeanhnpaaDecS
import Derived.Test.YtilbefdeanhnpaaDecC
import Derived.Test.YtilbefdeanhnpaaDecF
import Derived.Test.YtilbefdeanhnpaaDecG
import Derived.Test.YtilbefdeanhnpaaDecQ
import Derived.Test.YtilbefdeanhnpaaDecH
import Derived.Test.YtilbefdeanhnpaaDecI
import Derived.Test.YtilbefdeanhnpaaDecJ
import Derived.Test.YtilbefdeanhnpaaDecK
import Derived.Test.YtilbefdeanhnpaaDecO
import Derived.Test.YtilbefdeanhnpaaDecZ
import Derived.Test.YtilbefdeanhnpaaDigA
import Derived.Test.YtilbefdeanhnpaaDecD
import Derived.Test.YtilbefdeanhnpaaDecV
import Derived.Test.YtilbefdeanhnpaaDecL
import Derived.Test.YtilbefdeanhnpaaDecN
import Derived.Test.YtilbefdeanhnpaaDecT
import Derived.Test.YtilbefdeanhnpaaDecW
import Derived.Test.YtilbefdeanhnpaaDecE
import Derived.Test.YtilbefdeanhnpaaDecX
set_option linter.unusedVariables false
set_option linter.unusedSimpArgs false
namespace Go.Proofs.Ytilbefdeanhnpaa.decimalPrints
open Go.ChangeShapes Go.WideShapes Go.ChangeAt Go.RowKit
open Go.ChangeMaps (open_string shut_string)

theorem own : ownKnob Try.prog.godebug = none := by kernel_rfl
theorem laidOut : laidOutB Try.prog = true := by kernel_rfl


set_option maxHeartbeats 4000000 in
set_option maxRecDepth 100000 in
theorem walk (w : World) (g0 : Bool) (v0 : Value) (xs0 : List Int) (w0 : Lst w v0 xs0) (b0 : ∀ n ∈ xs0, -9223372036854775808 ≤ n ∧ n ≤ 9223372036854775807) (s0 : Int) (ws0 : -9223372036854775808 ≤ s0 ∧ s0 ≤ 9223372036854775807) :
    Calls Try.prog 4 #[.agg #[.bool g0, v0, .int .i64 s0]] w fun e w' => e = .returned (.bool true) ∧ Q w w' := by
  have hR0 := w0
  obtain ⟨A0, C0, rfl, hnc0, hcm0⟩ := w0.shape2
  have hgl0 := Dm.gdL_len xs0 20
  have kX0 := Dm.gdL_ok xs0 20
  have hab0 := Um.around_bd s0 10 (by omega)
  obtain ⟨t0, ht0⟩ : ∃ t : Nat, Um.around s0 10 = (t : Int) := ⟨(Um.around s0 10).toNat, by omega⟩
  rw [ht0] at hab0
  have hs0 : t0 ≤ 9 := by omega
  obtain ⟨p0, hp0⟩ : ∃ p, (Dm.gdL xs0 20).length = p := ⟨_, rfl⟩
  have hpm0 : p0 ≤ 20 := by omega
  have G0 := Lib.hid (fun u (q : Q w u) => Ep.good_sh u g0 A0 xs0.length C0 s0 xs0 20 (w0.q q) rfl ws0 (by omega) b0 t0 p0 ht0 hp0)
  obtain ⟨q0, hq0⟩ : ∃ q, min xs0.length 20 = q := ⟨_, rfl⟩
  have FW0 := Lib.hid (fun u => Ep.few_sh u g0 A0 xs0.length C0 s0 20 q0 hnc0 hcm0 (by omega) hq0)
  have hT0 := w0.take q0 (by omega)
  have hRl0 : (xs0.take q0).length = q0 := by rw [List.length_take]; omega
  generalize xs0.take q0 = RR0 at *
  have HR0 := Lib.hid hT0
  generalize Dm.gdL xs0 20 = X0 at *
  generalize hn0 : xs0.length = n0 at *
  have HP0 := Lib.hid hp0
  have hql0 : q0 ≤ 20 := by omega
  have HRL0 := Lib.hid hRl0
  clear hgl0 hab0 ht0
  obtain ⟨tr, r1, r2⟩ := Ep.print_both g0 s0 RR0 (by omega) ws0
  obtain ⟨mb, m1, m2⟩ := Ep.may_both g0 s0 RR0 (by omega) ws0
  have R1 := Lib.hid r1
  have R2 := Lib.hid r2
  have M1 := Lib.hid m1
  have M2 := Lib.hid m2
  have hp0' := HP0.out
  have hPS := Dm.prt_size g0 X0 t0
  have PO := Lib.hid (fun u v (h : Lst u v X0) => (Ep.print_any g0 v t0 X0 u h (by omega) kX0 (by omega) : Calls Try.prog 21 #[.agg #[.bool g0, v, .int .i64 t0]] u fun e w' => e = .returned (.string (Dm.prt g0 X0 t0)) ∧ Q u w'))
  have RO := Lib.hid (fun u v (h : Lst u v X0) => (Er.print_any g0 v t0 X0 u h (by omega) kX0 (by omega) : Calls Try.prog 11 #[.agg #[.bool g0, v, .int .i64 t0]] u fun e w' => e = .returned (.string (Dm.prt g0 X0 t0)) ∧ Q u w'))
  have MO := Lib.hid (fun u v (h : Lst u v X0) => Ep.may_own g0 v t0 X0 u h (by omega) kX0 (by omega))
  have hprs := Dm.prs_prt g0 X0 t0 kX0 (by omega)
  have hwp := Dm.prt_wid g0 X0 t0
  have hwn := Dm.wid_num X0 t0
  have kW := Dm.wid_ok X0 t0 kX0
  have hwl := Dm.wid_len X0 t0
  have PB := Lib.hid (fun u v (h : Lst u v (Dm.wid X0 t0)) => (by
    have e := Ep.print_any g0 v t0 (Dm.wid X0 t0) u h (by omega) kW (by omega)
    rw [hwp] at e
    exact e : Calls Try.prog 21 #[.agg #[.bool g0, v, .int .i64 t0]] u fun e w' => e = .returned (.string (Dm.prt g0 X0 t0)) ∧ Q u w'))
  have CB := Lib.hid (fun u v x (h1 : Lst u v (Dm.wid X0 t0)) (h2 : Lst u x X0) => (by
    have e := Er.compare_any g0 g0 v x t0 t0 (Dm.wid X0 t0) X0 u h1 h2 (by omega) (by omega) kW kX0 (by omega) (by omega)
    rw [hwn, Ep.cmpD_self] at e
    exact e : Calls Try.prog 25 #[.agg #[.bool g0, v, .int .i64 t0], .agg #[.bool g0, x, .int .i64 t0]] u fun e w' => e = .returned (.int .i64 0) ∧ Q u w'))
  have PA := Lib.hid (fun u => (by
    have e := Ep.parse_any (Dm.prt g0 X0 t0) u (by omega)
    rw [hprs] at e
    refine Calls.mono e ?_
    rintro e w' ⟨x, rfl, hx, hq⟩
    obtain ⟨a, c, rfl⟩ := hx.shape
    exact ⟨a, c, rfl, hx, hq⟩ : Calls Try.prog 16 #[.string (Dm.prt g0 X0 t0)] u fun e w' => ∃ a c, e = .returned (.tuple #[.agg #[.bool g0, .slice a (Dm.wid X0 t0).length c, .int .i64 (t0 : Nat)], .int .i64 0]) ∧ Lst w' (.slice a (Dm.wid X0 t0).length c) (Dm.wid X0 t0) ∧ Q u w'))
  generalize Dm.prt g0 X0 t0 = S at *
  generalize Dm.wid X0 t0 = WX at *
  generalize WX.length = wl at *
  have LV := Lib.hid Ep.lives_any
  clear r1 r2 m1 m2 hp0' hPS hprs hwp hwn kW hwl kX0 w0 b0 hT0 hR0 hRl0 hp0 hq0 hn0 hnc0 hcm0
  go_enter Try.func4, Try.ntmps4
  have Q0 := Lib.hid (show Q w (w.alloc (.cells #[.bool g0, .slice A0 n0 C0, .int .i64 s0] 24)) from ((Q.refl w).alloc (.cells #[.bool g0, .slice A0 n0 C0, .int .i64 s0] 24)))
  have B0_i := Lib.hid (show (w.alloc (.cells #[.bool g0, .slice A0 n0 C0, .int .i64 s0] 24)).heap[w.heap.size]? = some (.cells #[.bool g0, .slice A0 n0 C0, .int .i64 s0] 24) from by exact heap_alloc_new _ _)
  have L0_R := Lib.hid (Lst.q HR0.out Q0.out)
  obtain ⟨k_i0, k_i1, k_i2, _, _, _⟩ := Er.block_cells B0_i.out
  go_wp2_with fail
  refine (FW0.out _).mono ?_
  rintro e z1 ⟨rfl, hq⟩
  clear k_i0 k_i1 k_i2
  have L1_R := Lib.hid (Lst.q L0_R.out hq)
  clear L0_R
  have B1_i := Lib.hid ((Q.block hq (lt_of_block B0_i.out)).trans B0_i.out)
  clear B0_i
  have Q1 := Lib.hid (Q.trans Q0.out hq)
  clear Q0
  clear hq
  have hq := (Q.refl z1).alloc (.cells #[.bool g0, .slice A0 q0 C0, .int .i64 s0] 24)
  have hb := heap_alloc_new z1 (.cells #[.bool g0, .slice A0 q0 C0, .int .i64 s0] 24)
  have L2_R := Lib.hid (Lst.q L1_R.out hq)
  clear L1_R
  have B2_i := Lib.hid ((Q.block hq (lt_of_block B1_i.out)).trans B1_i.out)
  clear B1_i
  have Q2 := Lib.hid (Q.trans Q1.out hq)
  clear Q1
  have B2_r := Lib.hid hb
  clear hb hq
  obtain ⟨k_i0, k_i1, k_i2, _, _, _⟩ := Er.block_cells B2_i.out
  obtain ⟨k_r0, k_r1, k_r2, _, _, _⟩ := Er.block_cells B2_r.out
  go_wp2_with fail
  refine (G0.out _ Q2.out).mono ?_
  rintro e z3 ⟨a1, c1, rfl, hx, hq⟩
  clear k_i0 k_i1 k_i2 k_r0 k_r1 k_r2
  have L3_R := Lib.hid (Lst.q L2_R.out hq)
  clear L2_R
  have B3_i := Lib.hid ((Q.block hq (lt_of_block B2_i.out)).trans B2_i.out)
  clear B2_i
  have B3_r := Lib.hid ((Q.block hq (lt_of_block B2_r.out)).trans B2_r.out)
  clear B2_r
  have Q3 := Lib.hid (Q.trans Q2.out hq)
  clear Q2
  have L3_X := Lib.hid hx
  clear hx
  clear hq
  have hq := (Q.refl z3).alloc (.cells #[.bool g0, .slice a1 p0 c1, .int .i64 t0] 24)
  have hb := heap_alloc_new z3 (.cells #[.bool g0, .slice a1 p0 c1, .int .i64 t0] 24)
  have L4_R := Lib.hid (Lst.q L3_R.out hq)
  clear L3_R
  have L4_X := Lib.hid (Lst.q L3_X.out hq)
  clear L3_X
  have B4_i := Lib.hid ((Q.block hq (lt_of_block B3_i.out)).trans B3_i.out)
  clear B3_i
  have B4_r := Lib.hid ((Q.block hq (lt_of_block B3_r.out)).trans B3_r.out)
  clear B3_r
  have Q4 := Lib.hid (Q.trans Q3.out hq)
  clear Q3
  have B4_o := Lib.hid hb
  clear hb hq
  obtain ⟨k_i0, k_i1, k_i2, _, _, _⟩ := Er.block_cells B4_i.out
  obtain ⟨k_r0, k_r1, k_r2, _, _, _⟩ := Er.block_cells B4_r.out
  obtain ⟨k_o0, k_o1, k_o2, _, _, _⟩ := Er.block_cells B4_o.out
  go_wp2_with fail
  refine (Ep.of_sh _ _ _ _ _ _).mono ?_
  rintro e z5 ⟨rfl, hq⟩
  clear k_i0 k_i1 k_i2 k_r0 k_r1 k_r2 k_o0 k_o1 k_o2
  have L5_R := Lib.hid (Lst.q L4_R.out hq)
  clear L4_R
  have L5_X := Lib.hid (Lst.q L4_X.out hq)
  clear L4_X
  have B5_i := Lib.hid ((Q.block hq (lt_of_block B4_i.out)).trans B4_i.out)
  clear B4_i
  have B5_r := Lib.hid ((Q.block hq (lt_of_block B4_r.out)).trans B4_r.out)
  clear B4_r
  have B5_o := Lib.hid ((Q.block hq (lt_of_block B4_o.out)).trans B4_o.out)
  clear B4_o
  have Q5 := Lib.hid (Q.trans Q4.out hq)
  clear Q4
  clear hq
  obtain ⟨k_i0, k_i1, k_i2, _, _, _⟩ := Er.block_cells B5_i.out
  obtain ⟨k_r0, k_r1, k_r2, _, _, _⟩ := Er.block_cells B5_r.out
  obtain ⟨k_o0, k_o1, k_o2, _, _, _⟩ := Er.block_cells B5_o.out
  go_wp2_with fail
  refine (PO.out _ _ L5_X.out).mono ?_
  rintro e z6 ⟨rfl, hq⟩
  clear k_i0 k_i1 k_i2 k_r0 k_r1 k_r2 k_o0 k_o1 k_o2
  have L6_R := Lib.hid (Lst.q L5_R.out hq)
  clear L5_R
  have L6_X := Lib.hid (Lst.q L5_X.out hq)
  clear L5_X
  have B6_i := Lib.hid ((Q.block hq (lt_of_block B5_i.out)).trans B5_i.out)
  clear B5_i
  have B6_r := Lib.hid ((Q.block hq (lt_of_block B5_r.out)).trans B5_r.out)
  clear B5_r
  have B6_o := Lib.hid ((Q.block hq (lt_of_block B5_o.out)).trans B5_o.out)
  clear B5_o
  have Q6 := Lib.hid (Q.trans Q5.out hq)
  clear Q5
  clear hq
  obtain ⟨k_i0, k_i1, k_i2, _, _, _⟩ := Er.block_cells B6_i.out
  obtain ⟨k_r0, k_r1, k_r2, _, _, _⟩ := Er.block_cells B6_r.out
  obtain ⟨k_o0, k_o1, k_o2, _, _, _⟩ := Er.block_cells B6_o.out
  go_wp2_with fail
  refine (PA.out _).mono ?_
  rintro e z7 ⟨a2, c2, rfl, hx, hq⟩
  clear k_i0 k_i1 k_i2 k_r0 k_r1 k_r2 k_o0 k_o1 k_o2
  have L7_R := Lib.hid (Lst.q L6_R.out hq)
  clear L6_R
  have L7_X := Lib.hid (Lst.q L6_X.out hq)
  clear L6_X
  have B7_i := Lib.hid ((Q.block hq (lt_of_block B6_i.out)).trans B6_i.out)
  clear B6_i
  have B7_r := Lib.hid ((Q.block hq (lt_of_block B6_r.out)).trans B6_r.out)
  clear B6_r
  have B7_o := Lib.hid ((Q.block hq (lt_of_block B6_o.out)).trans B6_o.out)
  clear B6_o
  have Q7 := Lib.hid (Q.trans Q6.out hq)
  clear Q6
  have L7_K := Lib.hid hx
  clear hx
  clear hq
  have hq := (Q.refl z7).alloc (.cells #[.bool g0, .slice a2 wl c2, .int .i64 t0] 32)
  have hb := heap_alloc_new z7 (.cells #[.bool g0, .slice a2 wl c2, .int .i64 t0] 32)
  have L8_R := Lib.hid (Lst.q L7_R.out hq)
  clear L7_R
  have L8_X := Lib.hid (Lst.q L7_X.out hq)
  clear L7_X
  have L8_K := Lib.hid (Lst.q L7_K.out hq)
  clear L7_K
  have B8_i := Lib.hid ((Q.block hq (lt_of_block B7_i.out)).trans B7_i.out)
  clear B7_i
  have B8_r := Lib.hid ((Q.block hq (lt_of_block B7_r.out)).trans B7_r.out)
  clear B7_r
  have B8_o := Lib.hid ((Q.block hq (lt_of_block B7_o.out)).trans B7_o.out)
  clear B7_o
  have Q8 := Lib.hid (Q.trans Q7.out hq)
  clear Q7
  have B8_k := Lib.hid hb
  clear hb hq
  obtain ⟨k_i0, k_i1, k_i2, _, _, _⟩ := Er.block_cells B8_i.out
  obtain ⟨k_r0, k_r1, k_r2, _, _, _⟩ := Er.block_cells B8_r.out
  obtain ⟨k_o0, k_o1, k_o2, _, _, _⟩ := Er.block_cells B8_o.out
  obtain ⟨k_k0, k_k1, k_k2, _, _, _⟩ := Er.block_cells B8_k.out
  go_wp2_with fail
  have SQr := Lib.hid (fun u u' (k : Ep.SB3 ((z7.alloc (.cells #[.bool g0, .slice a2 wl c2, .int .i64 t0] 32))) (z1.heap.size) g0 (.slice A0 q0 C0) (s0) (z3.heap.size) g0 (.slice a1 p0 c1) (t0) (z7.heap.size) g0 (.slice a2 wl c2) (t0) u) (q : Q u u') => (Ep.SB3.of B8_r.out B8_o.out B8_k.out (k.here.trans q) : Ep.SB3 ((z7.alloc (.cells #[.bool g0, .slice a2 wl c2, .int .i64 t0] 32))) (z1.heap.size) g0 (.slice A0 q0 C0) (s0) (z3.heap.size) g0 (.slice a1 p0 c1) (t0) (z7.heap.size) g0 (.slice a2 wl c2) (t0) u'))
  have Kasr := Lib.hid (fun u g a n c s (k : Ep.SB3 ((z7.alloc (.cells #[.bool g0, .slice a2 wl c2, .int .i64 t0] 32))) (z1.heap.size) g0 (.slice A0 q0 C0) (s0) (z3.heap.size) g0 (.slice a1 p0 c1) (t0) (z7.heap.size) g0 (.slice a2 wl c2) (t0) u) => (by
    refine (Ep.as_sh u g a n c s).mono ?_
    rintro e w' ⟨rfl, hq⟩
    exact ⟨rfl, SQr.out _ _ k hq, fun v zs hl => hl.q hq⟩ : Calls Try.prog 19 #[.agg #[.bool g, .slice a n c, .int .i64 s]] u fun e w' => e = .returned (.agg #[.bool g, .slice a n c, .int .i64 s]) ∧ Ep.SB3 ((z7.alloc (.cells #[.bool g0, .slice a2 wl c2, .int .i64 t0] 32))) (z1.heap.size) g0 (.slice A0 q0 C0) (s0) (z3.heap.size) g0 (.slice a1 p0 c1) (t0) (z7.heap.size) g0 (.slice a2 wl c2) (t0) w' ∧ ∀ v zs, Lst u v zs → Lst w' v zs))
  have Kofr := Lib.hid (fun u g a n c s (k : Ep.SB3 ((z7.alloc (.cells #[.bool g0, .slice a2 wl c2, .int .i64 t0] 32))) (z1.heap.size) g0 (.slice A0 q0 C0) (s0) (z3.heap.size) g0 (.slice a1 p0 c1) (t0) (z7.heap.size) g0 (.slice a2 wl c2) (t0) u) => (by
    refine (Ep.of_sh u g a n c s).mono ?_
    rintro e w' ⟨rfl, hq⟩
    exact ⟨rfl, SQr.out _ _ k hq, fun v zs hl => hl.q hq⟩ : Calls Try.prog 22 #[.agg #[.bool g, .slice a n c, .int .i64 s]] u fun e w' => e = .returned (.agg #[.bool g, .slice a n c, .int .i64 s]) ∧ Ep.SB3 ((z7.alloc (.cells #[.bool g0, .slice a2 wl c2, .int .i64 t0] 32))) (z1.heap.size) g0 (.slice A0 q0 C0) (s0) (z3.heap.size) g0 (.slice a1 p0 c1) (t0) (z7.heap.size) g0 (.slice a2 wl c2) (t0) w' ∧ ∀ v zs, Lst u v zs → Lst w' v zs))
  have K1r := Lib.hid (fun u  (k : Ep.SB3 ((z7.alloc (.cells #[.bool g0, .slice a2 wl c2, .int .i64 t0] 32))) (z1.heap.size) g0 (.slice A0 q0 C0) (s0) (z3.heap.size) g0 (.slice a1 p0 c1) (t0) (z7.heap.size) g0 (.slice a2 wl c2) (t0) u) => (by
    refine (R1.out u _ (L8_R.out.q k.here)).mono ?_
    rintro e w' ⟨rfl, hq⟩
    exact ⟨rfl, SQr.out _ _ k hq, fun v zs hl => hl.q hq⟩ : Calls Try.prog 21 #[.agg #[.bool g0, .slice A0 q0 C0, .int .i64 s0]] u fun e w' => e = .returned (.string tr) ∧ Ep.SB3 ((z7.alloc (.cells #[.bool g0, .slice a2 wl c2, .int .i64 t0] 32))) (z1.heap.size) g0 (.slice A0 q0 C0) (s0) (z3.heap.size) g0 (.slice a1 p0 c1) (t0) (z7.heap.size) g0 (.slice a2 wl c2) (t0) w' ∧ ∀ v zs, Lst u v zs → Lst w' v zs))
  have K2r := Lib.hid (fun u  (k : Ep.SB3 ((z7.alloc (.cells #[.bool g0, .slice a2 wl c2, .int .i64 t0] 32))) (z1.heap.size) g0 (.slice A0 q0 C0) (s0) (z3.heap.size) g0 (.slice a1 p0 c1) (t0) (z7.heap.size) g0 (.slice a2 wl c2) (t0) u) => (by
    refine (PB.out u _ (L8_K.out.q k.here)).mono ?_
    rintro e w' ⟨rfl, hq⟩
    exact ⟨rfl, SQr.out _ _ k hq, fun v zs hl => hl.q hq⟩ : Calls Try.prog 21 #[.agg #[.bool g0, .slice a2 wl c2, .int .i64 t0]] u fun e w' => e = .returned (.string S) ∧ Ep.SB3 ((z7.alloc (.cells #[.bool g0, .slice a2 wl c2, .int .i64 t0] 32))) (z1.heap.size) g0 (.slice A0 q0 C0) (s0) (z3.heap.size) g0 (.slice a1 p0 c1) (t0) (z7.heap.size) g0 (.slice a2 wl c2) (t0) w' ∧ ∀ v zs, Lst u v zs → Lst w' v zs))
  have K3r := Lib.hid (fun u  (k : Ep.SB3 ((z7.alloc (.cells #[.bool g0, .slice a2 wl c2, .int .i64 t0] 32))) (z1.heap.size) g0 (.slice A0 q0 C0) (s0) (z3.heap.size) g0 (.slice a1 p0 c1) (t0) (z7.heap.size) g0 (.slice a2 wl c2) (t0) u) => (by
    refine (R2.out u _ (L8_R.out.q k.here)).mono ?_
    rintro e w' ⟨rfl, hq⟩
    exact ⟨rfl, SQr.out _ _ k hq, fun v zs hl => hl.q hq⟩ : Calls Try.prog 11 #[.agg #[.bool g0, .slice A0 q0 C0, .int .i64 s0]] u fun e w' => e = .returned (.string tr) ∧ Ep.SB3 ((z7.alloc (.cells #[.bool g0, .slice a2 wl c2, .int .i64 t0] 32))) (z1.heap.size) g0 (.slice A0 q0 C0) (s0) (z3.heap.size) g0 (.slice a1 p0 c1) (t0) (z7.heap.size) g0 (.slice a2 wl c2) (t0) w' ∧ ∀ v zs, Lst u v zs → Lst w' v zs))
  have K4r := Lib.hid (fun u  (k : Ep.SB3 ((z7.alloc (.cells #[.bool g0, .slice a2 wl c2, .int .i64 t0] 32))) (z1.heap.size) g0 (.slice A0 q0 C0) (s0) (z3.heap.size) g0 (.slice a1 p0 c1) (t0) (z7.heap.size) g0 (.slice a2 wl c2) (t0) u) => (by
    refine (RO.out u _ (L8_X.out.q k.here)).mono ?_
    rintro e w' ⟨rfl, hq⟩
    exact ⟨rfl, SQr.out _ _ k hq, fun v zs hl => hl.q hq⟩ : Calls Try.prog 11 #[.agg #[.bool g0, .slice a1 p0 c1, .int .i64 t0]] u fun e w' => e = .returned (.string S) ∧ Ep.SB3 ((z7.alloc (.cells #[.bool g0, .slice a2 wl c2, .int .i64 t0] 32))) (z1.heap.size) g0 (.slice A0 q0 C0) (s0) (z3.heap.size) g0 (.slice a1 p0 c1) (t0) (z7.heap.size) g0 (.slice a2 wl c2) (t0) w' ∧ ∀ v zs, Lst u v zs → Lst w' v zs))
  have K5r := Lib.hid (fun u  (k : Ep.SB3 ((z7.alloc (.cells #[.bool g0, .slice a2 wl c2, .int .i64 t0] 32))) (z1.heap.size) g0 (.slice A0 q0 C0) (s0) (z3.heap.size) g0 (.slice a1 p0 c1) (t0) (z7.heap.size) g0 (.slice a2 wl c2) (t0) u) => (by
    refine (M1.out u _ (L8_R.out.q k.here)).mono ?_
    rintro e w' ⟨rfl, hq⟩
    exact ⟨rfl, SQr.out _ _ k hq, fun v zs hl => hl.q hq⟩ : Calls Try.prog 23 #[.agg #[.bool g0, .slice A0 q0 C0, .int .i64 s0]] u fun e w' => e = .returned (.bool mb) ∧ Ep.SB3 ((z7.alloc (.cells #[.bool g0, .slice a2 wl c2, .int .i64 t0] 32))) (z1.heap.size) g0 (.slice A0 q0 C0) (s0) (z3.heap.size) g0 (.slice a1 p0 c1) (t0) (z7.heap.size) g0 (.slice a2 wl c2) (t0) w' ∧ ∀ v zs, Lst u v zs → Lst w' v zs))
  have K6r := Lib.hid (fun u  (k : Ep.SB3 ((z7.alloc (.cells #[.bool g0, .slice a2 wl c2, .int .i64 t0] 32))) (z1.heap.size) g0 (.slice A0 q0 C0) (s0) (z3.heap.size) g0 (.slice a1 p0 c1) (t0) (z7.heap.size) g0 (.slice a2 wl c2) (t0) u) => (by
    refine (MO.out u _ (L8_X.out.q k.here)).mono ?_
    rintro e w' ⟨rfl, hq⟩
    exact ⟨rfl, SQr.out _ _ k hq, fun v zs hl => hl.q hq⟩ : Calls Try.prog 23 #[.agg #[.bool g0, .slice a1 p0 c1, .int .i64 t0]] u fun e w' => e = .returned (.bool true) ∧ Ep.SB3 ((z7.alloc (.cells #[.bool g0, .slice a2 wl c2, .int .i64 t0] 32))) (z1.heap.size) g0 (.slice A0 q0 C0) (s0) (z3.heap.size) g0 (.slice a1 p0 c1) (t0) (z7.heap.size) g0 (.slice a2 wl c2) (t0) w' ∧ ∀ v zs, Lst u v zs → Lst w' v zs))
  have K7r := Lib.hid (fun u  (k : Ep.SB3 ((z7.alloc (.cells #[.bool g0, .slice a2 wl c2, .int .i64 t0] 32))) (z1.heap.size) g0 (.slice A0 q0 C0) (s0) (z3.heap.size) g0 (.slice a1 p0 c1) (t0) (z7.heap.size) g0 (.slice a2 wl c2) (t0) u) => (by
    refine (M2.out u _ (L8_R.out.q k.here)).mono ?_
    rintro e w' ⟨rfl, hq⟩
    exact ⟨rfl, SQr.out _ _ k hq, fun v zs hl => hl.q hq⟩ : Calls Try.prog 24 #[.agg #[.bool g0, .slice A0 q0 C0, .int .i64 s0]] u fun e w' => e = .returned (.bool mb) ∧ Ep.SB3 ((z7.alloc (.cells #[.bool g0, .slice a2 wl c2, .int .i64 t0] 32))) (z1.heap.size) g0 (.slice A0 q0 C0) (s0) (z3.heap.size) g0 (.slice a1 p0 c1) (t0) (z7.heap.size) g0 (.slice a2 wl c2) (t0) w' ∧ ∀ v zs, Lst u v zs → Lst w' v zs))
  have K8r := Lib.hid (fun u  (k : Ep.SB3 ((z7.alloc (.cells #[.bool g0, .slice a2 wl c2, .int .i64 t0] 32))) (z1.heap.size) g0 (.slice A0 q0 C0) (s0) (z3.heap.size) g0 (.slice a1 p0 c1) (t0) (z7.heap.size) g0 (.slice a2 wl c2) (t0) u) => (by
    refine (CB.out u _ _ (L8_K.out.q k.here) (L8_X.out.q k.here)).mono ?_
    rintro e w' ⟨rfl, hq⟩
    exact ⟨rfl, SQr.out _ _ k hq, fun v zs hl => hl.q hq⟩ : Calls Try.prog 25 #[.agg #[.bool g0, .slice a2 wl c2, .int .i64 t0], .agg #[.bool g0, .slice a1 p0 c1, .int .i64 t0]] u fun e w' => e = .returned (.int .i64 0) ∧ Ep.SB3 ((z7.alloc (.cells #[.bool g0, .slice a2 wl c2, .int .i64 t0] 32))) (z1.heap.size) g0 (.slice A0 q0 C0) (s0) (z3.heap.size) g0 (.slice a1 p0 c1) (t0) (z7.heap.size) g0 (.slice a2 wl c2) (t0) w' ∧ ∀ v zs, Lst u v zs → Lst w' v zs))
  have KLr := Lib.hid (fun u  (k : Ep.SB3 ((z7.alloc (.cells #[.bool g0, .slice a2 wl c2, .int .i64 t0] 32))) (z1.heap.size) g0 (.slice A0 q0 C0) (s0) (z3.heap.size) g0 (.slice a1 p0 c1) (t0) (z7.heap.size) g0 (.slice a2 wl c2) (t0) u) => (by
    refine (LV.out u).mono ?_
    rintro e w' ⟨rfl, hq⟩
    exact ⟨rfl, SQr.out _ _ k hq, fun v zs hl => hl.q hq⟩ : Calls Try.prog 13 #[] u fun e w' => e = .returned (.bool true) ∧ Ep.SB3 ((z7.alloc (.cells #[.bool g0, .slice a2 wl c2, .int .i64 t0] 32))) (z1.heap.size) g0 (.slice A0 q0 C0) (s0) (z3.heap.size) g0 (.slice a1 p0 c1) (t0) (z7.heap.size) g0 (.slice a2 wl c2) (t0) w' ∧ ∀ v zs, Lst u v zs → Lst w' v zs))
  have hst0 := Ep.SB3.of B8_r.out B8_o.out B8_k.out (Q.refl _)
  have hst := Ep.SB3.of B8_r.out B8_o.out B8_k.out ((Q.refl (z7.alloc (.cells #[.bool g0, .slice a2 wl c2, .int .i64 t0] 32))).drew)
  unfold Ep.SB3 at hst hst0
  go_region_held3 (fun u => u.cell? ⟨z1.heap.size, 0, none⟩ = some (.bool g0) ∧ (u.cell? ⟨z1.heap.size, 1, none⟩ = some (.slice A0 q0 C0) ∧ (u.cell? ⟨z1.heap.size, 2, none⟩ = some (.int .i64 s0) ∧ (u.cell? ⟨z3.heap.size, 0, none⟩ = some (.bool g0) ∧ (u.cell? ⟨z3.heap.size, 1, none⟩ = some (.slice a1 p0 c1) ∧ (u.cell? ⟨z3.heap.size, 2, none⟩ = some (.int .i64 t0) ∧ (u.cell? ⟨z7.heap.size, 0, none⟩ = some (.bool g0) ∧ (u.cell? ⟨z7.heap.size, 1, none⟩ = some (.slice a2 wl c2) ∧ (u.cell? ⟨z7.heap.size, 2, none⟩ = some (.int .i64 t0) ∧ (Q (z7.alloc (.cells #[.bool g0, .slice a2 wl c2, .int .i64 t0] 32)) u)))))))))) (first | exact hst | exact hst0 | assumption) (first | ((go_at_call 19); refine (Kasr.out _ _ _ _ _ _ ?_).mono ?_; assumption; rintro e yr ⟨rfl, hS, hcar⟩; unfold Ep.SB3 at hS; skip) | ((go_at_call 22); refine (Kofr.out _ _ _ _ _ _ ?_).mono ?_; assumption; rintro e yr ⟨rfl, hS, hcar⟩; unfold Ep.SB3 at hS; skip) | ((go_at_call_of 21 (Value.slice A0 q0 C0)); refine (K1r.out _  ?_).mono ?_; assumption; rintro e yr ⟨rfl, hS, hcar⟩; unfold Ep.SB3 at hS; skip) | ((go_at_call_of 21 (Value.slice a2 wl c2)); refine (K2r.out _  ?_).mono ?_; assumption; rintro e yr ⟨rfl, hS, hcar⟩; unfold Ep.SB3 at hS; skip) | ((go_at_call_of 11 (Value.slice A0 q0 C0)); refine (K3r.out _  ?_).mono ?_; assumption; rintro e yr ⟨rfl, hS, hcar⟩; unfold Ep.SB3 at hS; skip) | ((go_at_call_of 11 (Value.slice a1 p0 c1)); refine (K4r.out _  ?_).mono ?_; assumption; rintro e yr ⟨rfl, hS, hcar⟩; unfold Ep.SB3 at hS; skip) | ((go_at_call_of 23 (Value.slice A0 q0 C0)); refine (K5r.out _  ?_).mono ?_; assumption; rintro e yr ⟨rfl, hS, hcar⟩; unfold Ep.SB3 at hS; skip) | ((go_at_call_of 23 (Value.slice a1 p0 c1)); refine (K6r.out _  ?_).mono ?_; assumption; rintro e yr ⟨rfl, hS, hcar⟩; unfold Ep.SB3 at hS; skip) | ((go_at_call_of 24 (Value.slice A0 q0 C0)); refine (K7r.out _  ?_).mono ?_; assumption; rintro e yr ⟨rfl, hS, hcar⟩; unfold Ep.SB3 at hS; skip) | ((go_at_call 25); refine (K8r.out _  ?_).mono ?_; assumption; rintro e yr ⟨rfl, hS, hcar⟩; unfold Ep.SB3 at hS; skip) | ((go_at_call 13); refine (KLr.out _  ?_).mono ?_; assumption; rintro e yr ⟨rfl, hS, hcar⟩; unfold Ep.SB3 at hS; skip))
  clear k_i0 k_i1 k_i2 k_r0 k_r1 k_r2 k_o0 k_o1 k_o2 k_k0 k_k1 k_k2
  have hqr : Q (z7.alloc (.cells #[.bool g0, .slice a2 wl c2, .int .i64 t0] 32)) _ := (show Ep.SB3 ((z7.alloc (.cells #[.bool g0, .slice a2 wl c2, .int .i64 t0] 32))) (z1.heap.size) g0 (.slice A0 q0 C0) (s0) (z3.heap.size) g0 (.slice a1 p0 c1) (t0) (z7.heap.size) g0 (.slice a2 wl c2) (t0) _ from hS).here
  clear hst hst0 hS hcar
  have HQE := Lib.hid (Q8.out.trans hqr)
  clear hqr
  go_wp2_with fail
  go_ret
  exact ⟨rfl, HQE.out⟩

set_option maxRecDepth 100000 in
theorem lifted (os : Os) (started : os.Started) (H : Type) (enc : TypeId × Value → H) :
    ReturnsInHanded {} Try.checked os 4 .any (Rows.decimalPrintsSpec.pre6 enc Try.prog Try.f4 Rows.decimalPrintsRow.domain false) (Rows.decimalPrintsSpec.post enc Try.prog Try.f4 false true false false) := by
  refine returnsInHanded_of_change (C := Try.checked) own started (by kernel_rfl) Try.func4
    (ChangeSpec.witness6 (enc := enc) (C := Try.checked) false ⟨#[], #[.agg #[.bool false, .slice none 0 0, .int .i64 0]], []⟩ 8 (by kernel_rfl) (by kernel_rfl) (by kernel_rfl) (by kernel_rfl)) ?_
  intro W base args ds gs before hval0 hW hcnd _
  have hval : ∀ (j : Nat) t v, Try.f4.params[j]? = some t → args[j]? = some v → Value.okWide Try.prog W .any base t v := hval0
  have hW' := hW
  obtain ⟨p, q, hA0, hV, rfl, hfz, hnd⟩ := hW
  have hA : DataW.TrodAll enc Try.prog W 0 (fun _ => true) true Try.f4.params.toList args.toList ds p := hA0
  rw [Try.params4] at hA hval
  obtain ⟨v0, vs0, d0, ds0, p0, q0, hargs, rfl, rfl, h0, r0⟩ := trodAll_cons hA
  obtain ⟨rfl, rfl, rfl⟩ := trodAll_nil r0
  obtain rfl : args = #[v0] := by cases args; simp_all
  obtain ⟨rfl, rfl⟩ := trodVars_none hV
  have k0 := h0
  have lt0 : ∀ x ∈ p0, x.block < W.heap.size := by obtain ⟨m, hm⟩ := k0; exact DataW.trod_lt m _ _ _ hm
  obtain ⟨c00, c01, c02, y00, y01, y02, m0, rfl, _, _, hy00, hy01, hy02⟩ := Joins.open_agg3 Try.underlying24 (by kernel_rfl) (by kernel_rfl) (hval 0 24 v0 rfl rfl) h0
  obtain ⟨g0, rfl⟩ : ∃ b, c00 = .bool b := by
    obtain ⟨b, h, _⟩ := DataW.trod_bool Try.underlying4 hy00
    exact ⟨b, by simpa using h⟩
  obtain ⟨s0, rfl, ws0⟩ : ∃ n, c02 = .int .i64 n ∧ (Lit.int .i64 n).wf = true := by
    obtain ⟨n, h, _, hw⟩ := DataW.trod_int Try.underlying3 hy02
    exact ⟨n, by simpa using h, hw⟩
  obtain ⟨a0, len0, cap0, z0, rfl, w0⟩ : ∃ a len cap zs, c01 = .slice a len cap ∧ IsRow .i64 W a len cap zs := by
    rcases open_ints Try.underlying22 Try.underlying3 (by kernel_rfl) hy01 with ⟨hcs, _⟩ | ⟨x, l, c, zs, hcs, _, hl, hm, hz, _, hcell, hwz⟩
    · exact ⟨none, 0, 0, [], by simpa using hcs, .inl ⟨rfl, rfl, rfl, rfl⟩⟩
    · exact ⟨some x, l, c, zs, by simpa using hcs, .inr ⟨_, rfl, hl, hm, by simpa using hz, hcell, hwz⟩⟩
  obtain ⟨xs0, l0, _, b0⟩ := w0.lst
  clear hA0 hval0
  refine (walk W g0 (.slice a0 len0 cap0) xs0 l0 b0 s0 (bounds_i64 ws0)).mono fun e W' ⟨he, bel⟩ => ?_
  subst he
  exact ⟨_, rfl, _, _, _, [], _, [], hW', trodAll_mk1 (shut_bool Try.underlying4 _), (trodAll_cons_mk (Below.trod laidOut (by kernel_rfl) (of_decide_eq_true (by kernel_rfl)) k0 bel lt0) trodAll_mk0), rfl, bel.below.frame _, fun h => by cases h⟩

/-- The statement. -/
theorem proved : Rows.DecimalPrintsSaid :=
  OpenClaim.holds_of_wide 4 Try.f4 rfl rfl rfl rfl rfl rfl rfl ⟨rfl, rfl, rfl, rfl, rfl⟩ rfl rfl rfl rfl rfl (by kernel_rfl) Try.func4 (by kernel_rfl)
    (of_decide_eq_true (by kernel_rfl)) (by unfold Func.isWrapper; first | (rw [if_pos (by decide +kernel)]; kernel_rfl) | (rw [if_neg (by decide +kernel)]; exact ⟨rfl, rfl⟩))
    (fun os started H enc _ => lifted os started H enc)
#print axioms proved
end Go.Proofs.Ytilbefdeanhnpaa.decimalPrints
