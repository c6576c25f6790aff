/- DecimalDigits: whatever decimal (its first 20 numbers made digits, its scale made 0 to 9) is the number that its digits ahead of the point and those behind it are, one behind the other; no conditions. -/
import Derived.Test.YtilbefdeanhnpaaRows
import Derived.WalkKit
import Derived.ProofKit
import Derived.OpenShut
import Derived.ShutString
import Derived.ChangeOld
import Derived.Below
import Derived.Lib.SmallJoins
import Derived.Test.YtilbefdeanhnpaaInts
import Derived.Test.YtilbefdeanhnpaaUtfM
import Derived.Test.YtilbefdeanhnpaaUtfG
import Derived.Test.YtilbefdeanhnpaaUtfR
import Derived.Test.YtilbefdeanhnpaaDigM
import Derived.Test.YtilbefdeanhnpaaDigL
import Derived.Test.YtilbefdeanhnpaaDigR
import Derived.Test.YtilbefdeanhnpaaDecM
import Derived.Test.YtilbefdeanhnpaaDecR
import Derived.Test.YtilbefdeanhnpaaDecS
import Derived.Test.YtilbefdeanhnpaaDecC
import Derived.Test.YtilbefdeanhnpaaDecF
import Derived.Test.YtilbefdeanhnpaaDecG
import Derived.Test.YtilbefdeanhnpaaDecQ
import Derived.Test.YtilbefdeanhnpaaDecH
import Derived.Test.YtilbefdeanhnpaaDecI
import Derived.Test.YtilbefdeanhnpaaDecJ
import Derived.Test.YtilbefdeanhnpaaDecK
import Derived.Test.YtilbefdeanhnpaaDecO
import Derived.Test.YtilbefdeanhnpaaDecZ
set_option linter.unusedVariables false
set_option linter.unusedSimpArgs false
namespace Go.Proofs.Ytilbefdeanhnpaa.decimalDigits
open Go.ChangeShapes Go.WideShapes Go.ChangeAt Go.RowKit
open Go.ChangeMaps (open_string shut_string)

theorem own : ownKnob Try.prog.godebug = none := by kernel_rfl
theorem laidOut : laidOutB Try.prog = true := by kernel_rfl


set_option maxHeartbeats 4000000 in
set_option maxRecDepth 100000 in
theorem walk (w : World) (g0 : Bool) (v0 : Value) (xs0 : List Int) (w0 : Lst w v0 xs0) (b0 : ∀ n ∈ xs0, -9223372036854775808 ≤ n ∧ n ≤ 9223372036854775807) (s0 : Int) (ws0 : -9223372036854775808 ≤ s0 ∧ s0 ≤ 9223372036854775807) :
    Calls Try.prog 10 #[.agg #[.bool g0, v0, .int .i64 s0]] w fun e w' => e = .returned (.bool true) ∧ Q w w' := by
  obtain ⟨A0, C0, rfl, _, _⟩ := w0.shape2
  have hgl0 := Dm.gdL_len xs0 20
  have kX0 := Dm.gdL_ok xs0 20
  have hab0 := Um.around_bd s0 10 (by omega)
  obtain ⟨t0, ht0⟩ : ∃ t : Nat, Um.around s0 10 = (t : Int) := ⟨(Um.around s0 10).toNat, by omega⟩
  rw [ht0] at hab0
  have hs0 : t0 ≤ 9 := by omega
  obtain ⟨p0, hp0⟩ : ∃ p, (Dm.gdL xs0 20).length = p := ⟨_, rfl⟩
  have hpm0 : p0 ≤ 20 := by omega
  have G0 := Lib.hid (fun u (q : Q w u) => Ep.good_sh u g0 A0 xs0.length C0 s0 xs0 20 (w0.q q) rfl ws0 (by omega) b0 t0 p0 ht0 hp0)
  generalize Dm.gdL xs0 20 = X0 at *
  generalize hn0 : xs0.length = n0 at *
  have HP0 := Lib.hid hp0
  clear hgl0 hab0 ht0 hp0
  have hp0 := HP0.out
  obtain ⟨PX, hPX⟩ : ∃ PX, Dm.dg (Dm.num ((List.replicate (t0 - X0.length) 0 ++ X0).take (X0.length - t0))) = PX := ⟨_, rfl⟩
  obtain ⟨PY, hPY⟩ : ∃ PY, (List.replicate (t0 - X0.length) (0 : Int) ++ X0).drop (X0.length - t0) = PY := ⟨_, rfl⟩
  have hRO : Dm.okD (List.replicate (t0 - X0.length) (0 : Int) ++ X0) := Dm.okD_append.2 ⟨fun d hd => by have := List.eq_of_mem_replicate hd; omega, kX0⟩
  have hly : PY.length = t0 := by rw [← hPY, List.length_drop, List.length_append, List.length_replicate]; omega
  have hlx : PX.length < 1000 := by
    rw [← hPX]
    have h1 := Dm.okD_take hRO (X0.length - t0)
    have := Dm.dg_len _ h1
    rw [List.length_take] at this
    omega
  have kPX : Dm.okD PX := by rw [← hPX]; exact Dm.okD_dg _
  have kPY : Dm.okD PY := by rw [← hPY]; exact Dm.okD_drop hRO _
  have kA : Dm.okD (PX ++ PY) := Dm.okD_append.2 ⟨kPX, kPY⟩
  have hhd : PX = [] ∨ ∃ d r, PX = d :: r ∧ d ≠ 0 := by rw [← hPX]; exact Dm.dg_head _
  have nA : Dm.num (PX ++ PY) = Dm.num X0 := by
    rw [Dm.num_append, ← hPX, Dm.num_dg, ← hPY, ← Dm.num_append, List.take_append_drop, ← Dm.num_trim, Dm.trim_rep, Dm.num_trim]
  have PP := Lib.hid (fun u a c (h : Lst u (.slice a p0 c) X0) => (by
    have e := Ep.parts_any g0 _ t0 X0 u h (by omega) kX0 (by omega)
    rw [hPX, hPY] at e
    refine e.mono ?_
    rintro e w' ⟨x, y, rfl, h1, h2, hq⟩
    obtain ⟨ya, yc, rfl⟩ := h2.shape
    obtain ⟨xa, xc, rfl⟩ := h1.shape
    rw [hly] at h2 ⊢
    exact ⟨xa, xc, ya, yc, rfl, h1, h2, hq⟩ : Calls Try.prog 27 #[.agg #[.bool g0, .slice a p0 c, .int .i64 t0]] u fun e w' => ∃ xa xc ya yc, e = .returned (.tuple #[.slice xa PX.length xc, .slice ya t0 yc]) ∧ Lst w' (.slice xa PX.length xc) PX ∧ Lst w' (.slice ya t0 yc) PY ∧ Q u w'))
  have hal : (PX ++ PY).length < 2000 := by rw [List.length_append]; omega
  have CR := Lib.hid (fun u v a c (h1 : Lst u v (PX ++ PY)) (h2 : Lst u (.slice a p0 c) X0) => (by
    have e := Dr.compare_any v _ (PX ++ PY) X0 u h1 h2 (by omega) (by omega) kA kX0
    rw [nA, Dm.cmpZ_eq rfl] at e
    exact e : Calls Try.prog 40 #[v, .slice a p0 c] u fun e w' => e = .returned (.int .i64 0) ∧ Q u w'))
  have CP := Lib.hid (fun u v a c (h1 : Lst u v (PX ++ PY)) (h2 : Lst u (.slice a p0 c) X0) => (by
    have e := Ep.compare_any g0 g0 v _ t0 t0 (PX ++ PY) X0 u h1 h2 (by omega) (by omega) kA kX0 (by omega) (by omega)
    rw [nA, Ep.cmpD_self] at e
    exact e : Calls Try.prog 30 #[.agg #[.bool g0, v, .int .i64 t0], .agg #[.bool g0, .slice a p0 c, .int .i64 t0]] u fun e w' => e = .returned (.int .i64 0) ∧ Q u w'))
  have LV := Lib.hid Ep.lives_any
  have HXL := Lib.hid hlx
  have HYL := Lib.hid hly
  generalize hk : PX.length = k at *
  have HK := Lib.hid hk
  clear hp0 hPX hPY hRO hly kPX kPY kA nA kX0 w0 b0 hn0 hlx hk hal
  go_enter Try.func10, Try.ntmps10
  have Q0 := Lib.hid (show Q w (w.alloc (.cells #[.bool g0, .slice A0 n0 C0, .int .i64 s0] 24)) from ((Q.refl w).alloc (.cells #[.bool g0, .slice A0 n0 C0, .int .i64 s0] 24)))
  have B0_i := Lib.hid (show (w.alloc (.cells #[.bool g0, .slice A0 n0 C0, .int .i64 s0] 24)).heap[w.heap.size]? = some (.cells #[.bool g0, .slice A0 n0 C0, .int .i64 s0] 24) from by exact heap_alloc_new _ _)
  obtain ⟨k_i0, k_i1, k_i2, _, _, _⟩ := Er.block_cells B0_i.out
  go_wp2_with fail
  refine (G0.out _ Q0.out).mono ?_
  rintro e z1 ⟨a1, c1, rfl, hx, hq⟩
  clear k_i0 k_i1 k_i2
  have B1_i := Lib.hid ((Q.block hq (lt_of_block B0_i.out)).trans B0_i.out)
  clear B0_i
  have Q1 := Lib.hid (Q.trans Q0.out hq)
  clear Q0
  have L1_X := Lib.hid hx
  clear hx
  clear hq
  have hq := (Q.refl z1).alloc (.cells #[.bool g0, .slice a1 p0 c1, .int .i64 t0] 24)
  have hb := heap_alloc_new z1 (.cells #[.bool g0, .slice a1 p0 c1, .int .i64 t0] 24)
  have L2_X := Lib.hid (Lst.q L1_X.out hq)
  clear L1_X
  have B2_i := Lib.hid ((Q.block hq (lt_of_block B1_i.out)).trans B1_i.out)
  clear B1_i
  have Q2 := Lib.hid (Q.trans Q1.out hq)
  clear Q1
  have B2_o := Lib.hid hb
  clear hb hq
  obtain ⟨k_i0, k_i1, k_i2, _, _, _⟩ := Er.block_cells B2_i.out
  obtain ⟨k_o0, k_o1, k_o2, _, _, _⟩ := Er.block_cells B2_o.out
  go_wp2_with fail
  refine (Ep.of_sh _ _ _ _ _ _).mono ?_
  rintro e z3 ⟨rfl, hq⟩
  clear k_i0 k_i1 k_i2 k_o0 k_o1 k_o2
  have L3_X := Lib.hid (Lst.q L2_X.out hq)
  clear L2_X
  have B3_i := Lib.hid ((Q.block hq (lt_of_block B2_i.out)).trans B2_i.out)
  clear B2_i
  have B3_o := Lib.hid ((Q.block hq (lt_of_block B2_o.out)).trans B2_o.out)
  clear B2_o
  have Q3 := Lib.hid (Q.trans Q2.out hq)
  clear Q2
  clear hq
  obtain ⟨k_i0, k_i1, k_i2, _, _, _⟩ := Er.block_cells B3_i.out
  obtain ⟨k_o0, k_o1, k_o2, _, _, _⟩ := Er.block_cells B3_o.out
  go_wp2_with fail
  refine (PP.out _ _ _ L3_X.out).mono ?_
  rintro e z4 ⟨x1, e1, y1, d1, rfl, hx, hy, hq⟩
  clear k_i0 k_i1 k_i2 k_o0 k_o1 k_o2
  have L4_X := Lib.hid (Lst.q L3_X.out hq)
  clear L3_X
  have B4_i := Lib.hid ((Q.block hq (lt_of_block B3_i.out)).trans B3_i.out)
  clear B3_i
  have B4_o := Lib.hid ((Q.block hq (lt_of_block B3_o.out)).trans B3_o.out)
  clear B3_o
  have Q4 := Lib.hid (Q.trans Q3.out hq)
  clear Q3
  have L4_A := Lib.hid hx
  clear hx
  have L4_Bb := Lib.hid hy
  clear hy
  clear hq
  have HO0 := Lib.hid (Own.nil z4 z4.heap.size)
  have HLA := Lib.hid (show ([] : List Int).length + PX.length < 1099511627776 from by have := HXL.out; have := HK.out; simp only [List.length_nil]; omega)
  obtain ⟨k_i0, k_i1, k_i2, _, _, _⟩ := Er.block_cells B4_i.out
  obtain ⟨k_o0, k_o1, k_o2, _, _, _⟩ := Er.block_cells B4_o.out
  go_wp2_with (at_builtin; refine push_list HO0.out L4_A.out rfl _ _ rfl (by rfl) (by rfl) HLA.out (Nat.le_refl _) ?_)
  intro v1 x2 ho hg hat
  have ho1 : Own x2 z4.heap.size v1 PX := ho
  have hq1 : Q z4 x2 := (Q.refl z4).grown hg (fun g h => by cases h)
  have HO1 := Lib.hid ho1
  have HQ1 := Lib.hid hq1
  have HLB := Lib.hid (Lst.q L4_Bb.out hq1)
  have HLC := Lib.hid (show PX.length + PY.length < 1099511627776 from by have := HXL.out; have := HK.out; have := HYL.out; omega)
  clear ho ho1 hg hat hq1
  go_wp2_with (at_builtin; refine push_list HO1.out HLB.out rfl _ _ rfl (by rfl) (by rfl) HLC.out HQ1.out.le ?_)
  intro v2 x3 ho hg hat
  have hq := HQ1.out.grown hg (fun g h => (HO1.out.lt g h).1)
  obtain ⟨ua, uc, rfl⟩ := ho.shape
  generalize hql : (PX ++ PY).length = ql at *
  have hall := ho.lst
  clear hat hg ho
  clear k_i0 k_i1 k_i2 k_o0 k_o1 k_o2
  have L5_X := Lib.hid (Lst.q L4_X.out hq)
  clear L4_X
  have L5_A := Lib.hid (Lst.q L4_A.out hq)
  clear L4_A
  have L5_Bb := Lib.hid (Lst.q L4_Bb.out hq)
  clear L4_Bb
  have B5_i := Lib.hid ((Q.block hq (lt_of_block B4_i.out)).trans B4_i.out)
  clear B4_i
  have B5_o := Lib.hid ((Q.block hq (lt_of_block B4_o.out)).trans B4_o.out)
  clear B4_o
  have Q5 := Lib.hid (Q.trans Q4.out hq)
  clear Q4
  have L5_All := Lib.hid hall
  clear hall hq
  have HCE := Lib.hid (fun (j : Nat) (hj : k = j + 1) => Lst.cellOf (n := k) (k := 0) L5_A.out HK.out (by omega))
  rcases hhd with hnil | ⟨d0, r0, hcons, hd0⟩
  · obtain rfl : k = 0 := by have := HK.out; rw [hnil] at this; exact this.symm
    obtain ⟨k_i0, k_i1, k_i2, _, _, _⟩ := Er.block_cells B5_i.out
    obtain ⟨k_o0, k_o1, k_o2, _, _, _⟩ := Er.block_cells B5_o.out
    go_wp2_with fail
    have SQr := Lib.hid (fun u u' (k : Ep.SB1 (x3) (z1.heap.size) g0 (.slice a1 p0 c1) (t0) u) (q : Q u u') => (Ep.SB1.of B5_o.out (k.here.trans q) : Ep.SB1 (x3) (z1.heap.size) g0 (.slice a1 p0 c1) (t0) u'))
    have Kofr := Lib.hid (fun u g a n c s (k : Ep.SB1 (x3) (z1.heap.size) g0 (.slice a1 p0 c1) (t0) u) => (by
      refine (Ep.of_sh u g a n c s).mono ?_
      rintro e w' ⟨rfl, hq⟩
      exact ⟨rfl, SQr.out _ _ k hq, fun v zs hl => hl.q hq⟩ : Calls Try.prog 22 #[.agg #[.bool g, .slice a n c, .int .i64 s]] u fun e w' => e = .returned (.agg #[.bool g, .slice a n c, .int .i64 s]) ∧ Ep.SB1 (x3) (z1.heap.size) g0 (.slice a1 p0 c1) (t0) w' ∧ ∀ v zs, Lst u v zs → Lst w' v zs))
    have KRr := Lib.hid (fun u  (k : Ep.SB1 (x3) (z1.heap.size) g0 (.slice a1 p0 c1) (t0) u) => (by
      refine (CR.out u (.slice ua ql uc) a1 c1 (L5_All.out.q k.here) (L5_X.out.q k.here)).mono ?_
      rintro e w' ⟨rfl, hq⟩
      exact ⟨rfl, SQr.out _ _ k hq, fun v zs hl => hl.q hq⟩ : Calls Try.prog 40 #[.slice ua ql uc, .slice a1 p0 c1] u fun e w' => e = .returned (.int .i64 0) ∧ Ep.SB1 (x3) (z1.heap.size) g0 (.slice a1 p0 c1) (t0) w' ∧ ∀ v zs, Lst u v zs → Lst w' v zs))
    have KCr := Lib.hid (fun u  (k : Ep.SB1 (x3) (z1.heap.size) g0 (.slice a1 p0 c1) (t0) u) => (by
      refine (CP.out u (.slice ua ql uc) a1 c1 (L5_All.out.q k.here) (L5_X.out.q k.here)).mono ?_
      rintro e w' ⟨rfl, hq⟩
      exact ⟨rfl, SQr.out _ _ k hq, fun v zs hl => hl.q hq⟩ : Calls Try.prog 30 #[.agg #[.bool g0, .slice ua ql uc, .int .i64 t0], .agg #[.bool g0, .slice a1 p0 c1, .int .i64 t0]] u fun e w' => e = .returned (.int .i64 0) ∧ Ep.SB1 (x3) (z1.heap.size) g0 (.slice a1 p0 c1) (t0) w' ∧ ∀ v zs, Lst u v zs → Lst w' v zs))
    have KLr := Lib.hid (fun u  (k : Ep.SB1 (x3) (z1.heap.size) g0 (.slice a1 p0 c1) (t0) u) => (by
      refine (LV.out u).mono ?_
      rintro e w' ⟨rfl, hq⟩
      exact ⟨rfl, SQr.out _ _ k hq, fun v zs hl => hl.q hq⟩ : Calls Try.prog 13 #[] u fun e w' => e = .returned (.bool true) ∧ Ep.SB1 (x3) (z1.heap.size) g0 (.slice a1 p0 c1) (t0) w' ∧ ∀ v zs, Lst u v zs → Lst w' v zs))
    have hst0 := Ep.SB1.of B5_o.out (Q.refl _)
    have hst := Ep.SB1.of B5_o.out ((Q.refl x3).drew)
    unfold Ep.SB1 at hst hst0
    go_region_held3 (fun u => u.cell? ⟨z1.heap.size, 0, none⟩ = some (.bool g0) ∧ (u.cell? ⟨z1.heap.size, 1, none⟩ = some (.slice a1 p0 c1) ∧ (u.cell? ⟨z1.heap.size, 2, none⟩ = some (.int .i64 t0) ∧ (Q x3 u)))) (first | exact hst | exact hst0 | assumption) (first | ((go_at_call 22); refine (Kofr.out _ _ _ _ _ _ ?_).mono ?_; assumption; rintro e yr ⟨rfl, hS, hcar⟩; unfold Ep.SB1 at hS; skip) | ((go_at_call 40); refine (KRr.out _  ?_).mono ?_; assumption; rintro e yr ⟨rfl, hS, hcar⟩; unfold Ep.SB1 at hS; skip) | ((go_at_call 30); refine (KCr.out _  ?_).mono ?_; assumption; rintro e yr ⟨rfl, hS, hcar⟩; unfold Ep.SB1 at hS; skip) | ((go_at_call 13); refine (KLr.out _  ?_).mono ?_; assumption; rintro e yr ⟨rfl, hS, hcar⟩; unfold Ep.SB1 at hS; skip))
    clear k_i0 k_i1 k_i2 k_o0 k_o1 k_o2
    have hqr : Q x3 _ := (show Ep.SB1 (x3) (z1.heap.size) g0 (.slice a1 p0 c1) (t0) _ from hS).here
    clear hst hst0 hS hcar
    have HQE := Lib.hid (Q5.out.trans hqr)
    clear hqr
    go_wp2_with fail
    go_ret
    exact ⟨rfl, HQE.out⟩
  · obtain ⟨j, hj⟩ : ∃ j, k = j + 1 := ⟨r0.length, by have := HK.out; rw [hcons] at this; exact this.symm⟩
    obtain ⟨gg, off, cap, hvv, _, _, _, c0⟩ := HCE.out j hj
    subst hj
    cases hvv
    rw [hcons] at c0
    have cz1 : x3.cell? ⟨gg, off, none⟩ = some (.int .i64 d0) := c0
    have hdb : (d0 == 0) = false := beq_eq_false_iff_ne.2 hd0
    clear c0
    obtain ⟨k_i0, k_i1, k_i2, _, _, _⟩ := Er.block_cells B5_i.out
    obtain ⟨k_o0, k_o1, k_o2, _, _, _⟩ := Er.block_cells B5_o.out
    go_wp2_with fail
    have SQr := Lib.hid (fun u u' (k : Ep.SB1 (x3) (z1.heap.size) g0 (.slice a1 p0 c1) (t0) u) (q : Q u u') => (Ep.SB1.of B5_o.out (k.here.trans q) : Ep.SB1 (x3) (z1.heap.size) g0 (.slice a1 p0 c1) (t0) u'))
    have Kofr := Lib.hid (fun u g a n c s (k : Ep.SB1 (x3) (z1.heap.size) g0 (.slice a1 p0 c1) (t0) u) => (by
      refine (Ep.of_sh u g a n c s).mono ?_
      rintro e w' ⟨rfl, hq⟩
      exact ⟨rfl, SQr.out _ _ k hq, fun v zs hl => hl.q hq⟩ : Calls Try.prog 22 #[.agg #[.bool g, .slice a n c, .int .i64 s]] u fun e w' => e = .returned (.agg #[.bool g, .slice a n c, .int .i64 s]) ∧ Ep.SB1 (x3) (z1.heap.size) g0 (.slice a1 p0 c1) (t0) w' ∧ ∀ v zs, Lst u v zs → Lst w' v zs))
    have KRr := Lib.hid (fun u  (k : Ep.SB1 (x3) (z1.heap.size) g0 (.slice a1 p0 c1) (t0) u) => (by
      refine (CR.out u (.slice ua ql uc) a1 _ (L5_All.out.q k.here) (L5_X.out.q k.here)).mono ?_
      rintro e w' ⟨rfl, hq⟩
      exact ⟨rfl, SQr.out _ _ k hq, fun v zs hl => hl.q hq⟩ : Calls Try.prog 40 #[.slice ua ql uc, .slice a1 p0 c1] u fun e w' => e = .returned (.int .i64 0) ∧ Ep.SB1 (x3) (z1.heap.size) g0 (.slice a1 p0 c1) (t0) w' ∧ ∀ v zs, Lst u v zs → Lst w' v zs))
    have KCr := Lib.hid (fun u  (k : Ep.SB1 (x3) (z1.heap.size) g0 (.slice a1 p0 c1) (t0) u) => (by
      refine (CP.out u (.slice ua ql uc) a1 c1 (L5_All.out.q k.here) (L5_X.out.q k.here)).mono ?_
      rintro e w' ⟨rfl, hq⟩
      exact ⟨rfl, SQr.out _ _ k hq, fun v zs hl => hl.q hq⟩ : Calls Try.prog 30 #[.agg #[.bool g0, .slice ua ql uc, .int .i64 t0], .agg #[.bool g0, .slice a1 p0 c1, .int .i64 t0]] u fun e w' => e = .returned (.int .i64 0) ∧ Ep.SB1 (x3) (z1.heap.size) g0 (.slice a1 p0 c1) (t0) w' ∧ ∀ v zs, Lst u v zs → Lst w' v zs))
    have KLr := Lib.hid (fun u  (k : Ep.SB1 (x3) (z1.heap.size) g0 (.slice a1 p0 c1) (t0) u) => (by
      refine (LV.out u).mono ?_
      rintro e w' ⟨rfl, hq⟩
      exact ⟨rfl, SQr.out _ _ k hq, fun v zs hl => hl.q hq⟩ : Calls Try.prog 13 #[] u fun e w' => e = .returned (.bool true) ∧ Ep.SB1 (x3) (z1.heap.size) g0 (.slice a1 p0 c1) (t0) w' ∧ ∀ v zs, Lst u v zs → Lst w' v zs))
    have hst0 := Ep.SB1.of B5_o.out (Q.refl _)
    have hst := Ep.SB1.of B5_o.out ((Q.refl x3).drew)
    unfold Ep.SB1 at hst hst0
    go_region_held3 (fun u => u.cell? ⟨z1.heap.size, 0, none⟩ = some (.bool g0) ∧ (u.cell? ⟨z1.heap.size, 1, none⟩ = some (.slice a1 p0 c1) ∧ (u.cell? ⟨z1.heap.size, 2, none⟩ = some (.int .i64 t0) ∧ (Q x3 u)))) (first | exact hst | exact hst0 | assumption) (first | ((go_at_call 22); refine (Kofr.out _ _ _ _ _ _ ?_).mono ?_; assumption; rintro e yr ⟨rfl, hS, hcar⟩; unfold Ep.SB1 at hS; skip) | ((go_at_call 40); refine (KRr.out _  ?_).mono ?_; assumption; rintro e yr ⟨rfl, hS, hcar⟩; unfold Ep.SB1 at hS; skip) | ((go_at_call 30); refine (KCr.out _  ?_).mono ?_; assumption; rintro e yr ⟨rfl, hS, hcar⟩; unfold Ep.SB1 at hS; skip) | ((go_at_call 13); refine (KLr.out _  ?_).mono ?_; assumption; rintro e yr ⟨rfl, hS, hcar⟩; unfold Ep.SB1 at hS; skip))
    clear k_i0 k_i1 k_i2 k_o0 k_o1 k_o2
    have hqr : Q x3 _ := (show Ep.SB1 (x3) (z1.heap.size) g0 (.slice a1 p0 c1) (t0) _ from hS).here
    clear hst hst0 hS hcar
    have HQE := Lib.hid (Q5.out.trans hqr)
    clear hqr
    go_wp2_with fail
    go_ret
    exact ⟨rfl, HQE.out⟩

set_option maxRecDepth 100000 in
theorem lifted (os : Os) (started : os.Started) (H : Type) (enc : TypeId × Value → H) :
    ReturnsInHanded {} Try.checked os 10 .any (Rows.decimalDigitsSpec.pre6 enc Try.prog Try.f10 Rows.decimalDigitsRow.domain false) (Rows.decimalDigitsSpec.post enc Try.prog Try.f10 false true false false) := by
  refine returnsInHanded_of_change (C := Try.checked) own started (by kernel_rfl) Try.func10
    (ChangeSpec.witness6 (enc := enc) (C := Try.checked) false ⟨#[], #[.agg #[.bool false, .slice none 0 0, .int .i64 0]], []⟩ 8 (by kernel_rfl) (by kernel_rfl) (by kernel_rfl) (by kernel_rfl)) ?_
  intro W base args ds gs before hval0 hW hcnd _
  have hval : ∀ (j : Nat) t v, Try.f10.params[j]? = some t → args[j]? = some v → Value.okWide Try.prog W .any base t v := hval0
  have hW' := hW
  obtain ⟨p, q, hA0, hV, rfl, hfz, hnd⟩ := hW
  have hA : DataW.TrodAll enc Try.prog W 0 (fun _ => true) true Try.f10.params.toList args.toList ds p := hA0
  rw [Try.params10] at hA hval
  obtain ⟨v0, vs0, d0, ds0, p0, q0, hargs, rfl, rfl, h0, r0⟩ := trodAll_cons hA
  obtain ⟨rfl, rfl, rfl⟩ := trodAll_nil r0
  obtain rfl : args = #[v0] := by cases args; simp_all
  obtain ⟨rfl, rfl⟩ := trodVars_none hV
  have k0 := h0
  have lt0 : ∀ x ∈ p0, x.block < W.heap.size := by obtain ⟨m, hm⟩ := k0; exact DataW.trod_lt m _ _ _ hm
  obtain ⟨c00, c01, c02, y00, y01, y02, m0, rfl, _, _, hy00, hy01, hy02⟩ := Joins.open_agg3 Try.underlying24 (by kernel_rfl) (by kernel_rfl) (hval 0 24 v0 rfl rfl) h0
  obtain ⟨g0, rfl⟩ : ∃ b, c00 = .bool b := by
    obtain ⟨b, h, _⟩ := DataW.trod_bool Try.underlying4 hy00
    exact ⟨b, by simpa using h⟩
  obtain ⟨s0, rfl, ws0⟩ : ∃ n, c02 = .int .i64 n ∧ (Lit.int .i64 n).wf = true := by
    obtain ⟨n, h, _, hw⟩ := DataW.trod_int Try.underlying3 hy02
    exact ⟨n, by simpa using h, hw⟩
  obtain ⟨a0, len0, cap0, z0, rfl, w0⟩ : ∃ a len cap zs, c01 = .slice a len cap ∧ IsRow .i64 W a len cap zs := by
    rcases open_ints Try.underlying22 Try.underlying3 (by kernel_rfl) hy01 with ⟨hcs, _⟩ | ⟨x, l, c, zs, hcs, _, hl, hm, hz, _, hcell, hwz⟩
    · exact ⟨none, 0, 0, [], by simpa using hcs, .inl ⟨rfl, rfl, rfl, rfl⟩⟩
    · exact ⟨some x, l, c, zs, by simpa using hcs, .inr ⟨_, rfl, hl, hm, by simpa using hz, hcell, hwz⟩⟩
  obtain ⟨xs0, l0, _, b0⟩ := w0.lst
  clear hA0 hval0
  refine (walk W g0 (.slice a0 len0 cap0) xs0 l0 b0 s0 (bounds_i64 ws0)).mono fun e W' ⟨he, bel⟩ => ?_
  subst he
  exact ⟨_, rfl, _, _, _, [], _, [], hW', trodAll_mk1 (shut_bool Try.underlying4 _), (trodAll_cons_mk (Below.trod laidOut (by kernel_rfl) (of_decide_eq_true (by kernel_rfl)) k0 bel lt0) trodAll_mk0), rfl, bel.below.frame _, fun h => by cases h⟩

/-- The statement. -/
theorem proved : Rows.DecimalDigitsSaid :=
  OpenClaim.holds_of_wide 10 Try.f10 rfl rfl rfl rfl rfl rfl rfl ⟨rfl, rfl, rfl, rfl, rfl⟩ rfl rfl rfl rfl rfl (by kernel_rfl) Try.func10 (by kernel_rfl)
    (of_decide_eq_true (by kernel_rfl)) (by unfold Func.isWrapper; first | (rw [if_pos (by decide +kernel)]; kernel_rfl) | (rw [if_neg (by decide +kernel)]; exact ⟨rfl, rfl⟩))
    (fun os started H enc _ => lifted os started H enc)
#print axioms proved
end Go.Proofs.Ytilbefdeanhnpaa.decimalDigits
