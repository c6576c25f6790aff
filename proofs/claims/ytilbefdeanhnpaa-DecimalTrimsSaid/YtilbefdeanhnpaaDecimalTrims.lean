/- DecimalTrims: of whatever decimal (its first 20 numbers made digits, its scale made 0 to 9) the trim one, and the digits ahead of the point and behind it, are the document's; trim, it stays so; no conditions. -/
import Derived.Test.YtilbefdeanhnpaaRows
import Derived.WalkKit
import Derived.ProofKit
import Derived.OpenShut
import Derived.ShutString
import Derived.ChangeOld
import Derived.Below
import Derived.Lib.SmallJoins
import Derived.Test.YtilbefdeanhnpaaInts
import Derived.Test.YtilbefdeanhnpaaUtfM
import Derived.Test.YtilbefdeanhnpaaUtfG
import Derived.Test.YtilbefdeanhnpaaUtfR
import Derived.Test.YtilbefdeanhnpaaDigM
import Derived.Test.YtilbefdeanhnpaaDigL
import Derived.Test.YtilbefdeanhnpaaDigR
import Derived.Test.YtilbefdeanhnpaaDecM
import Derived.Test.YtilbefdeanhnpaaDecR
import Derived.Test.YtilbefdeanhnpaaDecS
import Derived.Test.YtilbefdeanhnpaaDecC
import Derived.Test.YtilbefdeanhnpaaDecF
import Derived.Test.YtilbefdeanhnpaaDecG
import Derived.Test.YtilbefdeanhnpaaDecQ
import Derived.Test.YtilbefdeanhnpaaDecH
import Derived.Test.YtilbefdeanhnpaaDecI
import Derived.Test.YtilbefdeanhnpaaDecJ
import Derived.Test.YtilbefdeanhnpaaDecK
import Derived.Test.YtilbefdeanhnpaaDecO
import Derived.Test.YtilbefdeanhnpaaDecZ
set_option linter.unusedVariables false
set_option linter.unusedSimpArgs false
namespace Go.Proofs.Ytilbefdeanhnpaa.decimalTrims
open Go.ChangeShapes Go.WideShapes Go.ChangeAt Go.RowKit
open Go.ChangeMaps (open_string shut_string)

theorem own : ownKnob Try.prog.godebug = none := by kernel_rfl
theorem laidOut : laidOutB Try.prog = true := by kernel_rfl


set_option maxHeartbeats 4000000 in
set_option maxRecDepth 100000 in
theorem walk (w : World) (g0 : Bool) (v0 : Value) (xs0 : List Int) (w0 : Lst w v0 xs0) (b0 : ∀ n ∈ xs0, -9223372036854775808 ≤ n ∧ n ≤ 9223372036854775807) (s0 : Int) (ws0 : -9223372036854775808 ≤ s0 ∧ s0 ≤ 9223372036854775807) :
    Calls Try.prog 5 #[.agg #[.bool g0, v0, .int .i64 s0]] w fun e w' => e = .returned (.bool true) ∧ Q w w' := by
  obtain ⟨A0, C0, rfl, _, _⟩ := w0.shape2
  have hgl0 := Dm.gdL_len xs0 20
  have kX0 := Dm.gdL_ok xs0 20
  have hab0 := Um.around_bd s0 10 (by omega)
  obtain ⟨t0, ht0⟩ : ∃ t : Nat, Um.around s0 10 = (t : Int) := ⟨(Um.around s0 10).toNat, by omega⟩
  rw [ht0] at hab0
  have hs0 : t0 ≤ 9 := by omega
  obtain ⟨p0, hp0⟩ : ∃ p, (Dm.gdL xs0 20).length = p := ⟨_, rfl⟩
  have hpm0 : p0 ≤ 20 := by omega
  have G0 := Lib.hid (fun u (q : Q w u) => Ep.good_sh u g0 A0 xs0.length C0 s0 xs0 20 (w0.q q) rfl ws0 (by omega) b0 t0 p0 ht0 hp0)
  generalize Dm.gdL xs0 20 = X0 at *
  generalize hn0 : xs0.length = n0 at *
  have HP0 := Lib.hid hp0
  clear hgl0 hab0 ht0 hp0
  obtain ⟨M, hM⟩ : ∃ M, M = Dm.num X0 := ⟨_, rfl⟩
  obtain ⟨cs, hcs⟩ : ∃ cs, Dm.cg g0 (Dm.num X0) = cs := ⟨_, rfl⟩
  obtain ⟨Z, hZ⟩ : ∃ Z, Dm.dg (Dm.st (Dm.num X0) t0).1 = Z := ⟨_, rfl⟩
  obtain ⟨zs, hzs⟩ : ∃ zs, (Dm.st (Dm.num X0) t0).2 = zs := ⟨_, rfl⟩
  obtain ⟨r, hr⟩ : ∃ r, Z.length = r := ⟨_, rfl⟩
  have hp0 := HP0.out
  have hzl := Dm.st_le (Dm.num X0) t0
  have hrl : Z.length ≤ 20 := by
    rw [← hZ]
    refine Nat.le_trans (Nat.le_trans (Dm.dg_len_le _ _ ?_) (Dm.dg_len X0 kX0)) (by omega)
    have h1 := Dm.st_num (Dm.num X0) t0
    have h2 : 0 < 10 ^ (t0 - (Dm.st (Dm.num X0) t0).2) := Nat.pow_pos (by omega)
    calc (Dm.st (Dm.num X0) t0).1 = (Dm.st (Dm.num X0) t0).1 * 1 := by rw [Nat.mul_one]
      _ ≤ (Dm.st (Dm.num X0) t0).1 * 10 ^ (t0 - (Dm.st (Dm.num X0) t0).2) := Nat.mul_le_mul_left _ h2
      _ = Dm.num X0 := h1
  have kZ : Dm.okD Z := by rw [← hZ]; exact Dm.okD_dg _
  have nZ : Dm.num Z = (Dm.st (Dm.num X0) t0).1 := by rw [← hZ, Dm.num_dg]
  have e1 : Dm.cg cs (Dm.num Z) = cs := by rw [nZ, Dm.cg_st, ← hcs, Dm.cg_cg]
  have e2 : Dm.dg (Dm.st (Dm.num Z) zs).1 = Z := by rw [nZ, ← hzs, Dm.st_trim, hZ]
  have e3 : (Dm.st (Dm.num Z) zs).2 = zs := by rw [nZ, ← hzs, Dm.st_trim]
  have ecmp : Dm.cmpD cs (Dm.num Z) zs g0 (Dm.num X0) t0 = 0 := by rw [nZ, ← hzs, ← hcs]; exact Ep.cmpD_st g0 (Dm.num X0) t0
  have PT := Lib.hid (fun u a c (h : Lst u (.slice a p0 c) X0) => Ep.ptrim_sh u g0 a p0 c t0 X0 h (by omega) kX0 (by omega) cs Z r zs hcs hZ hzs hr)
  have RT := Lib.hid (fun u a c (h : Lst u (.slice a p0 c) X0) => Ep.rtrim_sh u g0 a p0 c t0 X0 h (by omega) kX0 (by omega) cs Z r zs hcs hZ hzs hr)
  have PT2 := Lib.hid (fun u a c (h : Lst u (.slice a r c) Z) => Ep.ptrim_sh u cs a r c zs Z h (by omega) kZ (by omega) cs Z r zs e1 e2 e3 hr)
  have CP := Lib.hid (fun u a c b d (h1 : Lst u (.slice a r c) Z) (h2 : Lst u (.slice b p0 d) X0) => (by
    have e := Ep.compare_any cs g0 _ _ zs t0 Z X0 u h1 h2 (by omega) (by omega) kZ kX0 (by omega) (by omega)
    rw [ecmp] at e
    exact e : Calls Try.prog 30 #[.agg #[.bool cs, .slice a r c, .int .i64 zs], .agg #[.bool g0, .slice b p0 d, .int .i64 t0]] u fun e w' => e = .returned (.int .i64 0) ∧ Q u w'))
  have SM := Lib.hid (fun u a c b d (h1 : Lst u (.slice a r c) Z) (h2 : Lst u (.slice b r d) Z) => Ep.same_sh u cs a b r c d (zs : Int) Z h1 h2 (by omega))
  obtain ⟨PX, hPX⟩ : ∃ PX, Dm.dg (Dm.num ((List.replicate (t0 - X0.length) 0 ++ X0).take (X0.length - t0))) = PX := ⟨_, rfl⟩
  obtain ⟨PY, hPY⟩ : ∃ PY, (List.replicate (t0 - X0.length) (0 : Int) ++ X0).drop (X0.length - t0) = PY := ⟨_, rfl⟩
  have hly : PY.length = t0 := by rw [← hPY, List.length_drop, List.length_append, List.length_replicate]; omega
  have hlx : PX.length < 1000 := by
    rw [← hPX]
    have h1 : Dm.okD ((List.replicate (t0 - X0.length) (0 : Int) ++ X0).take (X0.length - t0)) := Dm.okD_take (Dm.okD_append.2 ⟨fun d hd => by have := List.eq_of_mem_replicate hd; omega, kX0⟩) _
    have := Dm.dg_len _ h1
    rw [List.length_take] at this
    omega
  have PP := Lib.hid (fun u a c (h : Lst u (.slice a p0 c) X0) => (by
    have e := Ep.parts_any g0 _ t0 X0 u h (by omega) kX0 (by omega)
    rw [hPX, hPY] at e
    refine e.mono ?_
    rintro e w' ⟨x, y, rfl, h1, h2, hq⟩
    obtain ⟨ya, yc, rfl⟩ := h2.shape
    rw [hly] at h2 ⊢
    exact ⟨x, ya, yc, rfl, h1, h2, hq⟩ : Calls Try.prog 27 #[.agg #[.bool g0, .slice a p0 c, .int .i64 t0]] u fun e w' => ∃ x ya yc, e = .returned (.tuple #[x, .slice ya t0 yc]) ∧ Lst w' x PX ∧ Lst w' (.slice ya t0 yc) PY ∧ Q u w'))
  have RP := Lib.hid (fun u a c (h : Lst u (.slice a p0 c) X0) => (by
    have e := Er.parts_any g0 _ t0 X0 u h (by omega) kX0 (by omega)
    rw [hPX, hPY] at e
    refine e.mono ?_
    rintro e w' ⟨x, y, rfl, h1, h2, hq⟩
    exact ⟨x, y, rfl, h1, h2, hq⟩ : Calls Try.prog 28 #[.agg #[.bool g0, .slice a p0 c, .int .i64 t0]] u fun e w' => ∃ x y, e = .returned (.tuple #[x, y]) ∧ Lst w' x PX ∧ Lst w' y PY ∧ Q u w'))
  have S1 := Lib.hid (fun u x y (h1 : Lst u x PX) (h2 : Lst u y PX) => (by
    have e := Ur.same_any x y PX PX u h1 h2 (by omega) (by omega)
    simp only [decide_true] at e
    exact e : Calls Try.prog 31 #[x, y] u fun e w' => e = .returned (.bool true) ∧ Q u w'))
  have S2 := Lib.hid (fun u x y (h1 : Lst u x PY) (h2 : Lst u y PY) => (by
    have e := Ur.same_any x y PY PY u h1 h2 (by omega) (by omega)
    simp only [decide_true] at e
    exact e : Calls Try.prog 31 #[x, y] u fun e w' => e = .returned (.bool true) ∧ Q u w'))
  have LV := Lib.hid Ep.lives_any
  clear hM hcs hZ hzs hr hp0 hzl hrl nZ e1 e2 e3 ecmp hPX hPY hly hlx kZ kX0 w0 b0 hn0
  go_enter Try.func5, Try.ntmps5
  have Q0 := Lib.hid (show Q w (w.alloc (.cells #[.bool g0, .slice A0 n0 C0, .int .i64 s0] 24)) from ((Q.refl w).alloc (.cells #[.bool g0, .slice A0 n0 C0, .int .i64 s0] 24)))
  have B0_i := Lib.hid (show (w.alloc (.cells #[.bool g0, .slice A0 n0 C0, .int .i64 s0] 24)).heap[w.heap.size]? = some (.cells #[.bool g0, .slice A0 n0 C0, .int .i64 s0] 24) from by exact heap_alloc_new _ _)
  obtain ⟨k_i0, k_i1, k_i2, _, _, _⟩ := Er.block_cells B0_i.out
  go_wp2_with fail
  refine (G0.out _ Q0.out).mono ?_
  rintro e z1 ⟨a1, c1, rfl, hx, hq⟩
  clear k_i0 k_i1 k_i2
  have B1_i := Lib.hid ((Q.block hq (lt_of_block B0_i.out)).trans B0_i.out)
  clear B0_i
  have Q1 := Lib.hid (Q.trans Q0.out hq)
  clear Q0
  have L1_X := Lib.hid hx
  clear hx
  clear hq
  have hq := (Q.refl z1).alloc (.cells #[.bool g0, .slice a1 p0 c1, .int .i64 t0] 24)
  have hb := heap_alloc_new z1 (.cells #[.bool g0, .slice a1 p0 c1, .int .i64 t0] 24)
  have L2_X := Lib.hid (Lst.q L1_X.out hq)
  clear L1_X
  have B2_i := Lib.hid ((Q.block hq (lt_of_block B1_i.out)).trans B1_i.out)
  clear B1_i
  have Q2 := Lib.hid (Q.trans Q1.out hq)
  clear Q1
  have B2_o := Lib.hid hb
  clear hb hq
  obtain ⟨k_i0, k_i1, k_i2, _, _, _⟩ := Er.block_cells B2_i.out
  obtain ⟨k_o0, k_o1, k_o2, _, _, _⟩ := Er.block_cells B2_o.out
  go_wp2_with fail
  refine (Ep.of_sh _ _ _ _ _ _).mono ?_
  rintro e z3 ⟨rfl, hq⟩
  clear k_i0 k_i1 k_i2 k_o0 k_o1 k_o2
  have L3_X := Lib.hid (Lst.q L2_X.out hq)
  clear L2_X
  have B3_i := Lib.hid ((Q.block hq (lt_of_block B2_i.out)).trans B2_i.out)
  clear B2_i
  have B3_o := Lib.hid ((Q.block hq (lt_of_block B2_o.out)).trans B2_o.out)
  clear B2_o
  have Q3 := Lib.hid (Q.trans Q2.out hq)
  clear Q2
  clear hq
  obtain ⟨k_i0, k_i1, k_i2, _, _, _⟩ := Er.block_cells B3_i.out
  obtain ⟨k_o0, k_o1, k_o2, _, _, _⟩ := Er.block_cells B3_o.out
  go_wp2_with fail
  refine (PT.out _ _ _ L3_X.out).mono ?_
  rintro e z4 ⟨a2, c2, rfl, hx, hq⟩
  clear k_i0 k_i1 k_i2 k_o0 k_o1 k_o2
  have L4_X := Lib.hid (Lst.q L3_X.out hq)
  clear L3_X
  have B4_i := Lib.hid ((Q.block hq (lt_of_block B3_i.out)).trans B3_i.out)
  clear B3_i
  have B4_o := Lib.hid ((Q.block hq (lt_of_block B3_o.out)).trans B3_o.out)
  clear B3_o
  have Q4 := Lib.hid (Q.trans Q3.out hq)
  clear Q3
  have L4_T := Lib.hid hx
  clear hx
  clear hq
  have hq := (Q.refl z4).alloc (.cells #[.bool cs, .slice a2 r c2, .int .i64 zs] 32)
  have hb := heap_alloc_new z4 (.cells #[.bool cs, .slice a2 r c2, .int .i64 zs] 32)
  have L5_X := Lib.hid (Lst.q L4_X.out hq)
  clear L4_X
  have L5_T := Lib.hid (Lst.q L4_T.out hq)
  clear L4_T
  have B5_i := Lib.hid ((Q.block hq (lt_of_block B4_i.out)).trans B4_i.out)
  clear B4_i
  have B5_o := Lib.hid ((Q.block hq (lt_of_block B4_o.out)).trans B4_o.out)
  clear B4_o
  have Q5 := Lib.hid (Q.trans Q4.out hq)
  clear Q4
  have B5_t := Lib.hid hb
  clear hb hq
  obtain ⟨k_i0, k_i1, k_i2, _, _, _⟩ := Er.block_cells B5_i.out
  obtain ⟨k_o0, k_o1, k_o2, _, _, _⟩ := Er.block_cells B5_o.out
  obtain ⟨k_t0, k_t1, k_t2, _, _, _⟩ := Er.block_cells B5_t.out
  go_wp2_with fail
  refine (Ep.of_sh _ _ _ _ _ _).mono ?_
  rintro e z6 ⟨rfl, hq⟩
  clear k_i0 k_i1 k_i2 k_o0 k_o1 k_o2 k_t0 k_t1 k_t2
  have L6_X := Lib.hid (Lst.q L5_X.out hq)
  clear L5_X
  have L6_T := Lib.hid (Lst.q L5_T.out hq)
  clear L5_T
  have B6_i := Lib.hid ((Q.block hq (lt_of_block B5_i.out)).trans B5_i.out)
  clear B5_i
  have B6_o := Lib.hid ((Q.block hq (lt_of_block B5_o.out)).trans B5_o.out)
  clear B5_o
  have B6_t := Lib.hid ((Q.block hq (lt_of_block B5_t.out)).trans B5_t.out)
  clear B5_t
  have Q6 := Lib.hid (Q.trans Q5.out hq)
  clear Q5
  clear hq
  obtain ⟨k_i0, k_i1, k_i2, _, _, _⟩ := Er.block_cells B6_i.out
  obtain ⟨k_o0, k_o1, k_o2, _, _, _⟩ := Er.block_cells B6_o.out
  obtain ⟨k_t0, k_t1, k_t2, _, _, _⟩ := Er.block_cells B6_t.out
  go_wp2_with fail
  refine (PP.out _ _ _ L6_X.out).mono ?_
  rintro e z7 ⟨x1, y1, d1, rfl, hx, hy, hq⟩
  clear k_i0 k_i1 k_i2 k_o0 k_o1 k_o2 k_t0 k_t1 k_t2
  have L7_X := Lib.hid (Lst.q L6_X.out hq)
  clear L6_X
  have L7_T := Lib.hid (Lst.q L6_T.out hq)
  clear L6_T
  have B7_i := Lib.hid ((Q.block hq (lt_of_block B6_i.out)).trans B6_i.out)
  clear B6_i
  have B7_o := Lib.hid ((Q.block hq (lt_of_block B6_o.out)).trans B6_o.out)
  clear B6_o
  have B7_t := Lib.hid ((Q.block hq (lt_of_block B6_t.out)).trans B6_t.out)
  clear B6_t
  have Q7 := Lib.hid (Q.trans Q6.out hq)
  clear Q6
  have L7_A := Lib.hid hx
  clear hx
  have L7_Bb := Lib.hid hy
  clear hy
  clear hq
  obtain ⟨k_i0, k_i1, k_i2, _, _, _⟩ := Er.block_cells B7_i.out
  obtain ⟨k_o0, k_o1, k_o2, _, _, _⟩ := Er.block_cells B7_o.out
  obtain ⟨k_t0, k_t1, k_t2, _, _, _⟩ := Er.block_cells B7_t.out
  go_wp2_with fail
  refine (RP.out _ _ _ L7_X.out).mono ?_
  rintro e z8 ⟨x2, y2, rfl, hx, hy, hq⟩
  clear k_i0 k_i1 k_i2 k_o0 k_o1 k_o2 k_t0 k_t1 k_t2
  have L8_X := Lib.hid (Lst.q L7_X.out hq)
  clear L7_X
  have L8_T := Lib.hid (Lst.q L7_T.out hq)
  clear L7_T
  have L8_A := Lib.hid (Lst.q L7_A.out hq)
  clear L7_A
  have L8_Bb := Lib.hid (Lst.q L7_Bb.out hq)
  clear L7_Bb
  have B8_i := Lib.hid ((Q.block hq (lt_of_block B7_i.out)).trans B7_i.out)
  clear B7_i
  have B8_o := Lib.hid ((Q.block hq (lt_of_block B7_o.out)).trans B7_o.out)
  clear B7_o
  have B8_t := Lib.hid ((Q.block hq (lt_of_block B7_t.out)).trans B7_t.out)
  clear B7_t
  have Q8 := Lib.hid (Q.trans Q7.out hq)
  clear Q7
  have L8_RA := Lib.hid hx
  clear hx
  have L8_RB := Lib.hid hy
  clear hy
  clear hq
  obtain ⟨k_i0, k_i1, k_i2, _, _, _⟩ := Er.block_cells B8_i.out
  obtain ⟨k_o0, k_o1, k_o2, _, _, _⟩ := Er.block_cells B8_o.out
  obtain ⟨k_t0, k_t1, k_t2, _, _, _⟩ := Er.block_cells B8_t.out
  go_wp2_with fail
  have SQ := Lib.hid (fun u u' (k : Ep.SB2 (z8) (z4.heap.size) cs (.slice a2 r c2) zs (z1.heap.size) g0 (.slice a1 p0 c1) t0 u) (q : Q u u') => (Ep.SB2.of B8_t.out B8_o.out (k.here.trans q) : Ep.SB2 (z8) (z4.heap.size) cs (.slice a2 r c2) zs (z1.heap.size) g0 (.slice a1 p0 c1) t0 u'))
  have KA := Lib.hid (fun u g a n c s (k : Ep.SB2 (z8) (z4.heap.size) cs (.slice a2 r c2) zs (z1.heap.size) g0 (.slice a1 p0 c1) t0 u) => (by
    refine (Ep.as_sh u g a n c s).mono ?_
    rintro e w' ⟨rfl, hq⟩
    exact ⟨rfl, SQ.out _ _ k hq, fun v zs hl => hl.q hq⟩ : Calls Try.prog 19 #[.agg #[.bool g, .slice a n c, .int .i64 s]] u fun e w' => e = .returned (.agg #[.bool g, .slice a n c, .int .i64 s]) ∧ Ep.SB2 (z8) (z4.heap.size) cs (.slice a2 r c2) zs (z1.heap.size) g0 (.slice a1 p0 c1) t0 w' ∧ ∀ v zs, Lst u v zs → Lst w' v zs))
  have KO := Lib.hid (fun u g a n c s (k : Ep.SB2 (z8) (z4.heap.size) cs (.slice a2 r c2) zs (z1.heap.size) g0 (.slice a1 p0 c1) t0 u) => (by
    refine (Ep.of_sh u g a n c s).mono ?_
    rintro e w' ⟨rfl, hq⟩
    exact ⟨rfl, SQ.out _ _ k hq, fun v zs hl => hl.q hq⟩ : Calls Try.prog 22 #[.agg #[.bool g, .slice a n c, .int .i64 s]] u fun e w' => e = .returned (.agg #[.bool g, .slice a n c, .int .i64 s]) ∧ Ep.SB2 (z8) (z4.heap.size) cs (.slice a2 r c2) zs (z1.heap.size) g0 (.slice a1 p0 c1) t0 w' ∧ ∀ v zs, Lst u v zs → Lst w' v zs))
  have KR := Lib.hid (fun u  (k : Ep.SB2 (z8) (z4.heap.size) cs (.slice a2 r c2) zs (z1.heap.size) g0 (.slice a1 p0 c1) t0 u) => (by
    refine (RT.out u a1 c1 (L8_X.out.q k.here)).mono ?_
    rintro e w' ⟨a, c, rfl, hx, hq⟩
    exact ⟨a, c, rfl, hx, SQ.out _ _ k hq, fun v zs hl => hl.q hq⟩ : Calls Try.prog 29 #[.agg #[.bool g0, .slice a1 p0 c1, .int .i64 t0]] u fun e w' => ∃ a c, e = .returned (.agg #[.bool cs, .slice a r c, .int .i64 zs]) ∧ Lst w' (.slice a r c) Z ∧ Ep.SB2 (z8) (z4.heap.size) cs (.slice a2 r c2) zs (z1.heap.size) g0 (.slice a1 p0 c1) t0 w' ∧ ∀ v zs, Lst u v zs → Lst w' v zs))
  have KP := Lib.hid (fun u  (k : Ep.SB2 (z8) (z4.heap.size) cs (.slice a2 r c2) zs (z1.heap.size) g0 (.slice a1 p0 c1) t0 u) => (by
    refine (PT2.out u a2 c2 (L8_T.out.q k.here)).mono ?_
    rintro e w' ⟨a, c, rfl, hx, hq⟩
    exact ⟨a, c, rfl, hx, SQ.out _ _ k hq, fun v zs hl => hl.q hq⟩ : Calls Try.prog 26 #[.agg #[.bool cs, .slice a2 r c2, .int .i64 zs]] u fun e w' => ∃ a c, e = .returned (.agg #[.bool cs, .slice a r c, .int .i64 zs]) ∧ Lst w' (.slice a r c) Z ∧ Ep.SB2 (z8) (z4.heap.size) cs (.slice a2 r c2) zs (z1.heap.size) g0 (.slice a1 p0 c1) t0 w' ∧ ∀ v zs, Lst u v zs → Lst w' v zs))
  have KS := Lib.hid (fun u a c b d (h1 : Lst u (.slice a r c) Z) (h2 : Lst u (.slice b r d) Z) (k : Ep.SB2 (z8) (z4.heap.size) cs (.slice a2 r c2) zs (z1.heap.size) g0 (.slice a1 p0 c1) t0 u) => (by
    refine (SM.out u a c b d h1 h2).mono ?_
    rintro e w' ⟨rfl, hq⟩
    exact ⟨rfl, SQ.out _ _ k hq, fun v zs hl => hl.q hq⟩ : Calls Try.prog 18 #[.agg #[.bool cs, .slice a r c, .int .i64 zs], .agg #[.bool cs, .slice b r d, .int .i64 zs]] u fun e w' => e = .returned (.bool true) ∧ Ep.SB2 (z8) (z4.heap.size) cs (.slice a2 r c2) zs (z1.heap.size) g0 (.slice a1 p0 c1) t0 w' ∧ ∀ v zs, Lst u v zs → Lst w' v zs))
  have KC := Lib.hid (fun u  (k : Ep.SB2 (z8) (z4.heap.size) cs (.slice a2 r c2) zs (z1.heap.size) g0 (.slice a1 p0 c1) t0 u) => (by
    refine (CP.out u a2 c2 a1 c1 (L8_T.out.q k.here) (L8_X.out.q k.here)).mono ?_
    rintro e w' ⟨rfl, hq⟩
    exact ⟨rfl, SQ.out _ _ k hq, fun v zs hl => hl.q hq⟩ : Calls Try.prog 30 #[.agg #[.bool cs, .slice a2 r c2, .int .i64 zs], .agg #[.bool g0, .slice a1 p0 c1, .int .i64 t0]] u fun e w' => e = .returned (.int .i64 0) ∧ Ep.SB2 (z8) (z4.heap.size) cs (.slice a2 r c2) zs (z1.heap.size) g0 (.slice a1 p0 c1) t0 w' ∧ ∀ v zs, Lst u v zs → Lst w' v zs))
  have K1 := Lib.hid (fun u  (k : Ep.SB2 (z8) (z4.heap.size) cs (.slice a2 r c2) zs (z1.heap.size) g0 (.slice a1 p0 c1) t0 u) => (by
    refine (S1.out u x1 x2 (L8_A.out.q k.here) (L8_RA.out.q k.here)).mono ?_
    rintro e w' ⟨rfl, hq⟩
    exact ⟨rfl, SQ.out _ _ k hq, fun v zs hl => hl.q hq⟩ : Calls Try.prog 31 #[x1, x2] u fun e w' => e = .returned (.bool true) ∧ Ep.SB2 (z8) (z4.heap.size) cs (.slice a2 r c2) zs (z1.heap.size) g0 (.slice a1 p0 c1) t0 w' ∧ ∀ v zs, Lst u v zs → Lst w' v zs))
  have K2 := Lib.hid (fun u  (k : Ep.SB2 (z8) (z4.heap.size) cs (.slice a2 r c2) zs (z1.heap.size) g0 (.slice a1 p0 c1) t0 u) => (by
    refine (S2.out u (.slice y1 t0 d1) y2 (L8_Bb.out.q k.here) (L8_RB.out.q k.here)).mono ?_
    rintro e w' ⟨rfl, hq⟩
    exact ⟨rfl, SQ.out _ _ k hq, fun v zs hl => hl.q hq⟩ : Calls Try.prog 31 #[.slice y1 t0 d1, y2] u fun e w' => e = .returned (.bool true) ∧ Ep.SB2 (z8) (z4.heap.size) cs (.slice a2 r c2) zs (z1.heap.size) g0 (.slice a1 p0 c1) t0 w' ∧ ∀ v zs, Lst u v zs → Lst w' v zs))
  have KL := Lib.hid (fun u  (k : Ep.SB2 (z8) (z4.heap.size) cs (.slice a2 r c2) zs (z1.heap.size) g0 (.slice a1 p0 c1) t0 u) => (by
    refine (LV.out u).mono ?_
    rintro e w' ⟨rfl, hq⟩
    exact ⟨rfl, SQ.out _ _ k hq, fun v zs hl => hl.q hq⟩ : Calls Try.prog 13 #[] u fun e w' => e = .returned (.bool true) ∧ Ep.SB2 (z8) (z4.heap.size) cs (.slice a2 r c2) zs (z1.heap.size) g0 (.slice a1 p0 c1) t0 w' ∧ ∀ v zs, Lst u v zs → Lst w' v zs))
  have LT0 := Lib.hid (fun u (k : Ep.SB2 (z8) (z4.heap.size) cs (.slice a2 r c2) zs (z1.heap.size) g0 (.slice a1 p0 c1) t0 u) => L8_T.out.q k.here)
  have hst0 := Ep.SB2.of B8_t.out B8_o.out (Q.refl _)
  have hst := Ep.SB2.of B8_t.out B8_o.out ((Q.refl z8).drew)
  unfold Ep.SB2 at hst hst0
  go_region_held3 (fun u => u.cell? ⟨z4.heap.size, 0, none⟩ = some (.bool cs) ∧ (u.cell? ⟨z4.heap.size, 1, none⟩ = some (.slice a2 r c2) ∧ (u.cell? ⟨z4.heap.size, 2, none⟩ = some (.int .i64 zs) ∧ (u.cell? ⟨z1.heap.size, 0, none⟩ = some (.bool g0) ∧ (u.cell? ⟨z1.heap.size, 1, none⟩ = some (.slice a1 p0 c1) ∧ (u.cell? ⟨z1.heap.size, 2, none⟩ = some (.int .i64 t0) ∧ (Q z8 u))))))) (first | exact hst | exact hst0 | assumption) (first | ((go_at_call 19); refine (KA.out _ _ _ _ _ _ ?_).mono ?_; assumption; rintro e y ⟨rfl, hS, hcar⟩; unfold Ep.SB2 at hS; try (have hN1 := hcar _ _ hN1); try (have hN2 := hcar _ _ hN2)) | ((go_at_call 22); refine (KO.out _ _ _ _ _ _ ?_).mono ?_; assumption; rintro e y ⟨rfl, hS, hcar⟩; unfold Ep.SB2 at hS; try (have hN1 := hcar _ _ hN1); try (have hN2 := hcar _ _ hN2)) | ((go_at_call 29); refine (KR.out _ ?_).mono ?_; assumption; rintro e y ⟨a3, c3, rfl, hN1, hS, hcar⟩; unfold Ep.SB2 at hS; try (have hN1 := hcar _ _ hN1); try (have hN2 := hcar _ _ hN2)) | ((go_at_call 26); refine (KP.out _ ?_).mono ?_; assumption; rintro e y ⟨a4, c4, rfl, hN2, hS, hcar⟩; unfold Ep.SB2 at hS; try (have hN1 := hcar _ _ hN1); try (have hN2 := hcar _ _ hN2)) | ((go_at_call 18); refine (KS.out _ _ _ _ _ ?_ ?_ ?_).mono ?_; (first | assumption | exact LT0.out _ (by assumption)); (first | assumption | exact LT0.out _ (by assumption)); assumption; rintro e y ⟨rfl, hS, hcar⟩; unfold Ep.SB2 at hS; try (have hN1 := hcar _ _ hN1); try (have hN2 := hcar _ _ hN2)) | ((go_at_call 30); refine (KC.out _ ?_).mono ?_; assumption; rintro e y ⟨rfl, hS, hcar⟩; unfold Ep.SB2 at hS; try (have hN1 := hcar _ _ hN1); try (have hN2 := hcar _ _ hN2)) | ((go_at_call_of 31 (x1)); refine (K1.out _ ?_).mono ?_; assumption; rintro e y ⟨rfl, hS, hcar⟩; unfold Ep.SB2 at hS; try (have hN1 := hcar _ _ hN1); try (have hN2 := hcar _ _ hN2)) | ((go_at_call_of 31 (Value.slice y1 t0 d1)); refine (K2.out _ ?_).mono ?_; assumption; rintro e y ⟨rfl, hS, hcar⟩; unfold Ep.SB2 at hS; try (have hN1 := hcar _ _ hN1); try (have hN2 := hcar _ _ hN2)) | ((go_at_call 13); refine (KL.out _ ?_).mono ?_; assumption; rintro e y ⟨rfl, hS, hcar⟩; unfold Ep.SB2 at hS; try (have hN1 := hcar _ _ hN1); try (have hN2 := hcar _ _ hN2)))
  have HQE := Lib.hid (Q8.out.trans (show Ep.SB2 (z8) (z4.heap.size) cs (.slice a2 r c2) zs (z1.heap.size) g0 (.slice a1 p0 c1) t0 _ from hS).here)
  clear hst hst0 hS hcar
  go_wp2_with fail
  go_ret
  exact ⟨rfl, HQE.out⟩

set_option maxRecDepth 100000 in
theorem lifted (os : Os) (started : os.Started) (H : Type) (enc : TypeId × Value → H) :
    ReturnsInHanded {} Try.checked os 5 .any (Rows.decimalTrimsSpec.pre6 enc Try.prog Try.f5 Rows.decimalTrimsRow.domain false) (Rows.decimalTrimsSpec.post enc Try.prog Try.f5 false true false false) := by
  refine returnsInHanded_of_change (C := Try.checked) own started (by kernel_rfl) Try.func5
    (ChangeSpec.witness6 (enc := enc) (C := Try.checked) false ⟨#[], #[.agg #[.bool false, .slice none 0 0, .int .i64 0]], []⟩ 8 (by kernel_rfl) (by kernel_rfl) (by kernel_rfl) (by kernel_rfl)) ?_
  intro W base args ds gs before hval0 hW hcnd _
  have hval : ∀ (j : Nat) t v, Try.f5.params[j]? = some t → args[j]? = some v → Value.okWide Try.prog W .any base t v := hval0
  have hW' := hW
  obtain ⟨p, q, hA0, hV, rfl, hfz, hnd⟩ := hW
  have hA : DataW.TrodAll enc Try.prog W 0 (fun _ => true) true Try.f5.params.toList args.toList ds p := hA0
  rw [Try.params5] at hA hval
  obtain ⟨v0, vs0, d0, ds0, p0, q0, hargs, rfl, rfl, h0, r0⟩ := trodAll_cons hA
  obtain ⟨rfl, rfl, rfl⟩ := trodAll_nil r0
  obtain rfl : args = #[v0] := by cases args; simp_all
  obtain ⟨rfl, rfl⟩ := trodVars_none hV
  have k0 := h0
  have lt0 : ∀ x ∈ p0, x.block < W.heap.size := by obtain ⟨m, hm⟩ := k0; exact DataW.trod_lt m _ _ _ hm
  obtain ⟨c00, c01, c02, y00, y01, y02, m0, rfl, _, _, hy00, hy01, hy02⟩ := Joins.open_agg3 Try.underlying24 (by kernel_rfl) (by kernel_rfl) (hval 0 24 v0 rfl rfl) h0
  obtain ⟨g0, rfl⟩ : ∃ b, c00 = .bool b := by
    obtain ⟨b, h, _⟩ := DataW.trod_bool Try.underlying4 hy00
    exact ⟨b, by simpa using h⟩
  obtain ⟨s0, rfl, ws0⟩ : ∃ n, c02 = .int .i64 n ∧ (Lit.int .i64 n).wf = true := by
    obtain ⟨n, h, _, hw⟩ := DataW.trod_int Try.underlying3 hy02
    exact ⟨n, by simpa using h, hw⟩
  obtain ⟨a0, len0, cap0, z0, rfl, w0⟩ : ∃ a len cap zs, c01 = .slice a len cap ∧ IsRow .i64 W a len cap zs := by
    rcases open_ints Try.underlying22 Try.underlying3 (by kernel_rfl) hy01 with ⟨hcs, _⟩ | ⟨x, l, c, zs, hcs, _, hl, hm, hz, _, hcell, hwz⟩
    · exact ⟨none, 0, 0, [], by simpa using hcs, .inl ⟨rfl, rfl, rfl, rfl⟩⟩
    · exact ⟨some x, l, c, zs, by simpa using hcs, .inr ⟨_, rfl, hl, hm, by simpa using hz, hcell, hwz⟩⟩
  obtain ⟨xs0, l0, _, b0⟩ := w0.lst
  clear hA0 hval0
  refine (walk W g0 (.slice a0 len0 cap0) xs0 l0 b0 s0 (bounds_i64 ws0)).mono fun e W' ⟨he, bel⟩ => ?_
  subst he
  exact ⟨_, rfl, _, _, _, [], _, [], hW', trodAll_mk1 (shut_bool Try.underlying4 _), (trodAll_cons_mk (Below.trod laidOut (by kernel_rfl) (of_decide_eq_true (by kernel_rfl)) k0 bel lt0) trodAll_mk0), rfl, bel.below.frame _, fun h => by cases h⟩

/-- The statement. -/
theorem proved : Rows.DecimalTrimsSaid :=
  OpenClaim.holds_of_wide 5 Try.f5 rfl rfl rfl rfl rfl rfl rfl ⟨rfl, rfl, rfl, rfl, rfl⟩ rfl rfl rfl rfl rfl (by kernel_rfl) Try.func5 (by kernel_rfl)
    (of_decide_eq_true (by kernel_rfl)) (by unfold Func.isWrapper; first | (rw [if_pos (by decide +kernel)]; kernel_rfl) | (rw [if_neg (by decide +kernel)]; exact ⟨rfl, rfl⟩))
    (fun os started H enc _ => lifted os started H enc)
#print axioms proved
end Go.Proofs.Ytilbefdeanhnpaa.decimalTrims
