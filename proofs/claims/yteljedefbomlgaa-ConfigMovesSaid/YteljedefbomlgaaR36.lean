/- The document's own rounding: what it refuses, and what is exact. (and more) -/
import Derived.Test.YteljedefbomlgaaR00
import Derived.Test.YteljedefbomlgaaR12
import Derived.Test.YteljedefbomlgaaR17
import Derived.Test.YteljedefbomlgaaR01
import Derived.Test.YteljedefbomlgaaR08
import Derived.Test.YteljedefbomlgaaR10
import Derived.Test.YteljedefbomlgaaR06
import Derived.Test.YteljedefbomlgaaR03
import Derived.Test.YteljedefbomlgaaR05
import Derived.Test.YteljedefbomlgaaR18
import Derived.Test.YteljedefbomlgaaR26
import Derived.Test.YteljedefbomlgaaR28
import Derived.Test.YteljedefbomlgaaRows
import Derived.Test.YteljedefbomlgaaR14
import Derived.Test.YteljedefbomlgaaR25
import Derived.Test.YteljedefbomlgaaR23
import Derived.Deep.CutRange
import Derived.Deep.CutBlock
import Derived.Deep.DeepCutAuto
import Derived.Deep.QuietTactic
import Derived.Deep.RegionWith
import Derived.Deep.RegionHeld3
import Derived.BigQuiet
import Derived.Laws.ResultCell
set_option linter.unusedVariables false
set_option linter.unusedSimpArgs false
namespace Go.Proofs.Yteljedefbomlgaa
open Go.RowKit
namespace Rr
open Er (dv cellV LF LF.of LF.nil LF.mono LF.q LF.put LF.shape LF.lst block_cells some_cells block_set wrapI SD SD.q SD.put SD.start SA SA.start SA.q SA.put ret_dv ret_dv2 trim_sh)
set_option maxHeartbeats 3200000 in
theorem to_bad (g : Bool) (v : Value) (s k m : Int) (L : List Int) (w : World) (hv : Lst w v L) (hl : L.length < 10000) (hs : -9223372036854775808 ≤ s ∧ s ≤ 9223372036854775807) (hb : (Dm.okB L && decide (0 ≤ s) && decide (s ≤ 1000)) = false ∨ m < 0 ∨ 6 < m) :
    Calls Try.prog 40 #[dv g v s, .int .i64 k, .int .i64 m] w fun e w' => e = .returned (.tuple #[dv false (.slice none 0 0) 0, .int .i64 1]) ∧ Q w w' := by
  obtain ⟨a0, c0, rfl⟩ := hv.shape
  have M0 := Lib.hid (fun u (q : Q w u) => Er.may_any g (.slice a0 L.length c0) s L u (hv.q q) (by omega) hs)
  unfold dv at M0
  generalize (Dm.okB L && decide (0 ≤ s) && decide (s ≤ 1000)) = m0 at *
  generalize L.length = l at *
  have hcase : m0 = false ∨ (m0 = true ∧ m < 0) ∨ (m0 = true ∧ ¬ m < 0 ∧ 6 < m) := by
    cases m0
    · exact .inl rfl
    · rcases hb with h | h | h
      · cases h
      · exact .inr (.inl ⟨rfl, h⟩)
      · exact .inr (.inr ⟨rfl, by omega, h⟩)
  clear hv hb
  go_enter Try.func40, Try.ntmps40
  have Q0 := Lib.hid (show Q w ((w.alloc (.cells #[.bool g, .slice a0 l c0, .int .i64 s] 24)).alloc (.cells #[.bool false, .slice none 0 0, .int .i64 0] 24)) from (((Q.refl w).alloc (.cells #[.bool g, .slice a0 l c0, .int .i64 s] 24)).alloc (.cells #[.bool false, .slice none 0 0, .int .i64 0] 24)))
  have B0_d := Lib.hid (show ((w.alloc (.cells #[.bool g, .slice a0 l c0, .int .i64 s] 24)).alloc (.cells #[.bool false, .slice none 0 0, .int .i64 0] 24)).heap[w.heap.size]? = some (.cells #[.bool g, .slice a0 l c0, .int .i64 s] 24) from heap_alloc2_old _ _ _)
  have B0_R := Lib.hid (show ((w.alloc (.cells #[.bool g, .slice a0 l c0, .int .i64 s] 24)).alloc (.cells #[.bool false, .slice none 0 0, .int .i64 0] 24)).heap[w.heap.size + 1]? = some (.cells #[.bool false, .slice none 0 0, .int .i64 0] 24) from heap_alloc2_new _ _ _)
  unfold dv
  obtain ⟨k_d0, k_d1, k_d2, _, _, _⟩ := Er.block_cells B0_d.out
  obtain ⟨k_R0, k_R1, k_R2, _, _, _⟩ := Er.block_cells B0_R.out
  go_wp2_with fail
  refine (M0.out _ Q0.out).mono ?_
  rintro e z1 ⟨rfl, hq⟩
  clear k_d0 k_d1 k_d2 k_R0 k_R1 k_R2
  have B1_d := Lib.hid ((Q.block hq (lt_of_block B0_d.out)).trans B0_d.out)
  clear B0_d
  have B1_R := Lib.hid ((Q.block hq (lt_of_block B0_R.out)).trans B0_R.out)
  clear B0_R
  have Q1 := Lib.hid (Q.trans Q0.out hq)
  clear Q0
  clear hq
  rcases hcase with rfl | ⟨rfl, h1⟩ | ⟨rfl, h1, h2⟩
  all_goals
    have hset := Lib.hid (block_set (x' := .bool false) (y' := .slice none 0 0) (z' := .int .i64 0) B1_R.out)
    have HQE := Lib.hid (Q.setCell (Q.setCell (Q.setCell Q1.out (ad := ⟨w.heap.size + 1, 0, none⟩) (by show w.heap.size ≤ w.heap.size + 1; omega) (.bool false)) (ad := ⟨w.heap.size + 1, 1, none⟩) (by show w.heap.size ≤ w.heap.size + 1; omega) (.slice none 0 0)) (ad := ⟨w.heap.size + 1, 2, none⟩) (by show w.heap.size ≤ w.heap.size + 1; omega) (.int .i64 0))
    obtain ⟨k_d0, k_d1, k_d2, _, _, _⟩ := Er.block_cells B1_d.out
    obtain ⟨k_R0, k_R1, k_R2, _, _, _⟩ := Er.block_cells B1_R.out
    obtain ⟨_, _, _, r3, r4, r5⟩ := block_cells B1_R.out
    go_wp2_with fail
    exact ret_dv2 rfl rfl rfl hset.out rfl ⟨rfl, HQE.out⟩
set_option maxHeartbeats 3200000 in
theorem to_same (g : Bool) (v : Value) (s n : Nat) (m : Int) (L : List Int) (w : World) (hv : Lst w v L) (gl : Bool) (YL : List Int) (hM : TM 24 g s L true) (hN : T0 68 g s n L gl YL n) (hC1 : TC 26 gl n YL g s L 0) (hn : n ≤ 1000) (hm : 0 ≤ m ∧ m ≤ 6) :
    Calls Try.prog 40 #[dv g v s, .int .i64 n, .int .i64 m] w fun e w' => ∃ x, e = .returned (.tuple #[dv gl x n, .int .i64 0]) ∧ LF w' (w.heap.size + 2) x YL ∧ Q w w' := by
  obtain ⟨a0, c0, rfl⟩ := hv.shape
  have HM := Lib.hid hM
  have HN := Lib.hid hN
  have HC1 := Lib.hid hC1
  have HLL := Lib.hid hv
  unfold T0 at HN
  unfold TM at HM
  unfold TC at HC1
  obtain ⟨p, hp⟩ : ∃ p, YL.length = p := ⟨_, rfl⟩
  simp only [hp] at HN
  have HP := Lib.hid hp
  generalize L.length = l at *
  have hm1 : ¬ m < 0 := by omega
  have hm2 : ¬ 6 < m := by omega
  have hm3 : m ≤ 6 := by omega
  have hm4 : 0 ≤ m := by omega
  have hn0 : (0 : Int) ≤ (n : Int) := by omega
  have hn1 : (n : Int) ≤ 1000 := by omega
  have hn2 : ¬ 1000 < (n : Int) := by omega
  clear hM hN hC1 hv hp
  go_enter Try.func40, Try.ntmps40
  have Q0 := Lib.hid (show Q w ((w.alloc (.cells #[.bool g, .slice a0 l c0, .int .i64 s] 24)).alloc (.cells #[.bool false, .slice none 0 0, .int .i64 0] 24)) from (((Q.refl w).alloc (.cells #[.bool g, .slice a0 l c0, .int .i64 s] 24)).alloc (.cells #[.bool false, .slice none 0 0, .int .i64 0] 24)))
  have B0_d := Lib.hid (show ((w.alloc (.cells #[.bool g, .slice a0 l c0, .int .i64 s] 24)).alloc (.cells #[.bool false, .slice none 0 0, .int .i64 0] 24)).heap[w.heap.size]? = some (.cells #[.bool g, .slice a0 l c0, .int .i64 s] 24) from heap_alloc2_old _ _ _)
  have B0_R := Lib.hid (show ((w.alloc (.cells #[.bool g, .slice a0 l c0, .int .i64 s] 24)).alloc (.cells #[.bool false, .slice none 0 0, .int .i64 0] 24)).heap[w.heap.size + 1]? = some (.cells #[.bool false, .slice none 0 0, .int .i64 0] 24) from heap_alloc2_new _ _ _)
  unfold dv
  have LL0 := Lib.hid (HLL.out.q Q0.out)
  obtain ⟨k_d0, k_d1, k_d2, _, _, _⟩ := Er.block_cells B0_d.out
  obtain ⟨k_R0, k_R1, k_R2, _, _, _⟩ := Er.block_cells B0_R.out
  go_wp2_with fail
  refine (HM.out _ _ LL0.out).mono ?_
  rintro e z1 ⟨rfl, hq⟩
  clear k_d0 k_d1 k_d2 k_R0 k_R1 k_R2
  have L1_L := Lib.hid (Lst.q LL0.out hq)
  clear LL0
  have B1_d := Lib.hid ((Q.block hq (lt_of_block B0_d.out)).trans B0_d.out)
  clear B0_d
  have B1_R := Lib.hid ((Q.block hq (lt_of_block B0_R.out)).trans B0_R.out)
  clear B0_R
  have Q1 := Lib.hid (Q.trans Q0.out hq)
  clear Q0
  clear hq
  have hsz := Lib.hid (show w.heap.size + 2 ≤ z1.heap.size from lt_of_block B1_R.out)
  obtain ⟨k_d0, k_d1, k_d2, _, _, _⟩ := Er.block_cells B1_d.out
  obtain ⟨k_R0, k_R1, k_R2, _, _, _⟩ := Er.block_cells B1_R.out
  go_wp2_with fail
  refine (HN.out _ _ L1_L.out).mono ?_
  rintro e z2 ⟨a1, c1x, rfl, hx, hq⟩
  clear k_d0 k_d1 k_d2 k_R0 k_R1 k_R2
  have BDY := Lib.hid (Rr.lf_bd hx hsz.out)
  have L3_L := Lib.hid (Lst.q L1_L.out hq)
  clear L1_L
  have B3_d := Lib.hid ((Q.block hq (lt_of_block B1_d.out)).trans B1_d.out)
  clear B1_d
  have B3_R := Lib.hid ((Q.block hq (lt_of_block B1_R.out)).trans B1_R.out)
  clear B1_R
  have Q3 := Lib.hid (Q.trans Q1.out hq)
  clear Q1
  have LY := Lib.hid hx.lst
  clear hx hq hsz
  have hq := (Q.refl z2).alloc (.cells #[.bool gl, .slice a1 p c1x, .int .i64 n] 24)
  have hb := heap_alloc_new z2 (.cells #[.bool gl, .slice a1 p c1x, .int .i64 n] 24)
  have L4_L := Lib.hid (Lst.q L3_L.out hq)
  clear L3_L
  have L4_Y := Lib.hid (Lst.q LY.out hq)
  clear LY
  have B4_d := Lib.hid ((Q.block hq (lt_of_block B3_d.out)).trans B3_d.out)
  clear B3_d
  have B4_R := Lib.hid ((Q.block hq (lt_of_block B3_R.out)).trans B3_R.out)
  clear B3_R
  have Q4 := Lib.hid (Q.trans Q3.out hq)
  clear Q3
  have B4_lo := Lib.hid hb
  clear hb hq
  obtain ⟨k_d0, k_d1, k_d2, _, _, _⟩ := Er.block_cells B4_d.out
  obtain ⟨k_R0, k_R1, k_R2, _, _, _⟩ := Er.block_cells B4_R.out
  obtain ⟨k_lo0, k_lo1, k_lo2, _, _, _⟩ := Er.block_cells B4_lo.out
  go_wp2_with fail
  refine (HC1.out _ _ _ L4_Y.out L4_L.out).mono ?_
  rintro e z5 ⟨rfl, hq⟩
  clear k_d0 k_d1 k_d2 k_R0 k_R1 k_R2 k_lo0 k_lo1 k_lo2
  have L5_L := Lib.hid (Lst.q L4_L.out hq)
  clear L4_L
  have L5_Y := Lib.hid (Lst.q L4_Y.out hq)
  clear L4_Y
  have B5_d := Lib.hid ((Q.block hq (lt_of_block B4_d.out)).trans B4_d.out)
  clear B4_d
  have B5_R := Lib.hid ((Q.block hq (lt_of_block B4_R.out)).trans B4_R.out)
  clear B4_R
  have B5_lo := Lib.hid ((Q.block hq (lt_of_block B4_lo.out)).trans B4_lo.out)
  clear B4_lo
  have Q5 := Lib.hid (Q.trans Q4.out hq)
  clear Q4
  clear hq
  have hlf := Rr.bd_lf L5_Y.out HP.out BDY.out
  have hset := Lib.hid (block_set (x' := .bool gl) (y' := .slice a1 p c1x) (z' := .int .i64 n) B5_R.out)
  have hlr := Lib.hid (LF.put (r := w.heap.size + 1) hlf (by omega) (.bool gl) (.slice a1 p c1x) (.int .i64 n))
  have HQE := Lib.hid (Q.setCell (Q.setCell (Q.setCell Q5.out (ad := ⟨w.heap.size + 1, 0, none⟩) (by show w.heap.size ≤ w.heap.size + 1; omega) (.bool gl)) (ad := ⟨w.heap.size + 1, 1, none⟩) (by show w.heap.size ≤ w.heap.size + 1; omega) (.slice a1 p c1x)) (ad := ⟨w.heap.size + 1, 2, none⟩) (by show w.heap.size ≤ w.heap.size + 1; omega) (.int .i64 n))
  obtain ⟨k_d0, k_d1, k_d2, _, _, _⟩ := Er.block_cells B5_d.out
  obtain ⟨k_R0, k_R1, k_R2, _, _, _⟩ := Er.block_cells B5_R.out
  obtain ⟨k_lo0, k_lo1, k_lo2, _, _, _⟩ := Er.block_cells B5_lo.out
  obtain ⟨_, _, _, r3, r4, r5⟩ := block_cells B5_R.out
  go_wp2_with fail
  exact ret_dv2 rfl rfl rfl hset.out rfl ⟨_, rfl, hlr.out, HQE.out⟩
end Rr
end Go.Proofs.Yteljedefbomlgaa
namespace Go.Proofs.Yteljedefbomlgaa
open Go.RowKit
namespace Rr
open Er (dv cellV LF LF.of LF.nil LF.mono LF.q LF.put LF.shape LF.lst block_cells some_cells block_set wrapI SD SD.q SD.put SD.start SA SA.start SA.q SA.put ret_dv ret_dv2 trim_sh)
theorem tshut {e : Ending} {u w' : World} {B : Nat} {gr : Bool} {Z : List Int} {sr er : Int} (hB : u.heap.size ≤ B) (h : ∃ x, e = .returned (.tuple #[dv gr x sr, .int .i64 er]) ∧ LF w' B x Z ∧ Q u w') : ∃ a c, e = .returned (.tuple #[.agg #[.bool gr, .slice a Z.length c, .int .i64 sr], .int .i64 er]) ∧ LF w' u.heap.size (.slice a Z.length c) Z ∧ Q u w' := by
  obtain ⟨x, rfl, hx, hq⟩ := h
  obtain ⟨a, c, rfl⟩ := hx.shape
  exact ⟨a, c, rfl, hx.mono hB, hq⟩
theorem may_t (g : Bool) (s : Nat) (L : List Int) (hl : L.length < 10000) (hd : Dm.okD L) (hs : s ≤ 1000) : TM 24 g s L true := by
  intro u v hv
  have e := Er.may_any g v s L u hv (by omega) (by omega)
  rw [(Dm.okB_iff L).2 hd, show decide (0 ≤ (s : Int)) = true from by simp, show decide ((s : Int) ≤ 1000) = true from by simp; omega] at e
  exact e
theorem near_t (g : Bool) (s n : Nat) (L : List Int) (hl : L.length < 10000) (hd : Dm.okD L) (hs : s ≤ 1000) (hn : n ≤ 1000) : T0 68 g s n L (Dm.cg g (Rm.lo (Dm.st (Dm.num L) s).1 (Dm.st (Dm.num L) s).2 n)) (Dm.dg (Rm.lo (Dm.st (Dm.num L) s).1 (Dm.st (Dm.num L) s).2 n)) n := by
  intro u v hv
  refine (near_any g v s n L u hv hl hd hs hn).mono ?_
  rintro e w' ⟨x, rfl, hx, hq⟩
  obtain ⟨a, c, rfl⟩ := hx.shape
  exact ⟨a, c, rfl, hx.mono (by omega), hq⟩
theorem cmp_t (g h : Bool) (s t : Nat) (L N : List Int) (hl : L.length < 10000) (hl2 : N.length < 10000) (hx : Dm.okD L) (hy : Dm.okD N) (hs : s ≤ 1000) (ht : t ≤ 1000) : TC 26 g s L h t N (Dm.cmpD g (Dm.num L) s h (Dm.num N) t) :=
  fun u v x hv hu => Er.compare_any g h v x s t L N u hv hu hl hl2 hx hy hs ht
theorem add_t (g h : Bool) (s t : Nat) (L N : List Int) (hl : L.length < 10000) (hl2 : N.length < 10000) (hx : Dm.okD L) (hy : Dm.okD N) (hs : s ≤ 1000) (ht : t ≤ 1000) : T2 48 g s L h t N (Dm.cg (Dm.adG g (Dm.num L * 10 ^ (max s t - s)) h (Dm.num N * 10 ^ (max s t - t))) (Dm.adM g (Dm.num L * 10 ^ (max s t - s)) h (Dm.num N * 10 ^ (max s t - t)))) (Dm.dg (Dm.st (Dm.adM g (Dm.num L * 10 ^ (max s t - s)) h (Dm.num N * 10 ^ (max s t - t))) (max s t)).1) ((Dm.st (Dm.adM g (Dm.num L * 10 ^ (max s t - s)) h (Dm.num N * 10 ^ (max s t - t))) (max s t)).2 : Nat) 0 :=
  fun u v x hv hu => Calls.mono (Er.add_any g h v x s t L N u hv hu hl hl2 hx hy hs ht) fun _ _ h => tshut (by omega) h
theorem align_t (g : Bool) (s k : Nat) (L : List Int) (hl : L.length < 10000) (hd : Dm.okD L) (hs : s ≤ 1000) (hk : (Dm.st (Dm.num L) s).2 ≤ k) (hk2 : k ≤ 1000) : T1 70 g s k L (Dm.cg g (Dm.num L)) (Dm.dg ((Dm.st (Dm.num L) s).1 * 10 ^ (k - (Dm.st (Dm.num L) s).2))) k 0 :=
  fun u v hv => Calls.mono (Er.align_any g v s k L u hv hl hd hs hk hk2) fun _ _ h => tshut (by omega) h
theorem num_one : Dm.num [1] = 1 := by decide
theorem st_fst_le (M s : Nat) : (Dm.st M s).1 ≤ M := by
  have h1 := Dm.st_num M s
  have h2 : 0 < 10 ^ (s - (Dm.st M s).2) := Nat.pow_pos (by omega)
  calc (Dm.st M s).1 = (Dm.st M s).1 * 1 := by rw [Nat.mul_one]
    _ ≤ (Dm.st M s).1 * 10 ^ (s - (Dm.st M s).2) := Nat.mul_le_mul_left _ h2
    _ = M := h1
theorem to_near (g : Bool) (v : Value) (s n : Nat) (m : Int) (L : List Int) (w : World) (hv : Lst w v L) (hl : L.length < 1900) (hd : Dm.okD L) (hs : s ≤ 1000) (hn : n ≤ 1000) (hm : 0 ≤ m ∧ m ≤ 6) (hlt : n < (Dm.st (Dm.num L) s).2) :
    Calls Try.prog 40 #[dv g v s, .int .i64 n, .int .i64 m] w fun e w' => ∃ x, e = .returned (.tuple #[dv (Dm.cg g (Rm.rk g (Dm.st (Dm.num L) s).1 (Dm.st (Dm.num L) s).2 n m)) x n, .int .i64 0]) ∧ LF w' (w.heap.size + 2) x (Dm.dg (Rm.rk g (Dm.st (Dm.num L) s).1 (Dm.st (Dm.num L) s).2 n m)) ∧ Q w w' := by
  have hN := near_t g s n L (by omega) hd hs hn
  have hcmp := Rm.near_cmp g (Dm.num L) s n
  have hlast := Rm.st_last (Dm.num L) s (by omega)
  have hle := st_fst_le (Dm.num L) s
  have hsc := Rm.st_scale (Dm.num L) s (max s n) (by omega)
  have hzs := Dm.st_le (Dm.num L) s
  have hrp := Rm.rs_pos hlt hlast
  have hrl := Rm.rs_lt (A := (Dm.st (Dm.num L) s).1) hlt
  have hat := Rm.at_scale (A := (Dm.st (Dm.num L) s).1) (N := max s n) hlt (by omega)
  have hlr := Rm.lo_rs (A := (Dm.st (Dm.num L) s).1) hlt
  have hrk : Rm.rk g (Dm.st (Dm.num L) s).1 (Dm.st (Dm.num L) s).2 n m = if Rm.up g (Rm.lo (Dm.st (Dm.num L) s).1 (Dm.st (Dm.num L) s).2 n) (Rm.rs (Dm.st (Dm.num L) s).1 (Dm.st (Dm.num L) s).2 n) (Rm.un (Dm.st (Dm.num L) s).2 n) m = true then Rm.lo (Dm.st (Dm.num L) s).1 (Dm.st (Dm.num L) s).2 n + 1 else Rm.lo (Dm.st (Dm.num L) s).1 (Dm.st (Dm.num L) s).2 n := by
    unfold Rm.rk
    rw [if_neg (by omega)]
  rw [hrk]
  clear hrk
  generalize Rm.lo (Dm.st (Dm.num L) s).1 (Dm.st (Dm.num L) s).2 n = K at *
  generalize Rm.rs (Dm.st (Dm.num L) s).1 (Dm.st (Dm.num L) s).2 n = r at *
  generalize Rm.un (Dm.st (Dm.num L) s).2 n = B at *
  generalize (Dm.st (Dm.num L) s).1 = A at *
  generalize (Dm.st (Dm.num L) s).2 = sa at *
  obtain ⟨P, hP⟩ : ∃ P, P = 10 ^ (max s n - sa) := ⟨_, rfl⟩
  have hP0 : 0 < P := by rw [hP]; exact Nat.pow_pos (by omega)
  rw [← hP] at hat hsc
  obtain ⟨hat1, hat2⟩ := hat
  have hB0 : 0 < B := by omega
  have hKA : K ≤ A := by
    have : K * 1 ≤ K * B := Nat.mul_le_mul_left _ hB0
    omega
  have hKn : K ≤ Dm.num L := Nat.le_trans hKA hle
  have hnl := Dm.num_lt L hd
  have hYL : (Dm.dg K).length ≤ L.length := Nat.le_trans (Dm.dg_len_le _ _ hKn) (Dm.dg_len L hd)
  have hZU : (Dm.dg (K + 1)).length ≤ L.length + 1 := Dm.dg_len_lt _ _ (by rw [Nat.pow_succ]; have : 0 < 10 ^ L.length := Nat.pow_pos (by omega); omega)
  have hc1 : Dm.cmpD (Dm.cg g K) K n g (Dm.num L) s ≠ 0 := fun h => by have := hcmp.1 h; omega
  have hC1 := cmp_t (Dm.cg g K) g n s (Dm.dg K) L (by omega) (by omega) (Dm.okD_dg _) hd hn hs
  rw [Dm.num_dg] at hC1
  have hA1 := add_t (Dm.cg g K) g n n (Dm.dg K) [1] (by omega) (by simp) (Dm.okD_dg _) (fun d hd => by simp at hd; omega) hn hn
  rw [Nat.max_self, Nat.sub_self, Nat.pow_zero, Nat.mul_one, Nat.mul_one, Dm.num_dg, num_one, (Rm.sum_eq g K).2, (Rm.sum_eq g K).1] at hA1
  have hS1 := Dm.st_le (K + 1) n
  have hAL := align_t g (Dm.st (K + 1) n).2 n (Dm.dg (Dm.st (K + 1) n).1) (by
    have := Dm.dg_len_le _ _ (st_fst_le (K + 1) n)
    omega) (Dm.okD_dg _) (by omega) (by rw [Dm.num_dg, Dm.st_trim]; exact hS1) hn
  rw [Dm.num_dg, Rm.align_eq, Dm.cg_pos (Dm.st_pos _ _ (by omega))] at hAL
  have hX : Dm.num L * 10 ^ (max s n - s) = K * 10 ^ (max s n - n) + r * P := by omega
  have hY1 : (K + 1) * 10 ^ (max s n - n) = K * 10 ^ (max s n - n) + B * P := by rw [Nat.add_mul, Nat.one_mul, hat2]
  have hrP : r * P ≤ B * P := Nat.mul_le_mul_right _ (by omega)
  have hA2 := add_t g (!(Dm.cg g K)) s n L (Dm.dg K) (by omega) (by omega) hd (Dm.okD_dg _) hs hn
  have hA3 := add_t g (!g) n s (Dm.dg (K + 1)) L (by omega) (by omega) (Dm.okD_dg _) hd hn hs
  rw [Dm.num_dg] at hA2 hA3
  have hcgY : Dm.cg g K = Dm.cg g (K * 10 ^ (max s n - n)) := by
    unfold Dm.cg
    have hp : 0 < 10 ^ (max s n - n) := Nat.pow_pos (by omega)
    by_cases h0 : K = 0
    · subst h0; rw [Nat.zero_mul]
    · rw [if_neg h0, if_neg (by have := Nat.mul_pos (Nat.pos_of_ne_zero h0) hp; omega)]
  have hF : Dm.adM g (Dm.num L * 10 ^ (max s n - s)) (!(Dm.cg g K)) (K * 10 ^ (max s n - n)) = r * P := by
    rw [hcgY, Rm.from_eq (by omega)]
    omega
  have hT : Dm.adM g ((K + 1) * 10 ^ (max s n - n)) (!g) (Dm.num L * 10 ^ (max s n - s)) = (B - r) * P := by
    rw [Rm.to_eq (by omega), hY1, hX, Nat.sub_mul]
    omega
  have l1 := Ep.ad_len g (!(Dm.cg g K)) s n (max s n) L (Dm.dg K) hd (Dm.okD_dg _) (by omega) (by omega) (by omega)
  have l2 := Ep.ad_len g (!g) n s (max s n) (Dm.dg (K + 1)) L (Dm.okD_dg _) hd (by omega) (by omega) (by omega)
  rw [Nat.max_comm n s] at hA3
  rw [Dm.num_dg, hF] at l1
  rw [Dm.num_dg, hT] at l2
  rw [hF] at hA2
  rw [hT] at hA3
  have q1 := Dm.st_le (r * P) (max s n)
  have q2 := Dm.st_le ((B - r) * P) (max s n)
  have hC2 := cmp_t false false (Dm.st (r * P) (max s n)).2 (Dm.st ((B - r) * P) (max s n)).2 (Dm.dg (Dm.st (r * P) (max s n)).1) (Dm.dg (Dm.st ((B - r) * P) (max s n)).1) (by omega) (by omega) (Dm.okD_dg _) (Dm.okD_dg _) (by omega) (by omega)
  rw [Dm.num_dg, Dm.num_dg, Rm.half_eq, Rm.cmpZ_scale _ _ _ hP0] at hC2
  have hod : (Dm.dg K = [] ∧ decide (K % 2 = 1) = false) ∨ (0 < (Dm.dg K).length ∧ 0 ≤ (Dm.dg K).getD ((Dm.dg K).length - 1) 0 ∧ decide (K % 2 = 1) = decide ((Dm.dg K).getD ((Dm.dg K).length - 1) 0 % 2 = 1)) := by
    by_cases h0 : K = 0
    · subst h0; exact .inl ⟨Dm.dg_zero, rfl⟩
    · have hdl := Dm.dg_last K h0
      refine .inr ⟨by omega, by rw [hdl.2.1]; omega, ?_⟩
      rw [hdl.2.1]
      exact decide_eq_decide.2 (by omega)
  have hU : (m = 0 ∧ Rm.up g K r B m = false) ∨ (m = 1 ∧ Rm.up g K r B m = true) ∨ (m = 2 ∧ Rm.up g K r B m = g) ∨ (m = 3 ∧ Rm.up g K r B m = !g) ∨ (m = 4 ∧ Rm.up g K r B m = decide (0 < Dm.cmpZ (r : Int) ((B - r : Nat) : Int))) ∨ (m = 5 ∧ Rm.up g K r B m = decide (0 ≤ Dm.cmpZ (r : Int) ((B - r : Nat) : Int))) ∨ (m = 6 ∧ Rm.up g K r B m = (decide (0 < Dm.cmpZ (r : Int) ((B - r : Nat) : Int)) || (decide (Dm.cmpZ (r : Int) ((B - r : Nat) : Int) = 0) && decide (K % 2 = 1)))) := by
    rcases (show m = 0 ∨ m = 1 ∨ m = 2 ∨ m = 3 ∨ m = 4 ∨ m = 5 ∨ m = 6 from by omega) with rfl | rfl | rfl | rfl | rfl | rfl | rfl
    · exact .inl ⟨rfl, rfl⟩
    · exact .inr (.inl ⟨rfl, rfl⟩)
    · exact .inr (.inr (.inl ⟨rfl, rfl⟩))
    · exact .inr (.inr (.inr (.inl ⟨rfl, rfl⟩)))
    · exact .inr (.inr (.inr (.inr (.inl ⟨rfl, rfl⟩))))
    · exact .inr (.inr (.inr (.inr (.inr (.inl ⟨rfl, rfl⟩)))))
    · exact .inr (.inr (.inr (.inr (.inr (.inr ⟨rfl, rfl⟩)))))
  have main := to_walk g v s n m L w hv (Dm.cg g K) (!g) (!(Dm.cg g K)) (Dm.dg K) _ (Dm.dg (K + 1)) _ _ _ _ _ _ _ _ _ (decide (K % 2 = 1)) (Rm.up g K r B m) (may_t g s L (by omega) hd hs) hN hC1 hc1 (fun u g k => one_any g k u) hA1 hAL rfl rfl hA2 hA3 hC2 (by omega) hn hm (Dm.cmpZ_three _ _) hod hU
  refine main.mono ?_
  rintro e w' ⟨x, rfl, hx, hq⟩
  refine ⟨x, ?_, ?_, hq⟩
  · cases hu : Rm.up g K r B m
    · rfl
    · simp only [if_true]
      rw [Dm.cg_pos (by omega)]
  · cases hu : Rm.up g K r B m
    · rw [hu] at hx; exact hx
    · rw [hu] at hx; exact hx
theorem to_any (g : Bool) (v : Value) (s n : Nat) (m : Int) (L : List Int) (w : World) (hv : Lst w v L) (hl : L.length < 1900) (hd : Dm.okD L) (hs : s ≤ 1000) (hn : n ≤ 1000) (hm : 0 ≤ m ∧ m ≤ 6) :
    Calls Try.prog 40 #[dv g v s, .int .i64 n, .int .i64 m] w fun e w' => ∃ x, e = .returned (.tuple #[dv (Dm.cg g (Rm.rk g (Dm.st (Dm.num L) s).1 (Dm.st (Dm.num L) s).2 n m)) x n, .int .i64 0]) ∧ LF w' (w.heap.size + 2) x (Dm.dg (Rm.rk g (Dm.st (Dm.num L) s).1 (Dm.st (Dm.num L) s).2 n m)) ∧ Q w w' := by
  by_cases h : (Dm.st (Dm.num L) s).2 ≤ n
  · have hrk : Rm.rk g (Dm.st (Dm.num L) s).1 (Dm.st (Dm.num L) s).2 n m = Rm.lo (Dm.st (Dm.num L) s).1 (Dm.st (Dm.num L) s).2 n := by unfold Rm.rk; rw [if_pos h]
    have hN := near_t g s n L (by omega) hd hs hn
    have hcmp := (Rm.near_cmp g (Dm.num L) s n).2 h
    have hlen : (Dm.dg (Rm.lo (Dm.st (Dm.num L) s).1 (Dm.st (Dm.num L) s).2 n)).length < 10000 := by
      have e0 : Rm.lo (Dm.st (Dm.num L) s).1 (Dm.st (Dm.num L) s).2 n = (Dm.st (Dm.num L) s).1 * 10 ^ (n - (Dm.st (Dm.num L) s).2) := by unfold Rm.lo; rw [if_pos h]
      rw [e0]
      have a := Dm.num_lt L hd
      have b := st_fst_le (Dm.num L) s
      have := Dm.dg_len_lt ((Dm.st (Dm.num L) s).1 * 10 ^ (n - (Dm.st (Dm.num L) s).2)) (L.length + (n - (Dm.st (Dm.num L) s).2)) (by
        rw [Nat.pow_add]
        exact Nat.mul_lt_mul_of_pos_right (Nat.lt_of_le_of_lt b a) (Nat.pow_pos (by omega)))
      omega
    have hC1 := cmp_t (Dm.cg g (Rm.lo (Dm.st (Dm.num L) s).1 (Dm.st (Dm.num L) s).2 n)) g n s (Dm.dg (Rm.lo (Dm.st (Dm.num L) s).1 (Dm.st (Dm.num L) s).2 n)) L hlen (by omega) (Dm.okD_dg _) hd hn hs
    rw [Dm.num_dg, hcmp] at hC1
    rw [hrk]
    exact to_same g v s n m L w hv _ _ (may_t g s L (by omega) hd hs) hN hC1 hn hm
  · exact to_near g v s n m L w hv hl hd hs hn hm (by omega)
end Rr
end Go.Proofs.Yteljedefbomlgaa
