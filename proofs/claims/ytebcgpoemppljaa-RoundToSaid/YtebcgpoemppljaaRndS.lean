/- The document's own rounding: what it refuses, and what is exact. -/
import Derived.Test.YtebcgpoemppljaaRows
import Derived.Test.YtebcgpoemppljaaDigL
import Derived.Test.YtebcgpoemppljaaDecM
import Derived.Test.YtebcgpoemppljaaInts
import Derived.Test.YtebcgpoemppljaaSto
import Derived.Test.YtebcgpoemppljaaDigR
import Derived.Test.YtebcgpoemppljaaDigS
import Derived.Test.YtebcgpoemppljaaDigO
import Derived.Test.YtebcgpoemppljaaDecR
import Derived.Test.YtebcgpoemppljaaDecS
import Derived.Test.YtebcgpoemppljaaDecC
import Derived.Test.YtebcgpoemppljaaDecF
import Derived.Test.YtebcgpoemppljaaRndM
import Derived.Test.YtebcgpoemppljaaRndR
import Derived.Test.YtebcgpoemppljaaRndC
import Derived.Test.YtebcgpoemppljaaRndT
import Derived.Deep.CutRange
import Derived.Deep.CutBlock
import Derived.Deep.DeepCutAuto
import Derived.Deep.QuietTactic
import Derived.Deep.RegionWith
import Derived.Deep.RegionHeld3
import Derived.BigQuiet
import Derived.Laws.ResultCell
set_option linter.unusedVariables false
set_option linter.unusedSimpArgs false
namespace Go.Proofs.Ytebcgpoemppljaa
open Go.RowKit
namespace Rr
open Er (dv cellV LF LF.of LF.nil LF.mono LF.q LF.put LF.shape LF.lst block_cells some_cells block_set wrapI SD SD.q SD.put SD.start SA SA.start SA.q SA.put ret_dv ret_dv2 trim_sh)
set_option maxHeartbeats 3200000 in
theorem to_bad (g : Bool) (v : Value) (s k m : Int) (L : List Int) (w : World) (hv : Lst w v L) (hl : L.length < 10000) (hs : -9223372036854775808 ≤ s ∧ s ≤ 9223372036854775807) (hb : (Dm.okB L && decide (0 ≤ s) && decide (s ≤ 1000)) = false ∨ m < 0 ∨ 6 < m) :
    Calls Try.prog 15 #[dv g v s, .int .i64 k, .int .i64 m] w fun e w' => e = .returned (.tuple #[dv false (.slice none 0 0) 0, .int .i64 1]) ∧ Q w w' := by
  obtain ⟨a0, c0, rfl⟩ := hv.shape
  have M0 := Lib.hid (fun u (q : Q w u) => Er.may_any g (.slice a0 L.length c0) s L u (hv.q q) (by omega) hs)
  unfold dv at M0
  generalize (Dm.okB L && decide (0 ≤ s) && decide (s ≤ 1000)) = m0 at *
  generalize L.length = l at *
  have hcase : m0 = false ∨ (m0 = true ∧ m < 0) ∨ (m0 = true ∧ ¬ m < 0 ∧ 6 < m) := by
    cases m0
    · exact .inl rfl
    · rcases hb with h | h | h
      · cases h
      · exact .inr (.inl ⟨rfl, h⟩)
      · exact .inr (.inr ⟨rfl, by omega, h⟩)
  clear hv hb
  go_enter Try.func15, Try.ntmps15
  have Q0 := Lib.hid (show Q w ((w.alloc (.cells #[.bool g, .slice a0 l c0, .int .i64 s] 24)).alloc (.cells #[.bool false, .slice none 0 0, .int .i64 0] 24)) from (((Q.refl w).alloc (.cells #[.bool g, .slice a0 l c0, .int .i64 s] 24)).alloc (.cells #[.bool false, .slice none 0 0, .int .i64 0] 24)))
  have B0_d := Lib.hid (show ((w.alloc (.cells #[.bool g, .slice a0 l c0, .int .i64 s] 24)).alloc (.cells #[.bool false, .slice none 0 0, .int .i64 0] 24)).heap[w.heap.size]? = some (.cells #[.bool g, .slice a0 l c0, .int .i64 s] 24) from heap_alloc2_old _ _ _)
  have B0_R := Lib.hid (show ((w.alloc (.cells #[.bool g, .slice a0 l c0, .int .i64 s] 24)).alloc (.cells #[.bool false, .slice none 0 0, .int .i64 0] 24)).heap[w.heap.size + 1]? = some (.cells #[.bool false, .slice none 0 0, .int .i64 0] 24) from heap_alloc2_new _ _ _)
  unfold dv
  obtain ⟨k_d0, k_d1, k_d2, _, _, _⟩ := Er.block_cells B0_d.out
  obtain ⟨k_R0, k_R1, k_R2, _, _, _⟩ := Er.block_cells B0_R.out
  go_wp2_with fail
  refine (M0.out _ Q0.out).mono ?_
  rintro e z1 ⟨rfl, hq⟩
  clear k_d0 k_d1 k_d2 k_R0 k_R1 k_R2
  have B1_d := Lib.hid ((Q.block hq (lt_of_block B0_d.out)).trans B0_d.out)
  clear B0_d
  have B1_R := Lib.hid ((Q.block hq (lt_of_block B0_R.out)).trans B0_R.out)
  clear B0_R
  have Q1 := Lib.hid (Q.trans Q0.out hq)
  clear Q0
  clear hq
  rcases hcase with rfl | ⟨rfl, h1⟩ | ⟨rfl, h1, h2⟩
  all_goals
    have hset := Lib.hid (block_set (x' := .bool false) (y' := .slice none 0 0) (z' := .int .i64 0) B1_R.out)
    have HQE := Lib.hid (Q.setCell (Q.setCell (Q.setCell Q1.out (ad := ⟨w.heap.size + 1, 0, none⟩) (by show w.heap.size ≤ w.heap.size + 1; omega) (.bool false)) (ad := ⟨w.heap.size + 1, 1, none⟩) (by show w.heap.size ≤ w.heap.size + 1; omega) (.slice none 0 0)) (ad := ⟨w.heap.size + 1, 2, none⟩) (by show w.heap.size ≤ w.heap.size + 1; omega) (.int .i64 0))
    obtain ⟨k_d0, k_d1, k_d2, _, _, _⟩ := Er.block_cells B1_d.out
    obtain ⟨k_R0, k_R1, k_R2, _, _, _⟩ := Er.block_cells B1_R.out
    obtain ⟨_, _, _, r3, r4, r5⟩ := block_cells B1_R.out
    go_wp2_with fail
    exact ret_dv2 rfl rfl rfl hset.out rfl ⟨rfl, HQE.out⟩
set_option maxHeartbeats 3200000 in
theorem to_far (g : Bool) (v : Value) (s k m : Int) (L : List Int) (w : World) (hv : Lst w v L) (hl : L.length < 10000) (hs : -9223372036854775808 ≤ s ∧ s ≤ 9223372036854775807) (hb : (Dm.okB L && decide (0 ≤ s) && decide (s ≤ 1000)) = true) (hm : 0 ≤ m ∧ m ≤ 6) (hk : k < 0 ∨ 1000 < k) :
    Calls Try.prog 15 #[dv g v s, .int .i64 k, .int .i64 m] w fun e w' => e = .returned (.tuple #[dv false (.slice none 0 0) 0, .int .i64 3]) ∧ Q w w' := by
  obtain ⟨a0, c0, rfl⟩ := hv.shape
  have M0 := Lib.hid (fun u (q : Q w u) => (by
    have e := Er.may_any g (.slice a0 L.length c0) s L u (hv.q q) (by omega) hs
    rw [hb] at e
    exact e : Calls Try.prog 36 #[.agg #[.bool g, .slice a0 L.length c0, .int .i64 s]] u fun e w' => e = .returned (.bool true) ∧ Q u w'))
  generalize L.length = l at *
  have hm1 : ¬ m < 0 := by omega
  have hm2 : ¬ 6 < m := by omega
  have hm3 : m ≤ 6 := by omega
  have hm4 : 0 ≤ m := by omega
  have hcase : k < 0 ∨ (0 ≤ k ∧ 1000 < k) := by omega
  clear hv hb hk
  go_enter Try.func15, Try.ntmps15
  have Q0 := Lib.hid (show Q w ((w.alloc (.cells #[.bool g, .slice a0 l c0, .int .i64 s] 24)).alloc (.cells #[.bool false, .slice none 0 0, .int .i64 0] 24)) from (((Q.refl w).alloc (.cells #[.bool g, .slice a0 l c0, .int .i64 s] 24)).alloc (.cells #[.bool false, .slice none 0 0, .int .i64 0] 24)))
  have B0_d := Lib.hid (show ((w.alloc (.cells #[.bool g, .slice a0 l c0, .int .i64 s] 24)).alloc (.cells #[.bool false, .slice none 0 0, .int .i64 0] 24)).heap[w.heap.size]? = some (.cells #[.bool g, .slice a0 l c0, .int .i64 s] 24) from heap_alloc2_old _ _ _)
  have B0_R := Lib.hid (show ((w.alloc (.cells #[.bool g, .slice a0 l c0, .int .i64 s] 24)).alloc (.cells #[.bool false, .slice none 0 0, .int .i64 0] 24)).heap[w.heap.size + 1]? = some (.cells #[.bool false, .slice none 0 0, .int .i64 0] 24) from heap_alloc2_new _ _ _)
  unfold dv
  obtain ⟨k_d0, k_d1, k_d2, _, _, _⟩ := Er.block_cells B0_d.out
  obtain ⟨k_R0, k_R1, k_R2, _, _, _⟩ := Er.block_cells B0_R.out
  go_wp2_with fail
  refine (M0.out _ Q0.out).mono ?_
  rintro e z1 ⟨rfl, hq⟩
  clear k_d0 k_d1 k_d2 k_R0 k_R1 k_R2
  have B1_d := Lib.hid ((Q.block hq (lt_of_block B0_d.out)).trans B0_d.out)
  clear B0_d
  have B1_R := Lib.hid ((Q.block hq (lt_of_block B0_R.out)).trans B0_R.out)
  clear B0_R
  have Q1 := Lib.hid (Q.trans Q0.out hq)
  clear Q0
  clear hq
  rcases hcase with h1 | ⟨h1, h2⟩
  all_goals
    have hset := Lib.hid (block_set (x' := .bool false) (y' := .slice none 0 0) (z' := .int .i64 0) B1_R.out)
    have HQE := Lib.hid (Q.setCell (Q.setCell (Q.setCell Q1.out (ad := ⟨w.heap.size + 1, 0, none⟩) (by show w.heap.size ≤ w.heap.size + 1; omega) (.bool false)) (ad := ⟨w.heap.size + 1, 1, none⟩) (by show w.heap.size ≤ w.heap.size + 1; omega) (.slice none 0 0)) (ad := ⟨w.heap.size + 1, 2, none⟩) (by show w.heap.size ≤ w.heap.size + 1; omega) (.int .i64 0))
    obtain ⟨k_d0, k_d1, k_d2, _, _, _⟩ := Er.block_cells B1_d.out
    obtain ⟨k_R0, k_R1, k_R2, _, _, _⟩ := Er.block_cells B1_R.out
    obtain ⟨_, _, _, r3, r4, r5⟩ := block_cells B1_R.out
    go_wp2_with fail
    exact ret_dv2 rfl rfl rfl hset.out rfl ⟨rfl, HQE.out⟩
set_option maxHeartbeats 3200000 in
theorem to_same (g : Bool) (v : Value) (s n : Nat) (m : Int) (L : List Int) (w : World) (hv : Lst w v L) (gl : Bool) (YL : List Int) (hM : TM 36 g s L true) (hN : T0 37 g s n L gl YL n) (hC1 : TC 21 gl n YL g s L 0) (hn : n ≤ 1000) (hm : 0 ≤ m ∧ m ≤ 6) :
    Calls Try.prog 15 #[dv g v s, .int .i64 n, .int .i64 m] w fun e w' => ∃ x, e = .returned (.tuple #[dv gl x n, .int .i64 0]) ∧ LF w' (w.heap.size + 2) x YL ∧ Q w w' := by
  obtain ⟨a0, c0, rfl⟩ := hv.shape
  have HM := Lib.hid hM
  have HN := Lib.hid hN
  have HC1 := Lib.hid hC1
  have HLL := Lib.hid hv
  unfold T0 at HN
  unfold TM at HM
  unfold TC at HC1
  obtain ⟨p, hp⟩ : ∃ p, YL.length = p := ⟨_, rfl⟩
  simp only [hp] at HN
  have HP := Lib.hid hp
  generalize L.length = l at *
  have hm1 : ¬ m < 0 := by omega
  have hm2 : ¬ 6 < m := by omega
  have hm3 : m ≤ 6 := by omega
  have hm4 : 0 ≤ m := by omega
  have hn0 : (0 : Int) ≤ (n : Int) := by omega
  have hn1 : (n : Int) ≤ 1000 := by omega
  have hn2 : ¬ 1000 < (n : Int) := by omega
  clear hM hN hC1 hv hp
  go_enter Try.func15, Try.ntmps15
  have Q0 := Lib.hid (show Q w ((w.alloc (.cells #[.bool g, .slice a0 l c0, .int .i64 s] 24)).alloc (.cells #[.bool false, .slice none 0 0, .int .i64 0] 24)) from (((Q.refl w).alloc (.cells #[.bool g, .slice a0 l c0, .int .i64 s] 24)).alloc (.cells #[.bool false, .slice none 0 0, .int .i64 0] 24)))
  have B0_d := Lib.hid (show ((w.alloc (.cells #[.bool g, .slice a0 l c0, .int .i64 s] 24)).alloc (.cells #[.bool false, .slice none 0 0, .int .i64 0] 24)).heap[w.heap.size]? = some (.cells #[.bool g, .slice a0 l c0, .int .i64 s] 24) from heap_alloc2_old _ _ _)
  have B0_R := Lib.hid (show ((w.alloc (.cells #[.bool g, .slice a0 l c0, .int .i64 s] 24)).alloc (.cells #[.bool false, .slice none 0 0, .int .i64 0] 24)).heap[w.heap.size + 1]? = some (.cells #[.bool false, .slice none 0 0, .int .i64 0] 24) from heap_alloc2_new _ _ _)
  unfold dv
  have LL0 := Lib.hid (HLL.out.q Q0.out)
  obtain ⟨k_d0, k_d1, k_d2, _, _, _⟩ := Er.block_cells B0_d.out
  obtain ⟨k_R0, k_R1, k_R2, _, _, _⟩ := Er.block_cells B0_R.out
  go_wp2_with fail
  refine (HM.out _ _ LL0.out).mono ?_
  rintro e z1 ⟨rfl, hq⟩
  clear k_d0 k_d1 k_d2 k_R0 k_R1 k_R2
  have L1_L := Lib.hid (Lst.q LL0.out hq)
  clear LL0
  have B1_d := Lib.hid ((Q.block hq (lt_of_block B0_d.out)).trans B0_d.out)
  clear B0_d
  have B1_R := Lib.hid ((Q.block hq (lt_of_block B0_R.out)).trans B0_R.out)
  clear B0_R
  have Q1 := Lib.hid (Q.trans Q0.out hq)
  clear Q0
  clear hq
  have hsz := Lib.hid (show w.heap.size + 2 ≤ z1.heap.size from lt_of_block B1_R.out)
  obtain ⟨k_d0, k_d1, k_d2, _, _, _⟩ := Er.block_cells B1_d.out
  obtain ⟨k_R0, k_R1, k_R2, _, _, _⟩ := Er.block_cells B1_R.out
  go_wp2_with fail
  refine (HN.out _ _ L1_L.out).mono ?_
  rintro e z2 ⟨a1, c1x, rfl, hx, hq⟩
  clear k_d0 k_d1 k_d2 k_R0 k_R1 k_R2
  have BDY := Lib.hid (Rr.lf_bd hx hsz.out)
  have L3_L := Lib.hid (Lst.q L1_L.out hq)
  clear L1_L
  have B3_d := Lib.hid ((Q.block hq (lt_of_block B1_d.out)).trans B1_d.out)
  clear B1_d
  have B3_R := Lib.hid ((Q.block hq (lt_of_block B1_R.out)).trans B1_R.out)
  clear B1_R
  have Q3 := Lib.hid (Q.trans Q1.out hq)
  clear Q1
  have LY := Lib.hid hx.lst
  clear hx hq hsz
  have hq := (Q.refl z2).alloc (.cells #[.bool gl, .slice a1 p c1x, .int .i64 n] 24)
  have hb := heap_alloc_new z2 (.cells #[.bool gl, .slice a1 p c1x, .int .i64 n] 24)
  have L4_L := Lib.hid (Lst.q L3_L.out hq)
  clear L3_L
  have L4_Y := Lib.hid (Lst.q LY.out hq)
  clear LY
  have B4_d := Lib.hid ((Q.block hq (lt_of_block B3_d.out)).trans B3_d.out)
  clear B3_d
  have B4_R := Lib.hid ((Q.block hq (lt_of_block B3_R.out)).trans B3_R.out)
  clear B3_R
  have Q4 := Lib.hid (Q.trans Q3.out hq)
  clear Q3
  have B4_lo := Lib.hid hb
  clear hb hq
  obtain ⟨k_d0, k_d1, k_d2, _, _, _⟩ := Er.block_cells B4_d.out
  obtain ⟨k_R0, k_R1, k_R2, _, _, _⟩ := Er.block_cells B4_R.out
  obtain ⟨k_lo0, k_lo1, k_lo2, _, _, _⟩ := Er.block_cells B4_lo.out
  go_wp2_with fail
  refine (HC1.out _ _ _ L4_Y.out L4_L.out).mono ?_
  rintro e z5 ⟨rfl, hq⟩
  clear k_d0 k_d1 k_d2 k_R0 k_R1 k_R2 k_lo0 k_lo1 k_lo2
  have L5_L := Lib.hid (Lst.q L4_L.out hq)
  clear L4_L
  have L5_Y := Lib.hid (Lst.q L4_Y.out hq)
  clear L4_Y
  have B5_d := Lib.hid ((Q.block hq (lt_of_block B4_d.out)).trans B4_d.out)
  clear B4_d
  have B5_R := Lib.hid ((Q.block hq (lt_of_block B4_R.out)).trans B4_R.out)
  clear B4_R
  have B5_lo := Lib.hid ((Q.block hq (lt_of_block B4_lo.out)).trans B4_lo.out)
  clear B4_lo
  have Q5 := Lib.hid (Q.trans Q4.out hq)
  clear Q4
  clear hq
  have hlf := Rr.bd_lf L5_Y.out HP.out BDY.out
  have hset := Lib.hid (block_set (x' := .bool gl) (y' := .slice a1 p c1x) (z' := .int .i64 n) B5_R.out)
  have hlr := Lib.hid (LF.put (r := w.heap.size + 1) hlf (by omega) (.bool gl) (.slice a1 p c1x) (.int .i64 n))
  have HQE := Lib.hid (Q.setCell (Q.setCell (Q.setCell Q5.out (ad := ⟨w.heap.size + 1, 0, none⟩) (by show w.heap.size ≤ w.heap.size + 1; omega) (.bool gl)) (ad := ⟨w.heap.size + 1, 1, none⟩) (by show w.heap.size ≤ w.heap.size + 1; omega) (.slice a1 p c1x)) (ad := ⟨w.heap.size + 1, 2, none⟩) (by show w.heap.size ≤ w.heap.size + 1; omega) (.int .i64 n))
  obtain ⟨k_d0, k_d1, k_d2, _, _, _⟩ := Er.block_cells B5_d.out
  obtain ⟨k_R0, k_R1, k_R2, _, _, _⟩ := Er.block_cells B5_R.out
  obtain ⟨k_lo0, k_lo1, k_lo2, _, _, _⟩ := Er.block_cells B5_lo.out
  obtain ⟨_, _, _, r3, r4, r5⟩ := block_cells B5_R.out
  go_wp2_with fail
  exact ret_dv2 rfl rfl rfl hset.out rfl ⟨_, rfl, hlr.out, HQE.out⟩
end Rr
end Go.Proofs.Ytebcgpoemppljaa
