/- What the program's Align and Parts of decimals come to, by a walk through each. (and more) -/
import Derived.Test.YtagpofhencpliaaGreatDoorR00
import Derived.Test.YtagpofhencpliaaGreatDoorR14
import Derived.Test.YtagpofhencpliaaGreatDoorR24
import Derived.Test.YtagpofhencpliaaGreatDoorR31
import Derived.Test.YtagpofhencpliaaGreatDoorR02
import Derived.Test.YtagpofhencpliaaGreatDoorR15
import Derived.Test.YtagpofhencpliaaGreatDoorR20
import Derived.Test.YtagpofhencpliaaGreatDoorR10
import Derived.Test.YtagpofhencpliaaGreatDoorR13
import Derived.Test.YtagpofhencpliaaGreatDoorR17
import Derived.Test.YtagpofhencpliaaGreatDoorR07
import Derived.Test.YtagpofhencpliaaGreatDoorR04
import Derived.Test.YtagpofhencpliaaGreatDoorR11
import Derived.Test.YtagpofhencpliaaGreatDoorR03
import Derived.Test.YtagpofhencpliaaGreatDoorRows
import Derived.Deep.QuietTactic
import Derived.Deep.RegionWith
import Derived.Deep.RegionHeld3
import Derived.BigQuiet
import Derived.Laws.ResultCell
set_option linter.unusedVariables false
set_option linter.unusedSimpArgs false
namespace Go.Proofs.YtagpofhencpliaaGreatDoor
open Go.RowKit
namespace Ep
open Er (dv cellV LF LF.of LF.nil LF.mono LF.q LF.put LF.shape LF.lst block_cells some_cells block_set wrapI num_shl okD_shl)
theorem SD.reset {w u : World} {g : Bool} {v : Value} {s : Int} (h : SD w g v s u) (g2 : Bool) (v2 : Value) (s2 : Int) : SD w g2 v2 s2 (((u.setCell ⟨w.heap.size, 0, none⟩ (.bool g2)).setCell ⟨w.heap.size, 1, none⟩ v2).setCell ⟨w.heap.size, 2, none⟩ (.int .i64 s2)) := by
  obtain ⟨_, _, _, _, _, _, _, _, _, h0, ⟨x0, y0, z0, h1⟩, h2⟩ := h
  have hb := block_set (x' := .bool g2) (y' := v2) (z' := .int .i64 s2) h0
  refine SD.of hb ⟨x0, y0, z0, ?_⟩ (((h2.setCell (ad := ⟨w.heap.size, 0, none⟩) (Nat.le_refl _) _).setCell (ad := ⟨w.heap.size, 1, none⟩) (Nat.le_refl _) v2).setCell (ad := ⟨w.heap.size, 2, none⟩) (Nat.le_refl _) _)
  rw [heap_setCell_other _ ⟨w.heap.size, 2, none⟩ _ _ (by simp), heap_setCell_other _ ⟨w.heap.size, 1, none⟩ _ v2 (by simp), heap_setCell_other _ ⟨w.heap.size, 0, none⟩ _ _ (by simp)]
  exact h1
set_option maxHeartbeats 3200000 in
theorem align_far (g : Bool) (v : Value) (s : Nat) (k : Int) (L : List Int) (w : World) (hv : Lst w v L) (hl : L.length < 10000) (hd : Dm.okD L) (hs : s ≤ 1000) (hk : k < ((Dm.st (Dm.num L) s).2 : Nat) ∨ 1000 < k) (hk1 : -9223372036854775808 ≤ k ∧ k ≤ 9223372036854775807) :
    Calls Tryz.prog 78 #[dv g v s, .int .i64 k] w fun e w' => e = .returned (.tuple #[dv false (.slice none 0 0) 0, .int .i64 3]) ∧ Q w w' := by
  obtain ⟨a, c, rfl⟩ := hv.shape
  have hok := (Dm.okB_iff L).2 hd
  have MA := Lib.hid (fun u (k : SD w g (.slice a L.length c) s u) => (by
    have e := may_any g (.slice a L.length c) s L u (hv.q k.here) (by omega) (by omega)
    rw [hok, show decide (0 ≤ (s : Int)) = true from by simp, show decide ((s : Int) ≤ 1000) = true from by simp; omega] at e
    refine e.mono ?_
    rintro e w' ⟨rfl, hq⟩
    exact ⟨rfl, k.q hq⟩ : Calls Tryz.prog 47 #[.agg #[.bool g, .slice a L.length c, .int .i64 s]] u fun e w' => e = .returned (.bool true) ∧ SD w g (.slice a L.length c) s w'))
  have TR := Lib.hid (fun u (h : SD w g (.slice a L.length c) s u) => (by
    have e := trim_any g _ s L u (hv.q h.here) (by omega) hd hs
    refine e.mono ?_
    rintro e w' ⟨x, rfl, ho, hq⟩
    obtain ⟨ya, yc, rfl⟩ := ho.shape
    exact ⟨ya, yc, rfl, ho.mono (by have := h.room; omega), h.q hq⟩ : Calls Tryz.prog 44 #[.agg #[.bool g, .slice a L.length c, .int .i64 s]] u fun e w' => ∃ ya yc, e = .returned (.agg #[.bool (Dm.cg g (Dm.num L)), .slice ya (Dm.dg (Dm.st (Dm.num L) s).1).length yc, .int .i64 ((Dm.st (Dm.num L) s).2 : Nat)]) ∧ LF w' (w.heap.size + 2) (.slice ya (Dm.dg (Dm.st (Dm.num L) s).1).length yc) (Dm.dg (Dm.st (Dm.num L) s).1) ∧ SD w g (.slice a L.length c) s w'))
  have HS := Lib.hid (SD.start w g (.slice a L.length c) s)
  have hzs := Dm.st_le (Dm.num L) s
  have hM1 : (Dm.dg (Dm.st (Dm.num L) s).1).length ≤ L.length := by
    refine Nat.le_trans (Dm.dg_len_le _ _ ?_) (Dm.dg_len L hd)
    have h1 := Dm.st_num (Dm.num L) s
    have h2 : 0 < 10 ^ (s - (Dm.st (Dm.num L) s).2) := Nat.pow_pos (by omega)
    calc (Dm.st (Dm.num L) s).1 = (Dm.st (Dm.num L) s).1 * 1 := by rw [Nat.mul_one]
      _ ≤ (Dm.st (Dm.num L) s).1 * 10 ^ (s - (Dm.st (Dm.num L) s).2) := Nat.mul_le_mul_left _ h2
      _ = Dm.num L := h1
  generalize Dm.cg g (Dm.num L) = cs at *
  generalize (Dm.st (Dm.num L) s).1 = M at *
  generalize (Dm.st (Dm.num L) s).2 = zs at *
  have RES := Lib.hid (fun u (h : SD w g (.slice a L.length c) s u) g2 v2 s2 => h.reset g2 v2 s2)
  have MS := Lib.hid (fun u => mayScale_any k u hk1)
  have PUT := Lib.hid (fun u v t (h : SD w cs v t u) x y z => h.put x y z)
  generalize hp : (Dm.dg M).length = p at *
  generalize L.length = n at *
  clear hv hok
  go_enter Tryz.func78, Tryz.ntmps78
  unfold dv
  go_wp2_with fail
  refine (MA.out _ HS.out).mono ?_
  rintro e w1 ⟨rfl, hS⟩
  have HS1 := Lib.hid hS
  unfold SD at hS
  obtain ⟨a0, a1, a2, b0, b1, b2, b3, b4, b5, _, _, _⟩ := hS
  go_wp2_with fail
  refine (TR.out _ HS1.out).mono ?_
  rintro e w2 ⟨ya, yc, rfl, hlf, hS⟩
  have hs2 := RES.out w2 hS cs (.slice ya p yc) zs
  have hlf2 := hlf.put (r := w.heap.size) (by omega) (.bool cs) (.slice ya p yc) (.int .i64 zs)
  have HL2 := Lib.hid hlf2
  have HS2 := Lib.hid hs2
  have h0 : w2.heap[w.heap.size]? = some (.cells #[.bool g, .slice a n c, .int .i64 s] 36) := hS.2.2.2.2.2.2.2.2.2.1
  obtain ⟨_, _, _, f0, f1, f2⟩ := block_cells h0
  clear a0 a1 a2 b0 b1 b2 b3 b4 b5 hlf hs2 hlf2 h0
  unfold SD at hS
  obtain ⟨a0, a1, a2, b0, b1, b2, b3, b4, b5, _, _, _⟩ := hS
  go_wp2_with fail
  clear a0 a1 a2 b0 b1 b2 b3 b4 b5 f0 f1 f2
  generalize (((w2.setCell ⟨w.heap.size, 0, none⟩ (.bool cs)).setCell ⟨w.heap.size, 1, none⟩ (.slice ya p yc)).setCell ⟨w.heap.size, 2, none⟩ (.int .i64 zs)) = w3 at HL2 HS2 ⊢
  have hS := HS2.out
  unfold SD at hS
  obtain ⟨a0, a1, a2, b0, b1, b2, b3, b4, b5, _, _, _⟩ := hS
  refine (MS.out _).mono ?_
  rintro e y ⟨rfl, rfl⟩
  have hfin := PUT.out w3 _ _ HS2.out (.bool false) (.slice none 0 0) (.int .i64 0)
  have HF := Lib.hid hfin.2
  have HQ := Lib.hid hfin.1.here
  clear hfin
  by_cases hk0 : 0 ≤ k ∧ k ≤ 1000
  · obtain ⟨h1, h2⟩ := hk0
    have e1 : (decide (0 ≤ k) && decide (k ≤ 1000)) = true := by simp [h1, h2]
    rw [e1]
    have h3 : k < (zs : Int) := by omega
    go_wp2_with fail
    exact ret_dv2 rfl rfl rfl HF.out rfl ⟨rfl, HQ.out⟩
  · have e1 : (decide (0 ≤ k) && decide (k ≤ 1000)) = false := by
      cases h : (decide (0 ≤ k) && decide (k ≤ 1000))
      · rfl
      · simp at h; exact absurd h hk0
    rw [e1]
    go_wp2_with fail
    exact ret_dv2 rfl rfl rfl HF.out rfl ⟨rfl, HQ.out⟩
set_option maxHeartbeats 3200000 in
theorem align_any (g : Bool) (v : Value) (s : Nat) (k : Nat) (L : List Int) (w : World) (hv : Lst w v L) (hl : L.length < 10000) (hd : Dm.okD L) (hs : s ≤ 1000) (hk : (Dm.st (Dm.num L) s).2 ≤ k) (hk2 : k ≤ 1000) :
    Calls Tryz.prog 78 #[dv g v s, .int .i64 k] w fun e w' => ∃ u, e = .returned (.tuple #[dv (Dm.cg g (Dm.num L)) u k, .int .i64 0]) ∧ LF w' (w.heap.size + 2) u (Dm.dg ((Dm.st (Dm.num L) s).1 * 10 ^ (k - (Dm.st (Dm.num L) s).2))) ∧ Q w w' := by
  obtain ⟨a, c, rfl⟩ := hv.shape
  have hok := (Dm.okB_iff L).2 hd
  have MA := Lib.hid (fun u (k : SD w g (.slice a L.length c) s u) => (by
    have e := may_any g (.slice a L.length c) s L u (hv.q k.here) (by omega) (by omega)
    rw [hok, show decide (0 ≤ (s : Int)) = true from by simp, show decide ((s : Int) ≤ 1000) = true from by simp; omega] at e
    refine e.mono ?_
    rintro e w' ⟨rfl, hq⟩
    exact ⟨rfl, k.q hq⟩ : Calls Tryz.prog 47 #[.agg #[.bool g, .slice a L.length c, .int .i64 s]] u fun e w' => e = .returned (.bool true) ∧ SD w g (.slice a L.length c) s w'))
  have TR := Lib.hid (fun u (h : SD w g (.slice a L.length c) s u) => (by
    have e := trim_any g _ s L u (hv.q h.here) (by omega) hd hs
    refine e.mono ?_
    rintro e w' ⟨x, rfl, ho, hq⟩
    obtain ⟨ya, yc, rfl⟩ := ho.shape
    exact ⟨ya, yc, rfl, ho.mono (by have := h.room; omega), h.q hq⟩ : Calls Tryz.prog 44 #[.agg #[.bool g, .slice a L.length c, .int .i64 s]] u fun e w' => ∃ ya yc, e = .returned (.agg #[.bool (Dm.cg g (Dm.num L)), .slice ya (Dm.dg (Dm.st (Dm.num L) s).1).length yc, .int .i64 ((Dm.st (Dm.num L) s).2 : Nat)]) ∧ LF w' (w.heap.size + 2) (.slice ya (Dm.dg (Dm.st (Dm.num L) s).1).length yc) (Dm.dg (Dm.st (Dm.num L) s).1) ∧ SD w g (.slice a L.length c) s w'))
  have HS := Lib.hid (SD.start w g (.slice a L.length c) s)
  have hzs := Dm.st_le (Dm.num L) s
  have hM1 : (Dm.dg (Dm.st (Dm.num L) s).1).length ≤ L.length := by
    refine Nat.le_trans (Dm.dg_len_le _ _ ?_) (Dm.dg_len L hd)
    have h1 := Dm.st_num (Dm.num L) s
    have h2 : 0 < 10 ^ (s - (Dm.st (Dm.num L) s).2) := Nat.pow_pos (by omega)
    calc (Dm.st (Dm.num L) s).1 = (Dm.st (Dm.num L) s).1 * 1 := by rw [Nat.mul_one]
      _ ≤ (Dm.st (Dm.num L) s).1 * 10 ^ (s - (Dm.st (Dm.num L) s).2) := Nat.mul_le_mul_left _ h2
      _ = Dm.num L := h1
  generalize Dm.cg g (Dm.num L) = cs at *
  generalize (Dm.st (Dm.num L) s).1 = M at *
  generalize (Dm.st (Dm.num L) s).2 = zs at *
  have RES := Lib.hid (fun u (h : SD w g (.slice a L.length c) s u) g2 v2 s2 => h.reset g2 v2 s2)
  have MS := Lib.hid (fun u => mayScale_any (k : Int) u (by omega))
  rw [show (decide (0 ≤ (k : Int)) && decide ((k : Int) ≤ 1000)) = true from by simp; omega] at MS
  have hkD : Dm.okD (Dm.dg M ++ List.replicate (k - zs) 0) := by rw [Dm.okD_append]; exact ⟨Dm.okD_dg _, fun d hd => by have := List.eq_of_mem_replicate hd; omega⟩
  have hnD : Dm.num (Dm.dg M ++ List.replicate (k - zs) 0) = M * 10 ^ (k - zs) := by rw [Dm.num_zeros, Dm.num_dg]
  have hlD : (Dm.dg M ++ List.replicate (k - zs) 0).length < 1000000 := by rw [List.length_append, List.length_replicate]; omega
  have LO := Lib.hid (fun u ya yc (hx : Lst u (.slice ya (Dm.dg M).length yc) (Dm.dg M)) (h : SD w cs (.slice ya (Dm.dg M).length yc) zs u) => (by
    refine (lower_any cs _ zs k (Dm.dg M) u hx (by omega) hk (by omega)).mono ?_
    rintro e w' ⟨x, rfl, ho, hq⟩
    exact ⟨x, rfl, ho.lst, h.q hq⟩ : Calls Tryz.prog 71 #[.agg #[.bool cs, .slice ya (Dm.dg M).length yc, .int .i64 zs], .int .i64 (k : Int)] u fun e w' => ∃ x, e = .returned x ∧ Lst w' x (Dm.dg M ++ List.replicate (k - zs) 0) ∧ SD w cs (.slice ya (Dm.dg M).length yc) zs w'))
  have TM := Lib.hid (fun u x ya yc (hx : Lst u x (Dm.dg M ++ List.replicate (k - zs) 0)) (h : SD w cs (.slice ya (Dm.dg M).length yc) zs u) => (by
    refine (Dw.trim_any x _ u hx (by omega)).mono ?_
    rintro e w' ⟨z, rfl, ho, hq⟩
    rw [Dm.trim_eq _ hkD, hnD] at ho
    obtain ⟨za, zc, rfl⟩ := ho.shape
    exact ⟨za, zc, rfl, LF.of (ho.mono (by have := h.room; omega)), h.q hq⟩ : Calls Tryz.prog 67 #[x] u fun e w' => ∃ za zc, e = .returned (.slice za (Dm.dg (M * 10 ^ (k - zs))).length zc) ∧ LF w' (w.heap.size + 2) (.slice za (Dm.dg (M * 10 ^ (k - zs))).length zc) (Dm.dg (M * 10 ^ (k - zs))) ∧ SD w cs (.slice ya (Dm.dg M).length yc) zs w'))
  have PUT := Lib.hid (fun u v (h : SD w cs v zs u) x y z => h.put x y z)
  generalize Dm.dg (M * 10 ^ (k - zs)) = Z at *
  generalize Dm.dg M ++ List.replicate (k - zs) 0 = Y at *
  generalize Z.length = r at *
  generalize hp : (Dm.dg M).length = p at *
  generalize L.length = n at *
  have hk3 : ¬ (k : Int) < (zs : Int) := by omega
  have hk4 : (zs : Int) ≤ (k : Int) := by omega
  clear hv hok hkD hnD hlD hk
  go_enter Tryz.func78, Tryz.ntmps78
  unfold dv
  go_wp2_with fail
  refine (MA.out _ HS.out).mono ?_
  rintro e w1 ⟨rfl, hS⟩
  have HS1 := Lib.hid hS
  unfold SD at hS
  obtain ⟨a0, a1, a2, b0, b1, b2, b3, b4, b5, _, _, _⟩ := hS
  go_wp2_with fail
  refine (TR.out _ HS1.out).mono ?_
  rintro e w2 ⟨ya, yc, rfl, hlf, hS⟩
  have hs2 := RES.out w2 hS cs (.slice ya p yc) zs
  have hlf2 := hlf.put (r := w.heap.size) (by omega) (.bool cs) (.slice ya p yc) (.int .i64 zs)
  have HL2 := Lib.hid hlf2
  have HS2 := Lib.hid hs2
  have h0 : w2.heap[w.heap.size]? = some (.cells #[.bool g, .slice a n c, .int .i64 s] 36) := hS.2.2.2.2.2.2.2.2.2.1
  obtain ⟨_, _, _, f0, f1, f2⟩ := block_cells h0
  clear a0 a1 a2 b0 b1 b2 b3 b4 b5 hlf hs2 hlf2 h0
  unfold SD at hS
  obtain ⟨a0, a1, a2, b0, b1, b2, b3, b4, b5, _, _, _⟩ := hS
  go_wp2_with fail
  clear a0 a1 a2 b0 b1 b2 b3 b4 b5 f0 f1 f2
  generalize (((w2.setCell ⟨w.heap.size, 0, none⟩ (.bool cs)).setCell ⟨w.heap.size, 1, none⟩ (.slice ya p yc)).setCell ⟨w.heap.size, 2, none⟩ (.int .i64 zs)) = w3 at HL2 HS2 ⊢
  have hS := HS2.out
  unfold SD at hS
  obtain ⟨a0, a1, a2, b0, b1, b2, b3, b4, b5, _, _, _⟩ := hS
  refine (MS.out _).mono ?_
  rintro e y ⟨rfl, rfl⟩
  go_wp2_with fail
  have hst := HS2.out.q ((Q.refl _).drew)
  have hst0 := HS2.out
  have hl2 := HL2.out.lst
  have hl3 := hl2.q ((Q.refl _).drew)
  unfold SD at hst hst0
  go_region_held3 (fun u => u.cell? ⟨w.heap.size, 0, none⟩ = some (.bool cs) ∧ (u.cell? ⟨w.heap.size, 1, none⟩ = some (.slice ya p yc) ∧ (u.cell? ⟨w.heap.size, 2, none⟩ = some (.int .i64 zs) ∧ (u.cell? ⟨w.heap.size + 1, 0, none⟩ = some (cellV (w.heap.size + 1) 0 u) ∧ (u.cell? ⟨w.heap.size + 1, 1, none⟩ = some (cellV (w.heap.size + 1) 1 u) ∧ (u.cell? ⟨w.heap.size + 1, 2, none⟩ = some (cellV (w.heap.size + 1) 2 u) ∧ (u.frozen? ⟨w.heap.size + 1, 0, none⟩ = false ∧ (u.frozen? ⟨w.heap.size + 1, 1, none⟩ = false ∧ (u.frozen? ⟨w.heap.size + 1, 2, none⟩ = false ∧ (u.heap[w.heap.size]? = some (.cells #[.bool cs, .slice ya p yc, .int .i64 zs] 36) ∧ ((∃ x y z, u.heap[w.heap.size + 1]? = some (.cells #[x, y, z] 36)) ∧ (Q w u)))))))))))) (first | exact hst | exact hst0 | assumption | exact (PUT.out _ _ (by assumption) _ _ _).1) (first | (go_at_call 71; refine (LO.out _ _ _ ?_ ?_).mono ?_; (first | exact hl3 | exact hl2); assumption; rintro e w4 ⟨x, rfl, hx, hS4⟩; unfold SD at hS4) | (go_at_call 67; refine (TM.out _ _ ya yc ?_ ?_).mono ?_; assumption; assumption; rintro e w5 ⟨za, zc, rfl, hlf, hS5⟩; unfold SD at hS5))
  have hfin := PUT.out w5 _ hS5 (.bool cs) (.slice za r zc) (.int .i64 (k : Int))
  have hlf2 := hlf.put (r := w.heap.size + 1) (Nat.lt_succ_self _) (.bool cs) (.slice za r zc) (.int .i64 (k : Int))
  have HF := Lib.hid hfin.2
  have HO := Lib.hid hlf2
  have HQ := Lib.hid hfin.1.here
  clear hfin hlf2 hlf hst hst0 hS5 hS4 hl2 hl3 hx a0 a1 a2 b0 b1 b2 b3 b4 b5
  go_wp2_with fail
  exact ret_dv2 rfl rfl rfl HF.out rfl ⟨_, rfl, HO.out, HQ.out⟩
set_option maxHeartbeats 3200000 in
theorem parts_any (g : Bool) (v : Value) (s : Nat) (L : List Int) (w : World) (hv : Lst w v L) (hl : L.length < 10000) (hd : Dm.okD L) (hs : s ≤ 1000) :
    Calls Tryz.prog 46 #[dv g v s] w fun e w' => ∃ x y, e = .returned (.tuple #[x, y]) ∧ Lst w' x (Dm.dg (Dm.num ((List.replicate (s - L.length) 0 ++ L).take (L.length - s)))) ∧ Lst w' y ((List.replicate (s - L.length) 0 ++ L).drop (L.length - s)) ∧ Q w w' := by
  obtain ⟨n, hn⟩ : ∃ n, n = L.length := ⟨_, rfl⟩
  obtain ⟨a, c, rfl⟩ := hv.shape
  have hok := (Dm.okB_iff L).2 hd
  have MA := Lib.hid (fun u (q : Q w u) => (by
    have e := may_any g (.slice a L.length c) s L u (hv.q q) (by omega) (by omega)
    rw [hok, show decide (0 ≤ (s : Int)) = true from by simp, show decide ((s : Int) ≤ 1000) = true from by simp; omega] at e
    exact e : Calls Tryz.prog 47 #[.agg #[.bool g, .slice a L.length c, .int .i64 s]] u fun e w' => e = .returned (.bool true) ∧ Q u w'))
  have WD := Lib.hid (fun u (q : Q w u) => (by
    refine (widen_any _ L s u (hv.q q) (by omega) (by omega)).mono ?_
    rintro e w' ⟨x, rfl, ho, hq⟩
    obtain ⟨xa, xc, rfl⟩ := ho.shape
    exact ⟨xa, xc, rfl, ho.lst, hq⟩ : Calls Tryz.prog 64 #[.slice a L.length c, .int .i64 (s : Int)] u fun e w' => ∃ xa xc, e = .returned (.slice xa (List.replicate (s - L.length) 0 ++ L).length xc) ∧ Lst w' (.slice xa (List.replicate (s - L.length) 0 ++ L).length xc) (List.replicate (s - L.length) 0 ++ L) ∧ Q u w'))
  have hpl : (List.replicate (s - L.length) 0 ++ L).length = s - n + n := by rw [List.length_append, List.length_replicate, hn]
  have hokP : Dm.okD (List.replicate (s - L.length) (0 : Int) ++ L) := by
    rw [Dm.okD_append]
    refine ⟨fun d hd => ?_, hd⟩
    have := List.eq_of_mem_replicate hd
    omega
  obtain ⟨q, hqe⟩ : ∃ q, q = L.length - s := ⟨_, rfl⟩
  rw [← hqe]
  generalize List.replicate (s - L.length) (0 : Int) ++ L = P at *
  rw [← hn] at hl hqe MA WD ⊢
  have HK := Lib.hid (fun u (q : Q (w.alloc (.cells #[.bool g, .slice a n c, .int .i64 s] 36)) u) => block_cells ((q.block (lt_of_block (heap_alloc_new w _))).trans (heap_alloc_new w _)))
  obtain ⟨p, hp⟩ : ∃ p, p = P.length := ⟨_, rfl⟩
  rw [← hp] at WD
  have hp2 := hp.symm
  have hq1 : (p : Int) - (s : Int) = (q : Int) := by omega
  have hqp : q ≤ p := by omega
  have HP2 := Lib.hid hp2
  have HQ1 := Lib.hid hq1
  have HOK := Lib.hid hokP
  have hp3 : p < 100000 := by omega
  clear hv hn hd hok hpl hokP hqe hp hp2
  have hq0 : Q w (w.alloc (.cells #[.bool g, .slice a n c, .int .i64 s] 36)) := (Q.refl w).alloc _
  have HQ0 := Lib.hid hq0
  clear hq0
  go_enter Tryz.func46, Tryz.ntmps46
  unfold dv
  go_wp2_with fail
  refine (MA.out _ HQ0.out).mono ?_
  rintro e w1 ⟨rfl, hq⟩
  obtain ⟨k0, k1, k2, _, _, _⟩ := HK.out w1 hq
  have HA1 := Lib.hid hq
  clear hq
  go_wp2_with fail
  refine (WD.out _ (HQ0.out.trans HA1.out)).mono ?_
  rintro e w3 ⟨f, cc, rfl, ho, hq⟩
  have HQ3 := Lib.hid (HA1.out.trans hq)
  have HO := Lib.hid ho
  obtain ⟨_, _, hsh, hca, hcb⟩ := ho.form0 HP2.out
  cases hsh
  unfold maxLen at hcb
  clear hq ho k0 k1 k2
  obtain ⟨k0, k1, k2, _, _, _⟩ := HK.out w3 HQ3.out
  have TR := Lib.hid (fun u (h : Q w3 u ∧ True) => (by
    have ht := (HO.out.q h.1).take q (by rw [HP2.out]; exact hqp)
    have hok2 : Dm.okD (P.take q) := fun d hd => HOK.out d (List.mem_of_mem_take hd)
    have htr := Dm.trim_eq (P.take q) hok2
    refine (Dw.trim_any _ _ u ht (by rw [List.length_take]; omega)).mono ?_
    rintro e w' ⟨x, rfl, ho, hq⟩
    rw [htr] at ho
    exact ⟨x, rfl, ho.lst, h.1.trans hq, trivial⟩ : Calls Tryz.prog 67 #[.slice f q cc] u fun e w' => ∃ x, e = .returned x ∧ Lst w' x (Dm.dg (Dm.num (P.take q))) ∧ (Q w3 w' ∧ True)))
  have HR := Lib.hid (HO.out.rest HP2.out hqp)
  generalize hYe : Dm.dg (Dm.num (P.take q)) = Y at *
  have HY := Lib.hid hYe
  clear hYe
  have hst : Q w3 w3.drew ∧ True := ⟨(Q.refl _).drew, trivial⟩
  have hst0 : Q w3 w3 ∧ True := ⟨Q.refl _, trivial⟩
  have hcq : (q : Int) ≤ (cc : Int) := by omega
  have hcp : (p : Int) ≤ (cc : Int) := by omega
  rcases HR.out with ⟨gg, off, rfl, hz, hnc, hcm, hrl⟩ | ⟨rfl, rfl, hrl⟩ | ⟨ad, rfl, rfl, hnc, hcm, hrl⟩
  · go_wp2_with fail
    go_region_held3 (fun u => Q w3 u ∧ True) (first | exact hst | exact hst0 | assumption) (first | (go_at_call 67; refine (TR.out _ ?_).mono ?_; assumption; rintro e z4 ⟨x1, rfl, hlt4, hS⟩))
    have HQ4 := Lib.hid ((HQ0.out.trans HQ3.out).trans hS.1)
    have HL4 := Lib.hid hlt4
    have HR4 := Lib.hid (hrl.q hS.1)
    clear hst hst0 hlt4 hS
    go_wp2_with fail
    go_ret2
    rw [HY.out]
    exact ⟨_, _, rfl, HL4.out, HR4.out, HQ4.out⟩
  · go_wp2_with fail
    go_region_held3 (fun u => Q w3 u ∧ True) (first | exact hst | exact hst0 | assumption) (first | (go_at_call 67; refine (TR.out _ ?_).mono ?_; assumption; rintro e z4 ⟨x1, rfl, hlt4, hS⟩))
    have HQ4 := Lib.hid ((HQ0.out.trans HQ3.out).trans hS.1)
    have HL4 := Lib.hid hlt4
    have HR4 := Lib.hid (hrl)
    clear hst hst0 hlt4 hS
    go_wp2_with fail
    go_ret2
    rw [HY.out]
    exact ⟨_, _, rfl, HL4.out, by rw [HR4.out]; exact .nil _ _ _ (by unfold maxLen; omega) (by intro h; omega), HQ4.out⟩
  · go_wp2_with fail
    go_region_held3 (fun u => Q w3 u ∧ True) (first | exact hst | exact hst0 | assumption) (first | (go_at_call 67; refine (TR.out _ ?_).mono ?_; assumption; rintro e z4 ⟨x1, rfl, hlt4, hS⟩))
    have HQ4 := Lib.hid ((HQ0.out.trans HQ3.out).trans hS.1)
    have HL4 := Lib.hid hlt4
    have HR4 := Lib.hid (hrl)
    clear hst hst0 hlt4 hS
    go_wp2_with fail
    go_ret2
    rw [HY.out]
    exact ⟨_, _, rfl, HL4.out, by rw [HR4.out]; exact .nil _ _ _ (by unfold maxLen; omega) (by intro h; cases h), HQ4.out⟩
end Ep
end Go.Proofs.YtagpofhencpliaaGreatDoor
