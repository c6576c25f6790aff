/- What the program's Times of decimals comes to, what it refuses, and Sub, by a walk through each. (and more) -/
import Derived.Test.YtagpofhencpliaaGreatDoorR00
import Derived.Test.YtagpofhencpliaaGreatDoorR14
import Derived.Test.YtagpofhencpliaaGreatDoorR24
import Derived.Test.YtagpofhencpliaaGreatDoorR02
import Derived.Test.YtagpofhencpliaaGreatDoorR15
import Derived.Test.YtagpofhencpliaaGreatDoorR20
import Derived.Test.YtagpofhencpliaaGreatDoorR10
import Derived.Test.YtagpofhencpliaaGreatDoorR13
import Derived.Test.YtagpofhencpliaaGreatDoorR17
import Derived.Test.YtagpofhencpliaaGreatDoorR07
import Derived.Test.YtagpofhencpliaaGreatDoorR04
import Derived.Test.YtagpofhencpliaaGreatDoorR11
import Derived.Test.YtagpofhencpliaaGreatDoorR03
import Derived.Test.YtagpofhencpliaaGreatDoorRows
import Derived.Deep.QuietTactic
import Derived.Deep.RegionWith
import Derived.Deep.RegionHeld3
import Derived.BigQuiet
import Derived.Laws.ResultCell
set_option linter.unusedVariables false
set_option linter.unusedSimpArgs false
namespace Go.Proofs.YtagpofhencpliaaGreatDoor
open Go.RowKit
namespace Ep
open Er (dv cellV LF LF.of LF.nil LF.mono LF.q LF.put LF.shape LF.lst block_cells some_cells block_set wrapI num_shl okD_shl)
theorem SD.here {w u : World} {g : Bool} {v : Value} {s : Int} (k : SD w g v s u) : Q w u := by
  obtain ⟨_, _, _, _, _, _, _, _, _, _, _, hq⟩ := k
  exact hq
set_option maxHeartbeats 3200000 in
theorem times_pos (g : Bool) (v : Value) (s k : Nat) (L : List Int) (w : World) (hv : Lst w v L) (hl : L.length < 100000) (hd : Dm.okD L) (hs : s ≤ 1000) (hk : k ≤ 1000)  :
    Calls Tryz.prog 61 #[dv g v s, .int .i64 (k : Int)] w fun e w' => ∃ u, e = .returned (.tuple #[dv (Dm.cg g (Dm.num L * k)) u ((Dm.st (Dm.num L * k) s).2 : Nat), .int .i64 0]) ∧ LF w' (w.heap.size + 2) u (Dm.dg (Dm.st (Dm.num L * k) s).1) ∧ Q w w' := by
  obtain ⟨a, c, rfl⟩ := hv.shape
  have hok := (Dm.okB_iff L).2 hd
  have MA := Lib.hid (fun u (k : SD w g (.slice a L.length c) s u) => (by
    have e := may_any g (.slice a L.length c) s L u (hv.q k.here) (by omega) (by omega)
    rw [hok, show decide (0 ≤ (s : Int)) = true from by simp, show decide ((s : Int) ≤ 1000) = true from by simp; omega] at e
    refine e.mono ?_
    rintro e w' ⟨rfl, hq⟩
    exact ⟨rfl, k.q hq⟩ : Calls Tryz.prog 47 #[.agg #[.bool g, .slice a L.length c, .int .i64 s]] u fun e w' => e = .returned (.bool true) ∧ SD w g (.slice a L.length c) s w'))
  have TM := Lib.hid (fun u (h : SD w g (.slice a L.length c) s u) => (by
    refine (Dw.times_any _ L k u (hv.q h.here) (by omega) hd hk).mono ?_
    rintro e w' ⟨x, rfl, ho, hq⟩
    exact ⟨x, rfl, ho, h.q hq⟩ : Calls Tryz.prog 79 #[.slice a L.length c, .int .i64 (k : Int)] u fun e w' => ∃ x, e = .returned (.tuple #[x, .int .i64 0]) ∧ Lst w' x (Dm.dg (Dm.num L * k)) ∧ SD w g (.slice a L.length c) s w'))
  have hdl : (Dm.dg (Dm.num L * k)).length ≤ L.length + 4 := by
    refine Dm.dg_len_lt _ _ ?_
    have h1 := Dm.num_lt L hd
    have h2 : Dm.num L * k < 10 ^ L.length * 10 ^ 4 := by
      have h3 : Dm.num L * k ≤ Dm.num L * 1000 := Nat.mul_le_mul_left _ hk
      omega
    rwa [← Nat.pow_add] at h2
  have TR := Lib.hid (fun u x (hx : Lst u x (Dm.dg (Dm.num L * k))) (h : SD w g (.slice a L.length c) s u) => (by
    have e := trim_any g x s (Dm.dg (Dm.num L * k)) u hx (by omega) (Dm.okD_dg _) (by omega)
    rw [Dm.num_dg] at e
    refine e.mono ?_
    rintro e w' ⟨x, rfl, ho, hq⟩
    obtain ⟨ya, yc, rfl⟩ := ho.shape
    exact ⟨ya, yc, rfl, ho.mono (by have := h.room; omega), h.q hq⟩ : Calls Tryz.prog 44 #[.agg #[.bool g, x, .int .i64 s]] u fun e w' => ∃ ya yc, e = .returned (.agg #[.bool (Dm.cg g (Dm.num L * k)), .slice ya (Dm.dg (Dm.st (Dm.num L * k) s).1).length yc, .int .i64 ((Dm.st (Dm.num L * k) s).2 : Nat)]) ∧ LF w' (w.heap.size + 2) (.slice ya (Dm.dg (Dm.st (Dm.num L * k) s).1).length yc) (Dm.dg (Dm.st (Dm.num L * k) s).1) ∧ SD w g (.slice a L.length c) s w'))
  have HS := Lib.hid (SD.start w g (.slice a L.length c) s)
  generalize Dm.cg g (Dm.num L * k) = cs at *
  generalize Dm.dg (Dm.st (Dm.num L * k) s).1 = Z at *
  generalize (Dm.st (Dm.num L * k) s).2 = zs at *
  generalize Dm.dg (Dm.num L * k) = Y at *
  generalize L.length = n at *
  generalize Z.length = r at *
  have PUT := Lib.hid (fun u (h : SD w g (.slice a n c) s u) x y z => h.put x y z)
  clear hv hok hdl
  have hi1 : ¬ (k : Int) < 0 := by omega
  have hi2 : -1000 ≤ (k : Int) := by omega
  have hi3 : (k : Int) ≤ 1000 := by omega
  have hi5 : (-(k : Int)) ≤ (k : Int) := by omega
  have hi6 : ¬ (k : Int) < (-(k : Int)) := by omega
  cases g
  all_goals
    go_enter Tryz.func61, Tryz.ntmps61
    unfold dv
    go_wp2_with fail
    refine (MA.out _ HS.out).mono ?_
    rintro e w1 ⟨rfl, hS⟩
    have HS1 := Lib.hid hS
    unfold SD at hS
    obtain ⟨a0, a1, a2, b0, b1, b2, b3, b4, b5, _, _, _⟩ := hS
    go_wp2_with fail
    refine (TM.out _ HS1.out).mono ?_
    rintro e w2 ⟨x, rfl, hx, hS⟩
    obtain ⟨xa, xc, rfl⟩ := hx.shape
    generalize Y.length = y at *
    have HX := Lib.hid hx
    have HS2 := Lib.hid hS
    clear a0 a1 a2 b0 b1 b2 b3 b4 b5 hx
    unfold SD at hS
    obtain ⟨a0, a1, a2, b0, b1, b2, b3, b4, b5, _, _, _⟩ := hS
    go_wp2_with fail
    refine (TR.out _ _ HX.out HS2.out).mono ?_
    rintro e w3 ⟨ya, yc, rfl, hlf, hS⟩
    have hfin := PUT.out w3 hS (.bool cs) (.slice ya r yc) (.int .i64 zs)
    have hlf2 := hlf.put (r := w.heap.size + 1) (Nat.lt_succ_self _) (.bool cs) (.slice ya r yc) (.int .i64 zs)
    have HF := Lib.hid hfin.2
    have HO := Lib.hid hlf2
    have HQ := Lib.hid hfin.1.here
    clear a0 a1 a2 b0 b1 b2 b3 b4 b5 hfin hlf2 hlf
    unfold SD at hS
    obtain ⟨a0, a1, a2, b0, b1, b2, b3, b4, b5, _, _, _⟩ := hS
    go_wp2_with fail
    exact ret_dv2 rfl rfl rfl HF.out rfl ⟨_, rfl, HO.out, HQ.out⟩
set_option maxHeartbeats 3200000 in
theorem times_neg (g : Bool) (v : Value) (s k : Nat) (L : List Int) (w : World) (hv : Lst w v L) (hl : L.length < 100000) (hd : Dm.okD L) (hs : s ≤ 1000) (hk : k ≤ 1000) (hk0 : 0 < k) :
    Calls Tryz.prog 61 #[dv g v s, .int .i64 (-(k : Int))] w fun e w' => ∃ u, e = .returned (.tuple #[dv (Dm.cg (!g) (Dm.num L * k)) u ((Dm.st (Dm.num L * k) s).2 : Nat), .int .i64 0]) ∧ LF w' (w.heap.size + 2) u (Dm.dg (Dm.st (Dm.num L * k) s).1) ∧ Q w w' := by
  obtain ⟨a, c, rfl⟩ := hv.shape
  have hok := (Dm.okB_iff L).2 hd
  have MA := Lib.hid (fun u (k : SD w g (.slice a L.length c) s u) => (by
    have e := may_any g (.slice a L.length c) s L u (hv.q k.here) (by omega) (by omega)
    rw [hok, show decide (0 ≤ (s : Int)) = true from by simp, show decide ((s : Int) ≤ 1000) = true from by simp; omega] at e
    refine e.mono ?_
    rintro e w' ⟨rfl, hq⟩
    exact ⟨rfl, k.q hq⟩ : Calls Tryz.prog 47 #[.agg #[.bool g, .slice a L.length c, .int .i64 s]] u fun e w' => e = .returned (.bool true) ∧ SD w g (.slice a L.length c) s w'))
  have TM := Lib.hid (fun u (h : SD w g (.slice a L.length c) s u) => (by
    refine (Dw.times_any _ L k u (hv.q h.here) (by omega) hd hk).mono ?_
    rintro e w' ⟨x, rfl, ho, hq⟩
    exact ⟨x, rfl, ho, h.q hq⟩ : Calls Tryz.prog 79 #[.slice a L.length c, .int .i64 (k : Int)] u fun e w' => ∃ x, e = .returned (.tuple #[x, .int .i64 0]) ∧ Lst w' x (Dm.dg (Dm.num L * k)) ∧ SD w g (.slice a L.length c) s w'))
  have hdl : (Dm.dg (Dm.num L * k)).length ≤ L.length + 4 := by
    refine Dm.dg_len_lt _ _ ?_
    have h1 := Dm.num_lt L hd
    have h2 : Dm.num L * k < 10 ^ L.length * 10 ^ 4 := by
      have h3 : Dm.num L * k ≤ Dm.num L * 1000 := Nat.mul_le_mul_left _ hk
      omega
    rwa [← Nat.pow_add] at h2
  have TR := Lib.hid (fun u x (hx : Lst u x (Dm.dg (Dm.num L * k))) (h : SD w g (.slice a L.length c) s u) => (by
    have e := trim_any (!g) x s (Dm.dg (Dm.num L * k)) u hx (by omega) (Dm.okD_dg _) (by omega)
    rw [Dm.num_dg] at e
    refine e.mono ?_
    rintro e w' ⟨x, rfl, ho, hq⟩
    obtain ⟨ya, yc, rfl⟩ := ho.shape
    exact ⟨ya, yc, rfl, ho.mono (by have := h.room; omega), h.q hq⟩ : Calls Tryz.prog 44 #[.agg #[.bool (!g), x, .int .i64 s]] u fun e w' => ∃ ya yc, e = .returned (.agg #[.bool (Dm.cg (!g) (Dm.num L * k)), .slice ya (Dm.dg (Dm.st (Dm.num L * k) s).1).length yc, .int .i64 ((Dm.st (Dm.num L * k) s).2 : Nat)]) ∧ LF w' (w.heap.size + 2) (.slice ya (Dm.dg (Dm.st (Dm.num L * k) s).1).length yc) (Dm.dg (Dm.st (Dm.num L * k) s).1) ∧ SD w g (.slice a L.length c) s w'))
  have HS := Lib.hid (SD.start w g (.slice a L.length c) s)
  generalize Dm.cg (!g) (Dm.num L * k) = cs at *
  generalize Dm.dg (Dm.st (Dm.num L * k) s).1 = Z at *
  generalize (Dm.st (Dm.num L * k) s).2 = zs at *
  generalize Dm.dg (Dm.num L * k) = Y at *
  generalize L.length = n at *
  generalize Z.length = r at *
  have PUT := Lib.hid (fun u (h : SD w g (.slice a n c) s u) x y z => h.put x y z)
  clear hv hok hdl
  have hi1 : (-(k : Int)) < 0 := by omega
  have hi2 : ¬ (-(k : Int)) < -1000 := by omega
  have hi3 : (-(k : Int)) ≤ 1000 := by omega
  have hi4 : -1000 ≤ (-(k : Int)) := by omega
  have hi5 : (-(k : Int)) ≤ (k : Int) := by omega
  have hi6 : ¬ (k : Int) < (-(k : Int)) := by omega
  have hi7 : (-(k : Int)) < (k : Int) := by omega
  cases g
  all_goals
    go_enter Tryz.func61, Tryz.ntmps61
    unfold dv
    go_wp2_with fail
    refine (MA.out _ HS.out).mono ?_
    rintro e w1 ⟨rfl, hS⟩
    have HS1 := Lib.hid hS
    unfold SD at hS
    obtain ⟨a0, a1, a2, b0, b1, b2, b3, b4, b5, _, _, _⟩ := hS
    go_wp2_with fail
    refine (TM.out _ HS1.out).mono ?_
    rintro e w2 ⟨x, rfl, hx, hS⟩
    obtain ⟨xa, xc, rfl⟩ := hx.shape
    generalize Y.length = y at *
    have HX := Lib.hid hx
    have HS2 := Lib.hid hS
    clear a0 a1 a2 b0 b1 b2 b3 b4 b5 hx
    unfold SD at hS
    obtain ⟨a0, a1, a2, b0, b1, b2, b3, b4, b5, _, _, _⟩ := hS
    go_wp2_with fail
    refine (TR.out _ _ HX.out HS2.out).mono ?_
    rintro e w3 ⟨ya, yc, rfl, hlf, hS⟩
    have hfin := PUT.out w3 hS (.bool cs) (.slice ya r yc) (.int .i64 zs)
    have hlf2 := hlf.put (r := w.heap.size + 1) (Nat.lt_succ_self _) (.bool cs) (.slice ya r yc) (.int .i64 zs)
    have HF := Lib.hid hfin.2
    have HO := Lib.hid hlf2
    have HQ := Lib.hid hfin.1.here
    clear a0 a1 a2 b0 b1 b2 b3 b4 b5 hfin hlf2 hlf
    unfold SD at hS
    obtain ⟨a0, a1, a2, b0, b1, b2, b3, b4, b5, _, _, _⟩ := hS
    go_wp2_with fail
    exact ret_dv2 rfl rfl rfl HF.out rfl ⟨_, rfl, HO.out, HQ.out⟩
end Ep
end Go.Proofs.YtagpofhencpliaaGreatDoor
