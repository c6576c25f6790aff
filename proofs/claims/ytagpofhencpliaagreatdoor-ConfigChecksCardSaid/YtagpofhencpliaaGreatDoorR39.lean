/- The program's rounding and bounds: what each call comes to. (and more) -/
import Derived.Test.YtagpofhencpliaaGreatDoorR00
import Derived.Test.YtagpofhencpliaaGreatDoorR26
import Derived.Test.YtagpofhencpliaaGreatDoorR31
import Derived.Test.YtagpofhencpliaaGreatDoorR33
import Derived.Test.YtagpofhencpliaaGreatDoorR02
import Derived.Test.YtagpofhencpliaaGreatDoorR15
import Derived.Test.YtagpofhencpliaaGreatDoorR20
import Derived.Test.YtagpofhencpliaaGreatDoorR10
import Derived.Test.YtagpofhencpliaaGreatDoorR13
import Derived.Test.YtagpofhencpliaaGreatDoorR17
import Derived.Test.YtagpofhencpliaaGreatDoorR09
import Derived.Test.YtagpofhencpliaaGreatDoorR07
import Derived.Test.YtagpofhencpliaaGreatDoorR04
import Derived.Test.YtagpofhencpliaaGreatDoorR11
import Derived.Test.YtagpofhencpliaaGreatDoorR19
import Derived.Test.YtagpofhencpliaaGreatDoorR21
import Derived.Test.YtagpofhencpliaaGreatDoorR34
import Derived.Test.YtagpofhencpliaaGreatDoorR38
import Derived.Test.YtagpofhencpliaaGreatDoorR03
import Derived.Test.YtagpofhencpliaaGreatDoorRows
import Derived.Deep.CutRange
import Derived.Deep.CutBlock
import Derived.Deep.DeepCutAuto
import Derived.Deep.QuietTactic
import Derived.Deep.RegionWith
import Derived.Deep.RegionHeld3
import Derived.BigQuiet
import Derived.Laws.ResultCell
set_option linter.unusedVariables false
set_option linter.unusedSimpArgs false
namespace Go.Proofs.YtagpofhencpliaaGreatDoor
open Go.RowKit
namespace Rq
open Er (dv cellV LF LF.of LF.nil LF.mono LF.q LF.put LF.shape LF.lst block_cells some_cells block_set wrapI)
open Ep (SD SD.of SD.q SD.start SD.put SD.room SD.here SD.reset ret_dv ret_dv2)
def S1 (W : World) (b : Nat) (g : Bool) (v : Value) (s : Int) (u : World) : Prop := u.cell? ⟨b, 0, none⟩ = some (.bool g) ∧ (u.cell? ⟨b, 1, none⟩ = some v ∧ (u.cell? ⟨b, 2, none⟩ = some (.int .i64 s) ∧ Q W u))
theorem S1.here {W u : World} {b : Nat} {g : Bool} {v : Value} {s : Int} (k : S1 W b g v s u) : Q W u := k.2.2.2
def T1 (f : FuncId) (g : Bool) (s k : Int) (L : List Int) (gr : Bool) (Z : List Int) (sr er : Int) : Prop :=
  ∀ u v, Lst u v L → Calls Tryz.prog f #[.agg #[.bool g, v, .int .i64 s], .int .i64 k] u fun e w' => ∃ a c, e = .returned (.tuple #[.agg #[.bool gr, .slice a Z.length c, .int .i64 sr], .int .i64 er]) ∧ LF w' u.heap.size (.slice a Z.length c) Z ∧ Q u w'
theorem align_far (g : Bool) (s : Nat) (k : Int) (L : List Int) (hl : L.length < 10000) (hd : Dm.okD L) (hs : s ≤ 1000) (hk : k < ((Dm.st (Dm.num L) s).2 : Nat) ∨ 1000 < k) (hk1 : -9223372036854775808 ≤ k ∧ k ≤ 9223372036854775807) : T1 78 g s k L false [] 0 3 := by
  intro u v hv
  refine (Ep.align_far g v s k L u hv hl hd hs hk hk1).mono ?_
  rintro e w' ⟨rfl, hq⟩
  exact ⟨none, 0, rfl, LF.nil _ _, hq⟩
theorem align_own (g : Bool) (s : Nat) (k : Nat) (L : List Int) (hl : L.length < 10000) (hd : Dm.okD L) (hs : s ≤ 1000) (hk : (Dm.st (Dm.num L) s).2 ≤ k) (hk2 : k ≤ 1000) : T1 78 g s k L (Dm.cg g (Dm.num L)) (Dm.dg ((Dm.st (Dm.num L) s).1 * 10 ^ (k - (Dm.st (Dm.num L) s).2))) k 0 := by
  intro u v hv
  refine (Ep.align_any g v s k L u hv hl hd hs hk hk2).mono ?_
  rintro e w' ⟨x, rfl, ho, hq⟩
  obtain ⟨a, c, rfl⟩ := ho.shape
  exact ⟨a, c, rfl, ho.mono (by omega), hq⟩
set_option maxHeartbeats 1600000 in
theorem exact_walk (g : Bool) (v : Value) (s k : Int) (L : List Int) (w : World) (hv : Lst w v L) (gr : Bool) (Z : List Int) (sr er : Int) (hA : T1 78 g s k L gr Z sr er) (her : er = 0 ∨ er = 3) :
    Calls Tryz.prog 76 #[dv g v s, .int .i64 k] w fun e w' => e = .returned (.bool (decide (er = 0))) ∧ Q w w' := by
  obtain ⟨a, c, rfl⟩ := hv.shape
  unfold T1 at hA
  have HA := Lib.hid hA
  have HV := Lib.hid hv
  generalize L.length = l at *
  generalize Z.length = z at *
  clear hA hv
  go_enter Tryz.func76, Tryz.ntmps76
  unfold dv
  have Q0 := Lib.hid (show Q w (w.alloc (.cells #[.bool g, .slice a l c, .int .i64 s] 36)) from (Q.refl w).alloc (.cells #[.bool g, .slice a l c, .int .i64 s] 36))
  have B0 := Lib.hid (heap_alloc_new w (.cells #[.bool g, .slice a l c, .int .i64 s] 36))
  have LV := Lib.hid (HV.out.q Q0.out)
  obtain ⟨k0, k1, k2, _, _, _⟩ := block_cells B0.out
  go_wp2_with fail
  refine (HA.out _ _ LV.out).mono ?_
  rintro e z1 ⟨a9, c9, rfl, hx9, hq⟩
  have HQC := Lib.hid (Q0.out.trans hq)
  clear hq hx9 k0 k1 k2
  rcases her with rfl | rfl
  all_goals
    go_wp2_with fail
    go_ret
    exact ⟨rfl, HQC.out.alloc _⟩
theorem exact_any (g : Bool) (v : Value) (s : Nat) (k : Int) (L : List Int) (w : World) (hv : Lst w v L) (hl : L.length < 10000) (hd : Dm.okD L) (hs : s ≤ 1000) (hk1 : -9223372036854775808 ≤ k ∧ k ≤ 9223372036854775807) :
    Calls Tryz.prog 76 #[dv g v s, .int .i64 k] w fun e w' => e = .returned (.bool (decide (0 ≤ k) && decide (k ≤ 1000) && decide (((Dm.st (Dm.num L) s).2 : Nat) ≤ k))) ∧ Q w w' := by
  by_cases h : k < ((Dm.st (Dm.num L) s).2 : Nat) ∨ 1000 < k
  · have e := exact_walk g v s k L w hv _ _ _ _ (align_far g s k L hl hd hs h hk1) (.inr rfl)
    refine e.mono ?_
    rintro e w' ⟨rfl, hq⟩
    exact ⟨retB (by simp; omega), hq⟩
  · obtain ⟨n, rfl⟩ : ∃ n : Nat, k = n := ⟨k.toNat, by omega⟩
    have e := exact_walk g v s n L w hv _ _ _ _ (align_own g s n L hl hd hs (by omega) (by omega)) (.inl rfl)
    refine e.mono ?_
    rintro e w' ⟨rfl, hq⟩
    exact ⟨retB (by simp; omega), hq⟩
theorem two_set {u : World} {b d : Nat} {g : Bool} {v : Value} {s : Int} {T : TypeId} {o : Obj} (h0 : u.heap[b]? = some (.cells #[.bool g, v, .int .i64 s] T)) (h1 : u.heap[d]? = some o) (hd : b ≠ d) (x y z : Value) :
    (((u.setCell ⟨b, 0, none⟩ x).setCell ⟨b, 1, none⟩ y).setCell ⟨b, 2, none⟩ z).heap[b]? = some (.cells #[x, y, z] T) ∧ (((u.setCell ⟨b, 0, none⟩ x).setCell ⟨b, 1, none⟩ y).setCell ⟨b, 2, none⟩ z).heap[d]? = some o := by
  refine ⟨block_set h0, ?_⟩
  rw [heap_setCell_other _ ⟨b, 2, none⟩ _ z (by simpa using Ne.symm hd), heap_setCell_other _ ⟨b, 1, none⟩ _ y (by simpa using Ne.symm hd), heap_setCell_other _ ⟨b, 0, none⟩ _ x (by simpa using Ne.symm hd)]
  exact h1
set_option maxHeartbeats 3200000 in
theorem to_same (g : Bool) (v : Value) (s n : Nat) (m : Int) (L : List Int) (w : World) (hv : Lst w v L) (hl : L.length < 9000) (hd : Dm.okD L) (hs : s ≤ 1000) (hn : n ≤ 1000) (hm : 0 ≤ m ∧ m ≤ 6) (hx : (Dm.st (Dm.num L) s).2 ≤ n) :
    Calls Tryz.prog 59 #[dv g v s, .int .i64 n, .int .i64 m] w fun e w' => ∃ x, e = .returned (.tuple #[dv (Dm.cg g (Rm.rk g (Dm.st (Dm.num L) s).1 (Dm.st (Dm.num L) s).2 n m)) x n, .int .i64 0]) ∧ LF w' w.heap.size x (Dm.dg (Rm.rk g (Dm.st (Dm.num L) s).1 (Dm.st (Dm.num L) s).2 n m)) ∧ Q w w' := by
  obtain ⟨a, c, rfl⟩ := hv.shape
  have hok := (Dm.okB_iff L).2 hd
  have MA := Lib.hid (fun u (q : Q w u) => (by
    have e := Ep.may_any g (.slice a L.length c) s L u (hv.q q) (by omega) (by omega)
    rw [hok, show decide (0 ≤ (s : Int)) = true from by simp, show decide ((s : Int) ≤ 1000) = true from by simp; omega] at e
    exact e : Calls Tryz.prog 47 #[.agg #[.bool g, .slice a L.length c, .int .i64 s]] u fun e w' => e = .returned (.bool true) ∧ Q u w'))
  have MO := Lib.hid (fun u => (by
    have e := mayMode_any m u (by omega)
    rw [show (decide (0 ≤ m) && decide (m ≤ 6)) = true from by simp; omega] at e
    exact e : Calls Tryz.prog 45 #[.int .i64 m] u fun e w' => e = .returned (.bool true) ∧ u = w'))
  have hn0 : ¬ (n : Int) < 0 := by omega
  have hn1 : (0 : Int) ≤ (n : Int) := by omega
  have hn2 : (n : Int) ≤ 1000 := by omega
  have EXC := Lib.hid (fun u (q : Q w u) => (by
    have e := exact_any g (.slice a L.length c) s n L u (hv.q q) (by omega) hd hs (by omega)
    rw [show (decide (0 ≤ (n : Int)) && decide ((n : Int) ≤ 1000) && decide (((Dm.st (Dm.num L) s).2 : Int) ≤ (n : Int))) = true from by simp; omega] at e
    exact e : Calls Tryz.prog 76 #[.agg #[.bool g, .slice a L.length c, .int .i64 s], .int .i64 n] u fun e w' => e = .returned (.bool true) ∧ Q u w'))
  have AG := align_own g s n L (by omega) hd hs hx hn
  unfold T1 at AG
  have hR : Rm.rk g (Dm.st (Dm.num L) s).1 (Dm.st (Dm.num L) s).2 n m = (Dm.st (Dm.num L) s).1 * 10 ^ (n - (Dm.st (Dm.num L) s).2) := by
    unfold Rm.rk Rm.lo
    rw [if_pos hx, if_pos hx]
  have hcg : Dm.cg g (Dm.num L) = Dm.cg g ((Dm.st (Dm.num L) s).1 * 10 ^ (n - (Dm.st (Dm.num L) s).2)) := by
    unfold Dm.cg
    have h1 := Dm.st_eq0 (Dm.num L) s
    have h2 : 0 < 10 ^ (n - (Dm.st (Dm.num L) s).2) := Nat.pow_pos (by omega)
    by_cases h : Dm.num L = 0
    · rw [if_pos h, h1.2 h, Nat.zero_mul, if_pos rfl]
    · rw [if_neg h, if_neg (fun e => h (h1.1 ((Nat.mul_eq_zero.1 e).resolve_right (Nat.ne_of_gt h2))))]
  rw [hcg] at AG
  rw [hR]
  generalize (Dm.st (Dm.num L) s).1 * 10 ^ (n - (Dm.st (Dm.num L) s).2) = R at *
  generalize Dm.cg g R = cs at *
  generalize Dm.dg R = Z at *
  generalize Z.length = z at *
  have AL := Lib.hid AG
  have HV := Lib.hid hv
  generalize L.length = l at *
  clear AG hR hcg hx hv hok hd
  go_enter Tryz.func59, Tryz.ntmps59
  have Q0 := Lib.hid (show Q w ((w.alloc (.cells #[.bool g, .slice a l c, .int .i64 s] 36)).alloc (.cells #[.bool false, .slice none 0 0, .int .i64 0] 36)) from (((Q.refl w).alloc (.cells #[.bool g, .slice a l c, .int .i64 s] 36)).alloc (.cells #[.bool false, .slice none 0 0, .int .i64 0] 36)))
  have B0_d := Lib.hid (show ((w.alloc (.cells #[.bool g, .slice a l c, .int .i64 s] 36)).alloc (.cells #[.bool false, .slice none 0 0, .int .i64 0] 36)).heap[w.heap.size]? = some (.cells #[.bool g, .slice a l c, .int .i64 s] 36) from heap_alloc2_old _ _ _)
  have B0_R := Lib.hid (show ((w.alloc (.cells #[.bool g, .slice a l c, .int .i64 s] 36)).alloc (.cells #[.bool false, .slice none 0 0, .int .i64 0] 36)).heap[w.heap.size + 1]? = some (.cells #[.bool false, .slice none 0 0, .int .i64 0] 36) from heap_alloc2_new _ _ _)
  unfold dv
  obtain ⟨k_d0, k_d1, k_d2, _, _, _⟩ := Er.block_cells B0_d.out
  obtain ⟨k_R0, k_R1, k_R2, _, _, _⟩ := Er.block_cells B0_R.out
  go_wp2_with fail
  refine (MA.out _ Q0.out).mono ?_
  rintro e z1 ⟨rfl, hq⟩
  clear k_d0 k_d1 k_d2 k_R0 k_R1 k_R2
  have B1_d := Lib.hid ((Q.block hq (lt_of_block B0_d.out)).trans B0_d.out)
  clear B0_d
  have B1_R := Lib.hid ((Q.block hq (lt_of_block B0_R.out)).trans B0_R.out)
  clear B0_R
  have Q1 := Lib.hid (Q.trans Q0.out hq)
  clear Q0
  clear hq
  obtain ⟨k_d0, k_d1, k_d2, _, _, _⟩ := Er.block_cells B1_d.out
  obtain ⟨k_R0, k_R1, k_R2, _, _, _⟩ := Er.block_cells B1_R.out
  go_wp2_with fail
  refine (MO.out _).mono ?_
  rintro e y ⟨rfl, rfl⟩
  clear k_d0 k_d1 k_d2 k_R0 k_R1 k_R2
  obtain ⟨k_d0, k_d1, k_d2, _, _, _⟩ := Er.block_cells B1_d.out
  obtain ⟨k_R0, k_R1, k_R2, _, _, _⟩ := Er.block_cells B1_R.out
  go_wp2_with fail
  refine (EXC.out _ Q1.out).mono ?_
  rintro e z2 ⟨rfl, hq⟩
  clear k_d0 k_d1 k_d2 k_R0 k_R1 k_R2
  have B2_d := Lib.hid ((Q.block hq (lt_of_block B1_d.out)).trans B1_d.out)
  clear B1_d
  have B2_R := Lib.hid ((Q.block hq (lt_of_block B1_R.out)).trans B1_R.out)
  clear B1_R
  have Q2 := Lib.hid (Q.trans Q1.out hq)
  clear Q1
  clear hq
  obtain ⟨k_d0, k_d1, k_d2, _, _, _⟩ := Er.block_cells B2_d.out
  obtain ⟨k_R0, k_R1, k_R2, _, _, _⟩ := Er.block_cells B2_R.out
  go_wp2_with fail
  refine (AL.out _ _ (HV.out.q Q2.out)).mono ?_
  rintro e z9 ⟨xa, xc, rfl, hlf, hq⟩
  clear k_d0 k_d1 k_d2 k_R0 k_R1 k_R2
  have HLF := Lib.hid (hlf.mono (show w.heap.size + 2 ≤ _ from lt_of_block B2_R.out))
  clear hlf
  have B4_d := Lib.hid ((Q.block hq (lt_of_block B2_d.out)).trans B2_d.out)
  clear B2_d
  have B4_R := Lib.hid ((Q.block hq (lt_of_block B2_R.out)).trans B2_R.out)
  clear B2_R
  have Q4 := Lib.hid (Q.trans Q2.out hq)
  clear Q2
  clear hq
  have hset := Lib.hid (block_set (x' := .bool cs) (y' := .slice xa z xc) (z' := .int .i64 n) B4_R.out)
  have hlr := Lib.hid (LF.put (r := w.heap.size + 1) HLF.out (by omega) (.bool cs) (.slice xa z xc) (.int .i64 n))
  have HQE := Lib.hid (Q.setCell (Q.setCell (Q.setCell Q4.out (ad := ⟨w.heap.size + 1, 0, none⟩) (by show w.heap.size ≤ w.heap.size + 1; omega) (.bool cs)) (ad := ⟨w.heap.size + 1, 1, none⟩) (by show w.heap.size ≤ w.heap.size + 1; omega) (.slice xa z xc)) (ad := ⟨w.heap.size + 1, 2, none⟩) (by show w.heap.size ≤ w.heap.size + 1; omega) (.int .i64 n))
  obtain ⟨k_d0, k_d1, k_d2, _, _, _⟩ := Er.block_cells B4_d.out
  obtain ⟨k_R0, k_R1, k_R2, _, _, _⟩ := Er.block_cells B4_R.out
  obtain ⟨_, _, _, r3, r4, r5⟩ := block_cells B4_R.out
  go_wp2_with fail
  exact ret_dv2 rfl rfl rfl hset.out rfl ⟨_, rfl, hlr.out.mono (by omega), HQE.out⟩
set_option maxHeartbeats 3200000 in
theorem to_next (g : Bool) (v : Value) (s n : Nat) (m : Int) (L : List Int) (w : World) (hv : Lst w v L) (hl : L.length < 9000) (hd : Dm.okD L) (hs : s ≤ 1000) (hn : n ≤ 1000) (hm : 0 ≤ m ∧ m ≤ 6) (hx : n < (Dm.st (Dm.num L) s).2) :
    Calls Tryz.prog 59 #[dv g v s, .int .i64 n, .int .i64 m] w fun e w' => ∃ x, e = .returned (.tuple #[dv (Dm.cg g (Rm.rk g (Dm.st (Dm.num L) s).1 (Dm.st (Dm.num L) s).2 n m)) x n, .int .i64 0]) ∧ LF w' w.heap.size x (Dm.dg (Rm.rk g (Dm.st (Dm.num L) s).1 (Dm.st (Dm.num L) s).2 n m)) ∧ Q w w' := by
  obtain ⟨a, c, rfl⟩ := hv.shape
  have hok := (Dm.okB_iff L).2 hd
  have MA := Lib.hid (fun u (q : Q w u) => (by
    have e := Ep.may_any g (.slice a L.length c) s L u (hv.q q) (by omega) (by omega)
    rw [hok, show decide (0 ≤ (s : Int)) = true from by simp, show decide ((s : Int) ≤ 1000) = true from by simp; omega] at e
    exact e : Calls Tryz.prog 47 #[.agg #[.bool g, .slice a L.length c, .int .i64 s]] u fun e w' => e = .returned (.bool true) ∧ Q u w'))
  have MO := Lib.hid (fun u => (by
    have e := mayMode_any m u (by omega)
    rw [show (decide (0 ≤ m) && decide (m ≤ 6)) = true from by simp; omega] at e
    exact e : Calls Tryz.prog 45 #[.int .i64 m] u fun e w' => e = .returned (.bool true) ∧ u = w'))
  have hn0 : ¬ (n : Int) < 0 := by omega
  have hn1 : (0 : Int) ≤ (n : Int) := by omega
  have hn2 : (n : Int) ≤ 1000 := by omega
  have EXC := Lib.hid (fun u (q : Q w u) => (by
    have e := exact_any g (.slice a L.length c) s n L u (hv.q q) (by omega) hd hs (by omega)
    rw [show (decide (0 ≤ (n : Int)) && decide ((n : Int) ≤ 1000) && decide (((Dm.st (Dm.num L) s).2 : Int) ≤ (n : Int))) = false from by simp; omega] at e
    exact e : Calls Tryz.prog 76 #[.agg #[.bool g, .slice a L.length c, .int .i64 s], .int .i64 n] u fun e w' => e = .returned (.bool false) ∧ Q u w'))
  have NX := Lib.hid (fun u (q : Q w u) => (by
    refine (next_any g (.slice a L.length c) s n m L u (hv.q q) (by omega) hd hs hx hm).mono ?_
    rintro e w' ⟨x, rfl, Z, ho, hl2, hd2, hz2, hq⟩
    obtain ⟨xa, xc, rfl⟩ := ho.shape
    refine ⟨xa, Z.length, xc, rfl, Z, ho, ?_, hq⟩
    have h := align_own g n n Z (by omega) hd2 hn (Dm.st_le _ _) hn
    rw [hz2, Dm.st_num] at h
    exact h : Calls Tryz.prog 77 #[.agg #[.bool g, .slice a L.length c, .int .i64 s], .int .i64 n, .int .i64 m] u fun e w' => ∃ xa z xc, e = .returned (.agg #[.bool g, .slice xa z xc, .int .i64 n]) ∧ ∃ Z, LF w' (u.heap.size + 2) (.slice xa z xc) Z ∧ T1 78 g n n Z (Dm.cg g (Rm.rk g (Dm.st (Dm.num L) s).1 (Dm.st (Dm.num L) s).2 n m)) (Dm.dg (Rm.rk g (Dm.st (Dm.num L) s).1 (Dm.st (Dm.num L) s).2 n m)) n 0 ∧ Q u w'))
  generalize Rm.rk g (Dm.st (Dm.num L) s).1 (Dm.st (Dm.num L) s).2 n m = R at *
  generalize Dm.cg g R = cs at *
  generalize Dm.dg R = Z at *
  generalize L.length = l at *
  unfold T1 at NX
  generalize Z.length = z at *
  clear hx hv hok hd
  go_enter Tryz.func59, Tryz.ntmps59
  have Q0 := Lib.hid (show Q w ((w.alloc (.cells #[.bool g, .slice a l c, .int .i64 s] 36)).alloc (.cells #[.bool false, .slice none 0 0, .int .i64 0] 36)) from (((Q.refl w).alloc (.cells #[.bool g, .slice a l c, .int .i64 s] 36)).alloc (.cells #[.bool false, .slice none 0 0, .int .i64 0] 36)))
  have B0_d := Lib.hid (show ((w.alloc (.cells #[.bool g, .slice a l c, .int .i64 s] 36)).alloc (.cells #[.bool false, .slice none 0 0, .int .i64 0] 36)).heap[w.heap.size]? = some (.cells #[.bool g, .slice a l c, .int .i64 s] 36) from heap_alloc2_old _ _ _)
  have B0_R := Lib.hid (show ((w.alloc (.cells #[.bool g, .slice a l c, .int .i64 s] 36)).alloc (.cells #[.bool false, .slice none 0 0, .int .i64 0] 36)).heap[w.heap.size + 1]? = some (.cells #[.bool false, .slice none 0 0, .int .i64 0] 36) from heap_alloc2_new _ _ _)
  unfold dv
  obtain ⟨k_d0, k_d1, k_d2, _, _, _⟩ := Er.block_cells B0_d.out
  obtain ⟨k_R0, k_R1, k_R2, _, _, _⟩ := Er.block_cells B0_R.out
  go_wp2_with fail
  refine (MA.out _ Q0.out).mono ?_
  rintro e z1 ⟨rfl, hq⟩
  clear k_d0 k_d1 k_d2 k_R0 k_R1 k_R2
  have B1_d := Lib.hid ((Q.block hq (lt_of_block B0_d.out)).trans B0_d.out)
  clear B0_d
  have B1_R := Lib.hid ((Q.block hq (lt_of_block B0_R.out)).trans B0_R.out)
  clear B0_R
  have Q1 := Lib.hid (Q.trans Q0.out hq)
  clear Q0
  clear hq
  obtain ⟨k_d0, k_d1, k_d2, _, _, _⟩ := Er.block_cells B1_d.out
  obtain ⟨k_R0, k_R1, k_R2, _, _, _⟩ := Er.block_cells B1_R.out
  go_wp2_with fail
  refine (MO.out _).mono ?_
  rintro e y ⟨rfl, rfl⟩
  clear k_d0 k_d1 k_d2 k_R0 k_R1 k_R2
  obtain ⟨k_d0, k_d1, k_d2, _, _, _⟩ := Er.block_cells B1_d.out
  obtain ⟨k_R0, k_R1, k_R2, _, _, _⟩ := Er.block_cells B1_R.out
  go_wp2_with fail
  refine (EXC.out _ Q1.out).mono ?_
  rintro e z2 ⟨rfl, hq⟩
  clear k_d0 k_d1 k_d2 k_R0 k_R1 k_R2
  have B2_d := Lib.hid ((Q.block hq (lt_of_block B1_d.out)).trans B1_d.out)
  clear B1_d
  have B2_R := Lib.hid ((Q.block hq (lt_of_block B1_R.out)).trans B1_R.out)
  clear B1_R
  have Q2 := Lib.hid (Q.trans Q1.out hq)
  clear Q1
  clear hq
  obtain ⟨k_d0, k_d1, k_d2, _, _, _⟩ := Er.block_cells B2_d.out
  obtain ⟨k_R0, k_R1, k_R2, _, _, _⟩ := Er.block_cells B2_R.out
  go_wp2_with fail
  refine (NX.out _ Q2.out).mono ?_
  rintro e z8 ⟨xa, p, xc, rfl, Y, hlf, hal, hq⟩
  clear k_d0 k_d1 k_d2 k_R0 k_R1 k_R2
  have HLF := Lib.hid (hlf.mono (show w.heap.size + 2 ≤ _ from Nat.le_trans (lt_of_block B2_R.out) (Nat.le_add_right _ _)))
  have AL := Lib.hid hal
  clear hlf hal
  have B4_d := Lib.hid ((Q.block hq (lt_of_block B2_d.out)).trans B2_d.out)
  clear B2_d
  have B4_R := Lib.hid ((Q.block hq (lt_of_block B2_R.out)).trans B2_R.out)
  clear B2_R
  have Q4 := Lib.hid (Q.trans Q2.out hq)
  clear Q2
  clear hq
  have hts := two_set B4_d.out B4_R.out (by omega) (.bool g) (.slice xa p xc) (.int .i64 n)
  have hlp := HLF.out.put (r := w.heap.size) (by omega) (.bool g) (.slice xa p xc) (.int .i64 n)
  have hqp := (Q.setCell (Q.setCell (Q.setCell Q4.out (ad := ⟨w.heap.size, 0, none⟩) (Nat.le_refl _) (.bool g)) (ad := ⟨w.heap.size, 1, none⟩) (Nat.le_refl _) (.slice xa p xc)) (ad := ⟨w.heap.size, 2, none⟩) (Nat.le_refl _) (.int .i64 n))
  have HTD := Lib.hid hts.1
  have HTR := Lib.hid hts.2
  have HLP := Lib.hid hlp
  have HQP := Lib.hid hqp
  clear hts hlp hqp
  obtain ⟨k_d0, k_d1, k_d2, _, _, _⟩ := Er.block_cells B4_d.out
  obtain ⟨k_R0, k_R1, k_R2, _, _, _⟩ := Er.block_cells B4_R.out
  obtain ⟨_, _, _, r0, r1, r2⟩ := block_cells B4_d.out
  obtain ⟨t0, t1, t2, _, _, _⟩ := block_cells HTD.out
  go_wp2_with fail
  refine (AL.out _ _ HLP.out.lst).mono ?_
  rintro e z9 ⟨ya, yc, rfl, hlf, hq⟩
  clear r0 r1 r2 t0 t1 t2 k_d0 k_d1 k_d2 k_R0 k_R1 k_R2
  have HLG := Lib.hid (hlf.mono (show w.heap.size + 2 ≤ _ from lt_of_block HTR.out))
  clear hlf
  have B6_d := Lib.hid ((Q.block hq (lt_of_block HTD.out)).trans HTD.out)
  clear HTD
  have B6_R := Lib.hid ((Q.block hq (lt_of_block HTR.out)).trans HTR.out)
  clear HTR
  have Q6 := Lib.hid (Q.trans HQP.out hq)
  clear HQP
  clear hq
  have hset := Lib.hid (block_set (x' := .bool cs) (y' := .slice ya z yc) (z' := .int .i64 n) B6_R.out)
  have hlr := Lib.hid (LF.put (r := w.heap.size + 1) HLG.out (by omega) (.bool cs) (.slice ya z yc) (.int .i64 n))
  have HQE := Lib.hid (Q.setCell (Q.setCell (Q.setCell Q6.out (ad := ⟨w.heap.size + 1, 0, none⟩) (by show w.heap.size ≤ w.heap.size + 1; omega) (.bool cs)) (ad := ⟨w.heap.size + 1, 1, none⟩) (by show w.heap.size ≤ w.heap.size + 1; omega) (.slice ya z yc)) (ad := ⟨w.heap.size + 1, 2, none⟩) (by show w.heap.size ≤ w.heap.size + 1; omega) (.int .i64 n))
  obtain ⟨k_d0, k_d1, k_d2, _, _, _⟩ := Er.block_cells B6_d.out
  obtain ⟨k_R0, k_R1, k_R2, _, _, _⟩ := Er.block_cells B6_R.out
  obtain ⟨_, _, _, r3, r4, r5⟩ := block_cells B6_R.out
  go_wp2_with fail
  exact ret_dv2 rfl rfl rfl hset.out rfl ⟨_, rfl, hlr.out.mono (by omega), HQE.out⟩
theorem to_any (g : Bool) (v : Value) (s n : Nat) (m : Int) (L : List Int) (w : World) (hv : Lst w v L) (hl : L.length < 9000) (hd : Dm.okD L) (hs : s ≤ 1000) (hn : n ≤ 1000) (hm : 0 ≤ m ∧ m ≤ 6) :
    Calls Tryz.prog 59 #[dv g v s, .int .i64 n, .int .i64 m] w fun e w' => ∃ x, e = .returned (.tuple #[dv (Dm.cg g (Rm.rk g (Dm.st (Dm.num L) s).1 (Dm.st (Dm.num L) s).2 n m)) x n, .int .i64 0]) ∧ LF w' w.heap.size x (Dm.dg (Rm.rk g (Dm.st (Dm.num L) s).1 (Dm.st (Dm.num L) s).2 n m)) ∧ Q w w' := by
  by_cases h : (Dm.st (Dm.num L) s).2 ≤ n
  · exact to_same g v s n m L w hv hl hd hs hn hm h
  · exact to_next g v s n m L w hv hl hd hs hn hm (by omega)
set_option maxHeartbeats 1600000 in
theorem name_any (k : Int) (w : World) (hk : -9223372036854775808 ≤ k ∧ k ≤ 9223372036854775807) : Calls Tryz.prog 21 #[.int .i64 k] w fun e w' => e = .returned (.string (Rm.nm k)) ∧ Q w w' := by
  have MO := Lib.hid (fun u => mayMode_any k u hk)
  by_cases h : 0 ≤ k ∧ k ≤ 6
  · rw [show (decide (0 ≤ k) && decide (k ≤ 6)) = true from by simp [h]] at MO
    obtain ⟨h1, h2⟩ := h
    rcases (show k = 0 ∨ k = 1 ∨ k = 2 ∨ k = 3 ∨ k = 4 ∨ k = 5 ∨ k = 6 from by omega) with rfl | rfl | rfl | rfl | rfl | rfl | rfl
    all_goals
      go_enter Tryz.func21, Tryz.ntmps21
      go_wp2_with fail
      refine (MO.out _).mono ?_
      rintro e y ⟨rfl, rfl⟩
      go_wp2_with fail
      go_ret
      exact ⟨rfl, (Q.refl w).alloc _⟩
  · rw [show (decide (0 ≤ k) && decide (k ≤ 6)) = false from by simp; omega] at MO
    have HE := Lib.hid (Rm.nm_out k (by omega))
    clear h
    go_enter Tryz.func21, Tryz.ntmps21
    go_wp2_with fail
    refine (MO.out _).mono ?_
    rintro e y ⟨rfl, rfl⟩
    go_wp2_with fail
    go_ret
    rw [HE.out]
    exact ⟨rfl, Q.refl w⟩
end Rq
end Go.Proofs.YtagpofhencpliaaGreatDoor
