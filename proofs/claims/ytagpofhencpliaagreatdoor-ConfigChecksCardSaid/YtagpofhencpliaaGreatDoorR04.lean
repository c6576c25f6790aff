/- A list copied into one of the call's own; bytes that the call makes, written in place, and their text. (and more) -/
import Derived.Test.YtagpofhencpliaaGreatDoorR00
import Derived.Test.YtagpofhencpliaaGreatDoorR02
import Derived.Test.YtagpofhencpliaaGreatDoorR03
import Derived.Test.YtagpofhencpliaaGreatDoorRows
import Derived.Laws.OwnMore
import Derived.Laws.BytesArg
import Derived.OwnWalk
import Derived.Laws.CopyOwn
import Derived.Deep.QuietTactic
import Derived.Deep.RegionWith
import Derived.BigQuiet
import Derived.Lib.SmallJoins
import Derived.Lib.Builder
import Derived.ShutString
set_option linter.unusedVariables false
set_option linter.unusedSimpArgs false
namespace Go.Proofs.YtagpofhencpliaaGreatDoor
open Go.RowKit
theorem Own.full {w : World} {B g n : Nat} {zs : List Int} (h : Own w B (.slice (some ⟨g, 0, none⟩) n n) zs) (hn : zs.length = n) : w.heap[g]? = some (.cells (zs.map (Value.int .i64)).toArray 3 (0, 0)) ∧ B ≤ g ∧ n ≤ maxLen := by
  rcases h.2 with ⟨h1, _⟩ | ⟨g', cap, cur, hv, hg, hh, hnc, hcm, hcs, ht⟩
  · cases h1
  · cases hv
    refine ⟨?_, hg, hcm⟩
    rw [hh]
    have e : cur = (zs.map (Value.int .i64)).toArray := by
      apply Array.toList_inj.1
      rw [List.toList_toArray, ← ht, List.take_of_length_le (by rw [Array.length_toList, hcs, hn]; exact Nat.le_refl _)]
    rw [e]
theorem Own.ofFull {w : World} {B g n : Nat} {zs : List Int} (hh : w.heap[g]? = some (.cells (zs.map (Value.int .i64)).toArray 3 (0, 0))) (hn : zs.length = n) (hB : B ≤ g) (hm : n ≤ maxLen) : Own w B (.slice (some ⟨g, 0, none⟩) n n) zs := by
  subst hn
  exact ⟨by simp, .inr ⟨g, zs.length, _, rfl, hB, hh, Nat.le_refl _, hm, by simp, List.take_of_length_le (by simp)⟩⟩
theorem sizeInt : (Tryz.prog.info? 3).map (·.size) = some 1 := by kernel_rfl
theorem copy_ints {w : World} {B g n : Nat} {zs xs : List Int} {u : Value} (hown : Own w B (.slice (some ⟨g, 0, none⟩) n n) zs) (hn : zs.length = n) (hu : Lst w u xs) {ops : Array Oper} {rest : List Oper} {o : Oper} {a : Act} {R : Exit → Act → World → Prop} (hgd : o.guard = none) (d s : Operand)
    (ho : o.op = .call { callee := .builtin .copy, args := #[d, s], argTypes := #[26, 26] }) (hd : a.eval d = .slice (some ⟨g, 0, none⟩) n n) (hs : a.eval s = u)
    (h : ∀ w' v, Own w' B (.slice (some ⟨g, 0, none⟩) n n) (xs.take n ++ zs.drop (min xs.length n)) → Below B w w' → wpList Tryz.prog ops R rest (a.put o.dst v) w') :
    wpList Tryz.prog ops R (o :: rest) a w := by
  obtain ⟨hh, hB, hm⟩ := hown.full hn
  obtain ⟨sp, sc, rfl, hnc, hcm⟩ := hu.shape2
  have hcl : ((xs.take n).map (Value.int .i64)).length = min n xs.length := by simp
  refine wpList_copy_splice hgd d s _ _ ho 3 Tryz.underlying26 sizeInt _ sp n n xs.length sc hd hs g 0 (zs.map (Value.int .i64)) 3 hh ((xs.take n).map (Value.int .i64)) (by rw [hcl]; exact Nat.min_comm _ _) ?_ (by rw [hcl, List.length_map]; omega) ?_ B w (Below.refl _ _) hB ?_
  · intro hpos
    refine ⟨rfl, ?_⟩
    rw [hcl] at hpos
    rcases hu with ⟨rfl, _⟩ | ⟨g2, off, cap, hv, hg, h1, h2, hc⟩
    · simp at hpos
    · cases hv
      refine ⟨_, rfl, fun j v hj => ?_⟩
      have hjl := (List.getElem?_eq_some_iff.1 hj).1
      rw [hcl] at hjl
      have hadd : (⟨g2, off, none⟩ : Addr).add j = ⟨g2, off + j, none⟩ := by unfold Addr.add; split <;> simp_all
      rw [hadd, hc j (by omega)]
      rw [List.getElem?_map, List.getElem?_take, if_pos (by omega), List.getElem?_eq_getElem (by omega)] at hj
      rw [List.getD_eq_getElem?_getD, List.getElem?_eq_getElem (by omega)]
      simpa using hj
  · intro v hv
    obtain ⟨_, _, rfl⟩ := List.mem_map.1 hv
    rfl
  · intro w' hw' hb'
    have hw := hw'.out
    refine h w' _ (Own.ofFull ?_ ?_ hB hm) hb'
    · rw [hw]
      unfold splice
      rw [List.take_zero, List.nil_append, hcl, Nat.zero_add, List.map_append, List.map_drop, Nat.min_comm]
    · rw [List.length_append, List.length_take, List.length_drop, hn]; omega
abbrev BOwn (w : World) (B : Nat) (v : Value) (zs : List Int) : Prop := GOwn 5 (Value.int .u8) w B v zs
theorem infoByte : (Tryz.prog.info? 5).map (fun i => (i.zero, i.size, i.bytes)) = some (some (.int .u8 0), 1, 1) := by kernel_rfl
theorem make_bytes {w : World} {B : Nat} {ops : Array Oper} {rest : List Oper} {o : Oper} {a : Act} {R : Exit → Act → World → Prop} (hgd : o.guard = none) (l c : Operand)
    (ho : o.op = .makeSlice 121 l c) (n : Nat) (L : Int) (hl : a.eval l = .int .i64 L) (hc : a.eval c = .int .i64 L) (hL : L = (n : Int)) (hn : n < 1099511627776) (hB : B ≤ w.heap.size)
    (h : ∀ w', BOwn w' B (.slice (some ⟨w.heap.size, 0, none⟩) n n) (List.replicate n 0) → Q w w' → wpList Tryz.prog ops R rest (a.put o.dst (.slice (some ⟨w.heap.size, 0, none⟩) n n)) w') :
    wpList Tryz.prog ops R (o :: rest) a w := by
  obtain ⟨i0, hi, hz0, hz1, hz2⟩ := info_parts infoByte
  refine wpList_make_full w hgd l c _ ho B 5 i0 (.int .u8 0) 1 Tryz.underlying121 hi hz0 hz1 .i64 .i64 L L n hl hc hL hL (by rw [hz2]; omega) (by unfold maxLen; omega) hB ?_
  intro w' hown hg
  refine h w' ?_ ((Q.refl w).grown hg (fun k hk => by cases hk))
  unfold BOwn GOwn
  rw [List.length_replicate, List.map_replicate]
  have e : (madeCells (Value.cells (.int .u8 0)) (n * 1)).toList = List.replicate n (Value.int .u8 0) := by
    rw [Nat.mul_one]; exact toList_madeCells_one _ _
  rw [e] at hown
  exact hown
theorem conv_own {w : World} {B g n cap : Nat} {zs : List Int} (h : BOwn w B (.slice (some ⟨g, 0, none⟩) n cap) zs) (hn : zs.length = n) :
    (convert 121 9 (.slice (some ⟨g, 0, none⟩) n cap)).run Tryz.prog w = .ok (.string (strOfNums zs)) w := by
  refine run_convert_bytes_arg _ 121 5 Tryz.underlying121 Tryz.underlying5 g 0 n cap zs hn ?_ 9 Tryz.underlying9
  intro i hi
  rw [Nat.zero_add]
  refine GOwn.cellAt h hn ?_
  rw [List.getD_eq_getElem?_getD, List.getElem?_eq_getElem (by omega)]; rfl
end Go.Proofs.YtagpofhencpliaaGreatDoor
namespace Go.Proofs.YtagpofhencpliaaGreatDoor
open Go.RowKit
namespace Dw
set_option maxHeartbeats 800000 in
theorem may_any (v : Value) (xs : List Int) (w : World) (hv : Lst w v xs) (hl : xs.length < 1099511627776) :
    Calls Tryz.prog 68 #[v] w fun e w' => e = .returned (.bool (Dm.okB xs)) ∧ w = w' := by
  obtain ⟨a, c, rfl⟩ := hv.shape
  obtain ⟨n, hn⟩ : ∃ n, n = xs.length := ⟨_, rfl⟩
  obtain ⟨r, hr⟩ : ∃ r, r = Dm.okB xs := ⟨_, rfl⟩
  rw [← hr]
  have HB := Lib.hid (Dm.okB_bad xs)
  have HO := Lib.hid (Dm.okB_on xs)
  have HE := Lib.hid (Dm.okB_end xs)
  have HR := Lib.hid hr
  rw [← hn] at hv hl HB HO HE ⊢
  have HV := Lib.hid (fun k h => hv.cellOf (n := n) (k := k) hn.symm h)
  clear hv hn hr
  go_enter Tryz.func68, Tryz.ntmps68
  go_wp2_with fail
  go_loop [7] (fun i => ∃ k : Nat, i = .int .i64 k ∧ k ≤ n ∧ Dm.okB (xs.drop k) = r) (fun i => n - (intOf i).toNat)
  case atStart => exact ⟨0, rfl, by omega, by rw [HR.out]; rfl⟩
  case round =>
    obtain ⟨k, rfl, hk, hc⟩ := hrel
    have HC := Lib.hid hc
    clear hc
    by_cases hlt : k < n
    · obtain ⟨g, off, cap, hvv, hg, _, _, c1⟩ := HV.out k hlt
      cases hvv
      have hb := HB.out k hlt
      have ho := HO.out k hlt
      obtain ⟨y, hy⟩ : ∃ y, y = xs.getD k 0 := ⟨_, rfl⟩
      rw [← hy] at c1 hb ho
      clear hy
      have HB1 := Lib.hid hb
      have HO1 := Lib.hid ho
      clear hb ho
      by_cases h1 : y < 0
      · have HF : Hid (r = false) := Lib.hid (by rw [← HC.out]; exact HB1.out (by omega))
        go_wp2_with fail
        go_ret
        rw [HF.out]
        exact ⟨rfl, rfl⟩
      · by_cases h2 : 9 < y
        · have HF : Hid (r = false) := Lib.hid (by rw [← HC.out]; exact HB1.out (by omega))
          have h3 : 10 ≤ y := h2
          go_wp2_with fail
          go_ret
          rw [HF.out]
          exact ⟨rfl, rfl⟩
        · have HN := Lib.hid ((HO1.out (by omega)).symm.trans HC.out)
          have h3 : ¬ 10 ≤ y := by omega
          go_wp2_with fail
          exact ⟨⟨k + 1, by go_num, by omega, HN.out⟩, by simp [intOf]; omega⟩
    · have HF : Hid (r = true) := Lib.hid (by rw [← HC.out]; exact HE.out k (by omega))
      go_wp2_with fail
      go_ret
      rw [HF.out]
      exact ⟨rfl, rfl⟩
set_option maxHeartbeats 800000 in
theorem zeros_any (v : Value) (xs : List Int) (w : World) (hv : Lst w v xs) (hl : xs.length < 1099511627776) :
    Calls Tryz.prog 69 #[v] w fun e w' => e = .returned (.int .i64 (Dm.zer xs)) ∧ w = w' := by
  obtain ⟨a, c, rfl⟩ := hv.shape
  obtain ⟨n, hn⟩ : ∃ n, n = xs.length := ⟨_, rfl⟩
  have HS := Lib.hid (Dm.zer_step xs)
  have HH := Lib.hid (Dm.zer_hit xs)
  have hz := Dm.zer_le xs
  generalize Dm.zer xs = z at *
  rw [← hn] at hv hl HS HH hz ⊢
  have HV := Lib.hid (fun k h => hv.cellOf (n := n) (k := k) hn.symm h)
  clear hv hn
  go_enter Tryz.func69, Tryz.ntmps69
  go_wp2_with fail
  go_loop [6] (fun i => ∃ k : Nat, i = .int .i64 k ∧ k ≤ n ∧ k ≤ z) (fun i => n - (intOf i).toNat)
  case atStart => exact ⟨0, rfl, by omega, by omega⟩
  case round =>
    obtain ⟨k, rfl, hk, hkz⟩ := hrel
    by_cases hlt : k < n
    · obtain ⟨g, off, cap, hvv, hg, _, _, c1⟩ := HV.out k hlt
      cases hvv
      have hs := HS.out k hkz hlt
      have hh := HH.out k hkz hlt
      obtain ⟨y, hy⟩ : ∃ y, y = xs.getD k 0 := ⟨_, rfl⟩
      rw [← hy] at c1 hs hh
      clear hy
      by_cases hy0 : y = 0
      · have h1 := hs hy0
        have e1 : (y != 0) = false := by rw [hy0]; rfl
        clear hs hh hy0
        go_wp2_with fail
        exact ⟨⟨k + 1, by go_num, by omega, h1⟩, by simp [intOf]; omega⟩
      · have HZ := Lib.hid (hh hy0)
        have e1 : (y != 0) = true := bne_iff_ne.2 hy0
        clear hs hh hy0
        go_wp2_with fail
        go_ret
        rw [HZ.out]
        exact ⟨rfl, rfl⟩
    · have HZ : Hid (z = n) := Lib.hid (by omega)
      go_wp2_with fail
      go_ret
      rw [HZ.out]
      exact ⟨rfl, rfl⟩
set_option maxHeartbeats 800000 in
theorem at_any (v : Value) (xs : List Int) (i : Nat) (w : World) (hv : Lst w v xs) (hl : xs.length < 1099511627776) (hi : i < 1099511627776) :
    Calls Tryz.prog 86 #[v, .int .i64 i] w fun e w' => e = .returned (.int .i64 (Dm.dgt xs i)) ∧ w = w' := by
  obtain ⟨a, c, rfl⟩ := hv.shape
  obtain ⟨n, hn⟩ : ∃ n, n = xs.length := ⟨_, rfl⟩
  by_cases hlt : i < n
  · have HR : Hid (Dm.dgt xs i = xs.getD (n - 1 - i) 0) := Lib.hid (by unfold Dm.dgt; rw [← hn, if_pos hlt])
    rw [← hn] at hv hl ⊢
    obtain ⟨g, off, cap, hvv, hg, _, _, c1⟩ := hv.cellOf (n := n) (k := n - 1 - i) hn.symm (by omega)
    cases hvv
    generalize xs.getD (n - 1 - i) 0 = y at c1 HR
    obtain ⟨m, hm⟩ : ∃ m, m = n - 1 - i := ⟨_, rfl⟩
    rw [← hm] at c1
    have e1 : (n : Int) - 1 - (i : Int) = (m : Int) := by omega
    have h2 : m < n := by omega
    have h3 : ¬ (n : Int) ≤ (i : Int) := by omega
    clear hv hn hm
    go_enter Tryz.func86, Tryz.ntmps86
    go_wp2_with fail
    go_ret
    rw [HR.out]
    exact ⟨rfl, rfl⟩
  · have HR : Hid (Dm.dgt xs i = 0) := Lib.hid (by unfold Dm.dgt; rw [← hn, if_neg hlt])
    rw [← hn] at hv hl ⊢
    have h3 : (n : Int) ≤ (i : Int) := by omega
    clear hv hn
    go_enter Tryz.func86, Tryz.ntmps86
    go_wp2_with fail
    go_ret
    rw [HR.out]
    exact ⟨rfl, rfl⟩
set_option maxHeartbeats 800000 in
theorem odd_any (v : Value) (xs : List Int) (w : World) (hv : Lst w v xs) (hl : xs.length < 1099511627776) (hx : Dm.okD xs) :
    Calls Tryz.prog 85 #[v] w fun e w' => e = .returned (.bool (Dm.dgt xs 0 % 2 == 1)) ∧ w = w' := by
  have hb := Dm.dgt_bd xs hx 0
  have ha := fun w h => at_any v xs 0 w h hl (by omega)
  generalize Dm.dgt xs 0 = d at *
  have HA := Lib.hid ha
  have HV := Lib.hid hv
  clear ha hv
  have h1 : (d % 2 != 0) = (d % 2 == 1) := by
    rcases (show d % 2 = 0 ∨ d % 2 = 1 from by omega) with h | h <;> rw [h] <;> rfl
  have h2 : d.tmod 2 = d % 2 := Int.tmod_eq_emod_of_nonneg hb.1
  have H1 := Lib.hid h1
  clear h1
  go_enter Tryz.func85, Tryz.ntmps85
  go_wp2_with fail
  refine (HA.out _ HV.out).mono ?_
  rintro e w1 ⟨rfl, rfl⟩
  go_wp2_with fail
  go_ret
  rw [← H1.out]
  first
    | exact ⟨rfl, rfl⟩
    | (rw [← h2]; exact ⟨rfl, rfl⟩)
set_option maxHeartbeats 800000 in
theorem nan_any (x : Int) (w : World) :
    Calls Tryz.prog 70 #[.int .i64 x] w fun e w' => e = .returned (.bool false) ∧ w = w' := by
  go_enter Tryz.func70, Tryz.ntmps70
  go_wp2_with fail
  go_ret
  first
    | exact ⟨rfl, rfl⟩
    | (simp)
set_option maxHeartbeats 800000 in
theorem cmp_any (x y : Int) (w : World) :
    Calls Tryz.prog 49 #[.int .i64 x, .int .i64 y] w fun e w' => e = .returned (.int .i64 (Dm.cmpZ x y)) ∧ w = w' := by
  have HN := Lib.hid nan_any
  rcases Int.lt_trichotomy x y with h | h | h
  · have HR := Lib.hid (Dm.cmpZ_lt h)
    go_enter Tryz.func49, Tryz.ntmps49
    go_wp2_with fail
    refine (HN.out _ _).mono ?_
    rintro e w1 ⟨rfl, rfl⟩
    go_wp2_with fail
    refine (HN.out _ _).mono ?_
    rintro e w1 ⟨rfl, rfl⟩
    go_wp2_with fail
    go_ret
    rw [HR.out]
    exact ⟨rfl, rfl⟩
  · have HR := Lib.hid (Dm.cmpZ_eq h)
    have h1 : ¬ x < y := by omega
    have h2 : ¬ y < x := by omega
    clear h
    go_enter Tryz.func49, Tryz.ntmps49
    go_wp2_with fail
    refine (HN.out _ _).mono ?_
    rintro e w1 ⟨rfl, rfl⟩
    go_wp2_with fail
    refine (HN.out _ _).mono ?_
    rintro e w1 ⟨rfl, rfl⟩
    go_wp2_with fail
    go_ret
    rw [HR.out]
    exact ⟨rfl, rfl⟩
  · have HR := Lib.hid (Dm.cmpZ_gt h)
    have h1 : ¬ x < y := by omega
    go_enter Tryz.func49, Tryz.ntmps49
    go_wp2_with fail
    refine (HN.out _ _).mono ?_
    rintro e w1 ⟨rfl, rfl⟩
    go_wp2_with fail
    refine (HN.out _ _).mono ?_
    rintro e w1 ⟨rfl, rfl⟩
    go_wp2_with fail
    go_ret
    rw [HR.out]
    exact ⟨rfl, rfl⟩
set_option maxHeartbeats 800000 in
theorem scmp_any (va vb : Value) (xs ys : List Int) (w : World) (hv : Lst w va xs) (hu : Lst w vb ys) (hl : xs.length < 1099511627776) (hl2 : ys.length < 1099511627776) :
    Calls Tryz.prog 72 #[va, vb] w fun e w' => e = .returned (.int .i64 (Dm.lexC xs ys)) ∧ w = w' := by
  obtain ⟨a, c, rfl⟩ := hv.shape
  obtain ⟨b, d, rfl⟩ := hu.shape
  obtain ⟨n, hn⟩ : ∃ n, n = xs.length := ⟨_, rfl⟩
  obtain ⟨m, hm⟩ : ∃ m, m = ys.length := ⟨_, rfl⟩
  obtain ⟨r, hr⟩ : ∃ r, r = Dm.lexC xs ys := ⟨_, rfl⟩
  rw [← hr]
  have H1 := Lib.hid (Dm.lexC_lt xs ys)
  have H2 := Lib.hid (Dm.lexC_gt xs ys)
  have H3 := Lib.hid (Dm.lexC_on xs ys)
  have H4 := Lib.hid (Dm.lexC_long xs ys)
  have H5 := Lib.hid (Dm.lexC_short xs ys)
  have H6 := Lib.hid (Dm.lexC_end xs ys)
  have HR := Lib.hid hr
  rw [← hn] at hv hl H1 H2 H3 H4 H5 H6 ⊢
  rw [← hm] at hu hl2 H1 H2 H3 H4 H5 H6 ⊢
  have HV := Lib.hid (fun k h => hv.cellOf (n := n) (k := k) hn.symm h)
  have HU := Lib.hid (fun k h => hu.cellOf (n := m) (k := k) hm.symm h)
  have HC := Lib.hid cmp_any
  clear hv hn hu hm hr
  go_enter Tryz.func72, Tryz.ntmps72
  go_wp2_with fail
  go_loop [11] (fun i => ∃ k : Nat, i = .int .i64 k ∧ k ≤ n ∧ k ≤ m ∧ Dm.lexC (xs.drop k) (ys.drop k) = r) (fun i => n - (intOf i).toNat)
  case atStart => exact ⟨0, rfl, by omega, by omega, by rw [HR.out]; rfl⟩
  case round =>
    obtain ⟨k, rfl, hk, hkm, hc⟩ := hrel
    have HI := Lib.hid hc
    clear hc
    by_cases hlt : k < n
    · obtain ⟨g, off, cap, hvv, hg, _, _, c1⟩ := HV.out k hlt
      cases hvv
      by_cases hlm : k < m
      · obtain ⟨g2, off2, cap2, hvv2, hg2, _, _, c2⟩ := HU.out k hlm
        cases hvv2
        have h1 := H1.out k hlt hlm
        have h2 := H2.out k hlt hlm
        have h3 := H3.out k hlt hlm
        obtain ⟨y, hy⟩ : ∃ y, y = xs.getD k 0 := ⟨_, rfl⟩
        obtain ⟨z, hz⟩ : ∃ z, z = ys.getD k 0 := ⟨_, rfl⟩
        rw [← hy] at c1 h1 h2 h3
        rw [← hz] at c2 h1 h2 h3
        clear hy hz
        have hge : ¬ (m : Int) ≤ (k : Int) := by omega
        rcases Int.lt_trichotomy y z with h | h | h
        · have HF : Hid (r = -1) := Lib.hid (by rw [← HI.out]; exact h1 h)
          have hcc := HC.out y z
          rw [Dm.cmpZ_lt h] at hcc
          have HCC := Lib.hid hcc
          clear h1 h2 h3 hcc h
          go_wp2_with fail
          refine (HCC.out _).mono ?_
          rintro e w1 ⟨rfl, rfl⟩
          go_wp2_with fail
          go_ret
          rw [HF.out]
          exact ⟨rfl, rfl⟩
        · have HF := Lib.hid ((h3 h).symm.trans HI.out)
          have hcc := HC.out y z
          rw [Dm.cmpZ_eq h] at hcc
          have HCC := Lib.hid hcc
          clear h1 h2 h3 hcc h
          go_wp2_with fail
          refine (HCC.out _).mono ?_
          rintro e w1 ⟨rfl, rfl⟩
          go_wp2_with fail
          exact ⟨⟨k + 1, by go_num, by omega, by omega, HF.out⟩, by simp [intOf]; omega⟩
        · have HF : Hid (r = 1) := Lib.hid (by rw [← HI.out]; exact h2 h)
          have hcc := HC.out y z
          rw [Dm.cmpZ_gt h] at hcc
          have HCC := Lib.hid hcc
          clear h1 h2 h3 hcc h
          go_wp2_with fail
          refine (HCC.out _).mono ?_
          rintro e w1 ⟨rfl, rfl⟩
          go_wp2_with fail
          go_ret
          rw [HF.out]
          exact ⟨rfl, rfl⟩
      · have HF : Hid (r = 1) := Lib.hid (by rw [← HI.out]; exact H4.out k hlt (by omega))
        have hge : (m : Int) ≤ (k : Int) := by omega
        go_wp2_with fail
        go_ret
        rw [HF.out]
        exact ⟨rfl, rfl⟩
    · by_cases hlm : k < m
      · have HF : Hid (r = -1) := Lib.hid (by rw [← HI.out]; exact H5.out k (by omega) hlm)
        have hnm : (n : Int) < (m : Int) := by omega
        go_wp2_with fail
        go_ret
        rw [HF.out]
        exact ⟨rfl, rfl⟩
      · have HF : Hid (r = 0) := Lib.hid (by rw [← HI.out]; exact H6.out k (by omega) (by omega))
        have hnm : ¬ (n : Int) < (m : Int) := by omega
        go_wp2_with fail
        go_ret
        rw [HF.out]
        exact ⟨rfl, rfl⟩
end Dw
end Go.Proofs.YtagpofhencpliaaGreatDoor
namespace Go.Proofs.YtagpofhencpliaaGreatDoor
open Go.RowKit
def Bk (w : World) (b : Nat) (T : TypeId) (l : List Value) : Prop := w.heap[b]? = some (.cells l.toArray T (0, 0))
theorem Bk.lt {w : World} {b : Nat} {T : TypeId} {l : List Value} (h : Bk w b T l) : b < w.heap.size := (Array.getElem?_eq_some_iff.1 h).1
theorem Bk.q {w w' : World} {b : Nat} {T : TypeId} {l : List Value} (h : Bk w b T l) (hq : Q w w') : Bk w' b T l := (hq.block h.lt).trans h
theorem Bk.cell {w : World} {b : Nat} {T : TypeId} {l : List Value} (h : Bk w b T l) (i : Nat) {v : Value} (hv : l[i]? = some v) : w.cell? ⟨b, i, none⟩ = some v := by
  rw [Lib.cell_of_heap h]; simpa using hv
theorem Bk.free {w : World} {b : Nat} {T : TypeId} {l : List Value} (h : Bk w b T l) (i : Nat) : w.frozen? ⟨b, i, none⟩ = false := Lib.frozen_of_heap h i
theorem Bk.set {w : World} {b : Nat} {T : TypeId} {l : List Value} (h : Bk w b T l) (i : Nat) (v : Value) : Bk (w.setCell ⟨b, i, none⟩ v) b T (l.set i v) := by
  have := Joins.block_setCell h v (i := i)
  unfold Bk
  rw [this, List.setIfInBounds_toArray]
theorem Bk.new (w : World) (T : TypeId) (l : List Value) : Bk (w.alloc (.cells l.toArray T)) w.heap.size T l := heap_alloc_new _ _
theorem Bk.past {w : World} {b g i : Nat} {T : TypeId} {l : List Value} (h : Bk w b T l) (hg : g ≠ b) (v : Value) : Bk (w.setCell ⟨g, i, none⟩ v) b T l := by
  exact ((Gap.setCell w g i v g (g + 1) (Nat.le_refl _) (Nat.lt_succ_self _)).block b h.lt (by omega)).trans h
theorem ret_bk {fn : Func} {p : Tmp} {T : TypeId} (h : fn.results = #[.cell p T]) {R : Ending → World → Prop} {a : Act} {w : World} {g : Nat} {l : List Value} {fs : _}
    (hu : Tryz.prog.underlying T = some (.struct fs)) (hi : (Tryz.prog.info? T).map (·.size) = some l.length)
    (hp : a.tmps.getD p undef = .pointer (some ⟨g, 0, none⟩)) (hg : Bk w g T l) (hdf : a.defers = []) (hR : R (.returned (.agg l.toArray)) w) : bodyPost Tryz.prog fn R .ret a w :=
  bodyPost_ret (results_cell_row h a.tmps w g T l.toArray (0, 0) _ hp hg hu rfl (by simpa using hi)) hdf hR
end Go.Proofs.YtagpofhencpliaaGreatDoor
namespace Go.Proofs.YtagpofhencpliaaGreatDoor
open Go.RowKit Um
namespace Ur
def few (s : ByteArray) (n : Nat) : ByteArray := if n < s.size then s.extract 0 n else s
set_option maxHeartbeats 400000 in
theorem few_any (s : ByteArray) (n : Nat) (w : World) (hs : s.size ≤ maxLen) (hn : n ≤ 1000000) :
    Calls Tryz.prog 4 #[.string s, .int .i64 n] w fun e w' => e = .returned (.string (few s n)) ∧ w = w' := by
  unfold maxLen at hs
  by_cases h : n < s.size
  · have HA : Hid (few s n = s.extract 0 n) := Lib.hid (by unfold few; rw [if_pos h])
    go_enter Tryz.func4, Tryz.ntmps4
    go_wp2
    go_ret
    rw [HA.out]
    exact ⟨rfl, rfl⟩
  · have HA : Hid (few s n = s) := Lib.hid (by unfold few; rw [if_neg h])
    go_enter Tryz.func4, Tryz.ntmps4
    go_wp2
    go_ret
    rw [HA.out]
    exact ⟨rfl, rfl⟩
theorem convN (w : World) (xs : List Int) (n : Nat) (hn : xs.length = n) :
    (convert 121 9 (.slice (some ⟨w.heap.size, 0, none⟩) n n)).run Tryz.prog (w.alloc (.cells (xs.map (Value.int .u8)).toArray 5)) = .ok (.string (strOfNums xs)) (w.alloc (.cells (xs.map (Value.int .u8)).toArray 5)) := by
  refine run_convert_bytes_arg _ 121 5 Tryz.underlying121 Tryz.underlying5 w.heap.size 0 n n xs hn ?_ 9 Tryz.underlying9
  intro i hi
  rw [World.cell?_alloc_at _ _ _ _ rfl, Nat.zero_add]
  simp only [List.getElem?_toArray, List.getElem?_map, List.getD_eq_getElem?_getD]
  rw [List.getElem?_eq_getElem (by omega)]; rfl
theorem Lst.cellAt {w : World} {g off cap : Nat} {zs : List Int} {k : Nat} (h : ∀ i, i < zs.length → w.cell? ⟨g, off + i, none⟩ = some (.int .i64 (zs.getD i 0))) (hk : k < zs.length) : w.cell? ⟨g, off + k, none⟩ = some (.int .i64 (zs.getD k 0)) := h k hk
set_option maxHeartbeats 800000 in
theorem same_any (va vb : Value) (xs ys : List Int) (w : World) (ha : Lst w va xs) (hb : Lst w vb ys) (hx : xs.length < 1099511627776) (hy : ys.length < 1099511627776) :
    Calls Tryz.prog 58 #[va, vb] w fun e w' => e = .returned (.bool (decide (xs = ys))) ∧ Q w w' := by
  by_cases hl : xs.length = ys.length
  · by_cases h0 : xs.length = 0
    · have hx0 : xs = [] := List.eq_nil_of_length_eq_zero h0
      have hy0 : ys = [] := List.eq_nil_of_length_eq_zero (by omega)
      subst hx0; subst hy0
      obtain ⟨a, c, rfl⟩ := ha.shape
      obtain ⟨b, d, rfl⟩ := hb.shape
      clear ha hb hl h0 hx hy
      go_enter Tryz.func58, Tryz.ntmps58
      go_wp2
      refine wp_loop_rounds 1 ?_
      rw [rounds_succ]
      go_wp2
      go_ret
      exact ⟨rfl, Q.refl _⟩
    · rcases ha with ⟨rfl, _⟩ | ⟨g, off, cap, rfl, hg, _, _, hca⟩
      · exact absurd rfl h0
      rcases hb with ⟨rfl, _⟩ | ⟨g2, off2, cap2, rfl, hg2, _, _, hcb⟩
      · exact absurd hl h0
      have HL := Lib.hid hl
      have hle : ((xs.length : Int) == (ys.length : Int)) = true := by rw [hl]; simp
      have hne : ((xs.length : Int) != (ys.length : Int)) = false := by rw [hl]; simp
      clear hl h0
      go_enter Tryz.func58, Tryz.ntmps58
      go_wp2
      go_loopw [5] (fun i wr => ∃ k : Nat, i = .int .i64 k ∧ k ≤ xs.length ∧ Q w wr ∧ xs.take k = ys.take k) (fun i _ => xs.length - (intOf i).toNat)
      case atStart => exact ⟨0, rfl, by omega, Q.refl _, by simp⟩
      case round =>
        obtain ⟨k, rfl, hk, hq, he⟩ := hrel
        have HE := Lib.hid he
        clear he
        by_cases hlt : k < xs.length
        · have c1 : wr.cell? ⟨g, off + k, none⟩ = some (.int .i64 (xs.getD k 0)) := (World.cell?_of_block (w := w) (hq.block hg)).trans (hca k hlt)
          have c2 : wr.cell? ⟨g2, off2 + k, none⟩ = some (.int .i64 (ys.getD k 0)) := (World.cell?_of_block (w := w) (hq.block hg2)).trans (hcb k (by rw [← HL.out]; exact hlt))
          have hky : (k : Int) < (ys.length : Int) := by rw [← HL.out]; omega
          have hkx : (k : Int) < (xs.length : Int) := by omega
          generalize hgx : xs.getD k 0 = p at c1
          generalize hgy : ys.getD k 0 = q at c2
          have HX := Lib.hid hgx
          have HY := Lib.hid hgy
          clear hgx hgy
          have hsx : xs.take (k + 1) = xs.take k ++ [p] := by
            rw [List.take_succ_eq_append_getElem hlt, ← HX.out, List.getD_eq_getElem?_getD, List.getElem?_eq_getElem hlt]; rfl
          have hly : k < ys.length := by rw [← HL.out]; exact hlt
          have hsy : ys.take (k + 1) = ys.take k ++ [q] := by
            rw [List.take_succ_eq_append_getElem hly, ← HY.out, List.getD_eq_getElem?_getD, List.getElem?_eq_getElem hly]; rfl
          have HSX := Lib.hid hsx
          have HSY := Lib.hid hsy
          clear hsx hsy
          by_cases hpq : p = q
          · have ht : (p != q) = false := by rw [hpq]; simp
            have HP := Lib.hid hpq
            clear hpq
            go_wp2_with fail
            go_quiet (fail)
            go_wp2_with fail
            exact ⟨⟨k + 1, by go_num, by omega, hq.drewN _, by rw [HSX.out, HSY.out, HE.out, HP.out]⟩, by simp [intOf]; omega⟩
          · have ht : (p != q) = true := by rw [bne_iff_ne]; exact hpq
            have HF : Hid (decide (xs = ys) = false) := Lib.hid (decide_eq_false (fun h => hpq (by
              have h1 := HX.out; have h2 := HY.out
              rw [← h1, ← h2, h])))
            clear hpq
            go_wp2_with fail
            go_quiet (fail)
            go_wp2_with fail
            go_ret
            rw [HF.out]
            exact ⟨rfl, hq.drewN _⟩
        · have HF : Hid (decide (xs = ys) = true) := Lib.hid (decide_eq_true (by
            have h1 := HE.out; have h2 := HL.out
            rw [List.take_of_length_le (by omega), List.take_of_length_le (by omega)] at h1
            exact h1))
          go_wp2_with fail
          go_ret
          rw [HF.out]
          exact ⟨rfl, hq⟩
  · have hne : ((xs.length : Int) == (ys.length : Int)) = false := by rw [beq_eq_false_iff_ne]; omega
    have hne2 : ((xs.length : Int) != (ys.length : Int)) = true := by rw [bne_iff_ne]; omega
    have HF : Hid (decide (xs = ys) = false) := Lib.hid (decide_eq_false (fun h => hl (by rw [h])))
    obtain ⟨a, c, rfl⟩ := ha.shape
    obtain ⟨b, d, rfl⟩ := hb.shape
    clear ha hb hl
    go_enter Tryz.func58, Tryz.ntmps58
    go_wp2
    go_ret
    rw [HF.out]
    exact ⟨rfl, Q.refl _⟩
end Ur
end Go.Proofs.YtagpofhencpliaaGreatDoor
