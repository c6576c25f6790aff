/- What package digit's own functions on one list come to, by a walk through each. -/
import Derived.Test.YtebcgpoemppljaaRows
import Derived.Test.YtebcgpoemppljaaDigL
import Derived.Test.YtebcgpoemppljaaInts
import Derived.Test.YtebcgpoemppljaaSto
import Derived.Deep.QuietTactic
import Derived.Deep.RegionWith
import Derived.BigQuiet
set_option linter.unusedVariables false
set_option linter.unusedSimpArgs false
namespace Go.Proofs.Ytebcgpoemppljaa
open Go.RowKit
namespace Dw

set_option maxHeartbeats 800000 in
theorem may_any (v : Value) (xs : List Int) (w : World) (hv : Lst w v xs) (hl : xs.length < 1099511627776) :
    Calls Try.prog 49 #[v] w fun e w' => e = .returned (.bool (Dm.okB xs)) ∧ w = w' := by
  obtain ⟨a, c, rfl⟩ := hv.shape
  obtain ⟨n, hn⟩ : ∃ n, n = xs.length := ⟨_, rfl⟩
  obtain ⟨r, hr⟩ : ∃ r, r = Dm.okB xs := ⟨_, rfl⟩
  rw [← hr]
  have HB := Lib.hid (Dm.okB_bad xs)
  have HO := Lib.hid (Dm.okB_on xs)
  have HE := Lib.hid (Dm.okB_end xs)
  have HR := Lib.hid hr
  rw [← hn] at hv hl HB HO HE ⊢
  have HV := Lib.hid (fun k h => hv.cellOf (n := n) (k := k) hn.symm h)
  clear hv hn hr
  go_enter Try.func49, Try.ntmps49
  go_wp2_with fail
  go_loop [7] (fun i => ∃ k : Nat, i = .int .i64 k ∧ k ≤ n ∧ Dm.okB (xs.drop k) = r) (fun i => n - (intOf i).toNat)
  case atStart => exact ⟨0, rfl, by omega, by rw [HR.out]; rfl⟩
  case round =>
    obtain ⟨k, rfl, hk, hc⟩ := hrel
    have HC := Lib.hid hc
    clear hc
    by_cases hlt : k < n
    · obtain ⟨g, off, cap, hvv, hg, _, _, c1⟩ := HV.out k hlt
      cases hvv
      have hb := HB.out k hlt
      have ho := HO.out k hlt
      obtain ⟨y, hy⟩ : ∃ y, y = xs.getD k 0 := ⟨_, rfl⟩
      rw [← hy] at c1 hb ho
      clear hy
      have HB1 := Lib.hid hb
      have HO1 := Lib.hid ho
      clear hb ho
      by_cases h1 : y < 0
      · have HF : Hid (r = false) := Lib.hid (by rw [← HC.out]; exact HB1.out (by omega))
        go_wp2_with fail
        go_ret
        rw [HF.out]
        exact ⟨rfl, rfl⟩
      · by_cases h2 : 9 < y
        · have HF : Hid (r = false) := Lib.hid (by rw [← HC.out]; exact HB1.out (by omega))
          have h3 : 10 ≤ y := h2
          go_wp2_with fail
          go_ret
          rw [HF.out]
          exact ⟨rfl, rfl⟩
        · have HN := Lib.hid ((HO1.out (by omega)).symm.trans HC.out)
          have h3 : ¬ 10 ≤ y := by omega
          go_wp2_with fail
          exact ⟨⟨k + 1, by go_num, by omega, HN.out⟩, by simp [intOf]; omega⟩
    · have HF : Hid (r = true) := Lib.hid (by rw [← HC.out]; exact HE.out k (by omega))
      go_wp2_with fail
      go_ret
      rw [HF.out]
      exact ⟨rfl, rfl⟩

set_option maxHeartbeats 800000 in
theorem zeros_any (v : Value) (xs : List Int) (w : World) (hv : Lst w v xs) (hl : xs.length < 1099511627776) :
    Calls Try.prog 63 #[v] w fun e w' => e = .returned (.int .i64 (Dm.zer xs)) ∧ w = w' := by
  obtain ⟨a, c, rfl⟩ := hv.shape
  obtain ⟨n, hn⟩ : ∃ n, n = xs.length := ⟨_, rfl⟩
  have HS := Lib.hid (Dm.zer_step xs)
  have HH := Lib.hid (Dm.zer_hit xs)
  have hz := Dm.zer_le xs
  generalize Dm.zer xs = z at *
  rw [← hn] at hv hl HS HH hz ⊢
  have HV := Lib.hid (fun k h => hv.cellOf (n := n) (k := k) hn.symm h)
  clear hv hn
  go_enter Try.func63, Try.ntmps63
  go_wp2_with fail
  go_loop [6] (fun i => ∃ k : Nat, i = .int .i64 k ∧ k ≤ n ∧ k ≤ z) (fun i => n - (intOf i).toNat)
  case atStart => exact ⟨0, rfl, by omega, by omega⟩
  case round =>
    obtain ⟨k, rfl, hk, hkz⟩ := hrel
    by_cases hlt : k < n
    · obtain ⟨g, off, cap, hvv, hg, _, _, c1⟩ := HV.out k hlt
      cases hvv
      have hs := HS.out k hkz hlt
      have hh := HH.out k hkz hlt
      obtain ⟨y, hy⟩ : ∃ y, y = xs.getD k 0 := ⟨_, rfl⟩
      rw [← hy] at c1 hs hh
      clear hy
      by_cases hy0 : y = 0
      · have h1 := hs hy0
        have e1 : (y != 0) = false := by rw [hy0]; rfl
        clear hs hh hy0
        go_wp2_with fail
        exact ⟨⟨k + 1, by go_num, by omega, h1⟩, by simp [intOf]; omega⟩
      · have HZ := Lib.hid (hh hy0)
        have e1 : (y != 0) = true := bne_iff_ne.2 hy0
        clear hs hh hy0
        go_wp2_with fail
        go_ret
        rw [HZ.out]
        exact ⟨rfl, rfl⟩
    · have HZ : Hid (z = n) := Lib.hid (by omega)
      go_wp2_with fail
      go_ret
      rw [HZ.out]
      exact ⟨rfl, rfl⟩

set_option maxHeartbeats 800000 in
theorem at_any (v : Value) (xs : List Int) (i : Nat) (w : World) (hv : Lst w v xs) (hl : xs.length < 1099511627776) (hi : i < 1099511627776) :
    Calls Try.prog 65 #[v, .int .i64 i] w fun e w' => e = .returned (.int .i64 (Dm.dgt xs i)) ∧ w = w' := by
  obtain ⟨a, c, rfl⟩ := hv.shape
  obtain ⟨n, hn⟩ : ∃ n, n = xs.length := ⟨_, rfl⟩
  by_cases hlt : i < n
  · have HR : Hid (Dm.dgt xs i = xs.getD (n - 1 - i) 0) := Lib.hid (by unfold Dm.dgt; rw [← hn, if_pos hlt])
    rw [← hn] at hv hl ⊢
    obtain ⟨g, off, cap, hvv, hg, _, _, c1⟩ := hv.cellOf (n := n) (k := n - 1 - i) hn.symm (by omega)
    cases hvv
    generalize xs.getD (n - 1 - i) 0 = y at c1 HR
    obtain ⟨m, hm⟩ : ∃ m, m = n - 1 - i := ⟨_, rfl⟩
    rw [← hm] at c1
    have e1 : (n : Int) - 1 - (i : Int) = (m : Int) := by omega
    have h2 : m < n := by omega
    have h3 : ¬ (n : Int) ≤ (i : Int) := by omega
    clear hv hn hm
    go_enter Try.func65, Try.ntmps65
    go_wp2_with fail
    go_ret
    rw [HR.out]
    exact ⟨rfl, rfl⟩
  · have HR : Hid (Dm.dgt xs i = 0) := Lib.hid (by unfold Dm.dgt; rw [← hn, if_neg hlt])
    rw [← hn] at hv hl ⊢
    have h3 : (n : Int) ≤ (i : Int) := by omega
    clear hv hn
    go_enter Try.func65, Try.ntmps65
    go_wp2_with fail
    go_ret
    rw [HR.out]
    exact ⟨rfl, rfl⟩

set_option maxHeartbeats 800000 in
theorem odd_any (v : Value) (xs : List Int) (w : World) (hv : Lst w v xs) (hl : xs.length < 1099511627776) (hx : Dm.okD xs) :
    Calls Try.prog 53 #[v] w fun e w' => e = .returned (.bool (Dm.dgt xs 0 % 2 == 1)) ∧ w = w' := by
  have hb := Dm.dgt_bd xs hx 0
  have ha := fun w h => at_any v xs 0 w h hl (by omega)
  generalize Dm.dgt xs 0 = d at *
  have HA := Lib.hid ha
  have HV := Lib.hid hv
  clear ha hv
  have h1 : (d % 2 != 0) = (d % 2 == 1) := by
    rcases (show d % 2 = 0 ∨ d % 2 = 1 from by omega) with h | h <;> rw [h] <;> rfl
  have h2 : d.tmod 2 = d % 2 := Int.tmod_eq_emod_of_nonneg hb.1
  have H1 := Lib.hid h1
  clear h1
  go_enter Try.func53, Try.ntmps53
  go_wp2_with fail
  refine (HA.out _ HV.out).mono ?_
  rintro e w1 ⟨rfl, rfl⟩
  go_wp2_with fail
  go_ret
  rw [← H1.out]
  first
    | exact ⟨rfl, rfl⟩
    | (rw [← h2]; exact ⟨rfl, rfl⟩)

set_option maxHeartbeats 800000 in
theorem nan_any (x : Int) (w : World) :
    Calls Try.prog 69 #[.int .i64 x] w fun e w' => e = .returned (.bool false) ∧ w = w' := by
  go_enter Try.func69, Try.ntmps69
  go_wp2_with fail
  go_ret
  first
    | exact ⟨rfl, rfl⟩
    | (simp)

set_option maxHeartbeats 800000 in
theorem cmp_any (x y : Int) (w : World) :
    Calls Try.prog 61 #[.int .i64 x, .int .i64 y] w fun e w' => e = .returned (.int .i64 (Dm.cmpZ x y)) ∧ w = w' := by
  have HN := Lib.hid nan_any
  rcases Int.lt_trichotomy x y with h | h | h
  · have HR := Lib.hid (Dm.cmpZ_lt h)
    go_enter Try.func61, Try.ntmps61
    go_wp2_with fail
    refine (HN.out _ _).mono ?_
    rintro e w1 ⟨rfl, rfl⟩
    go_wp2_with fail
    refine (HN.out _ _).mono ?_
    rintro e w1 ⟨rfl, rfl⟩
    go_wp2_with fail
    go_ret
    rw [HR.out]
    exact ⟨rfl, rfl⟩
  · have HR := Lib.hid (Dm.cmpZ_eq h)
    have h1 : ¬ x < y := by omega
    have h2 : ¬ y < x := by omega
    clear h
    go_enter Try.func61, Try.ntmps61
    go_wp2_with fail
    refine (HN.out _ _).mono ?_
    rintro e w1 ⟨rfl, rfl⟩
    go_wp2_with fail
    refine (HN.out _ _).mono ?_
    rintro e w1 ⟨rfl, rfl⟩
    go_wp2_with fail
    go_ret
    rw [HR.out]
    exact ⟨rfl, rfl⟩
  · have HR := Lib.hid (Dm.cmpZ_gt h)
    have h1 : ¬ x < y := by omega
    go_enter Try.func61, Try.ntmps61
    go_wp2_with fail
    refine (HN.out _ _).mono ?_
    rintro e w1 ⟨rfl, rfl⟩
    go_wp2_with fail
    refine (HN.out _ _).mono ?_
    rintro e w1 ⟨rfl, rfl⟩
    go_wp2_with fail
    go_ret
    rw [HR.out]
    exact ⟨rfl, rfl⟩

set_option maxHeartbeats 800000 in
theorem scmp_any (va vb : Value) (xs ys : List Int) (w : World) (hv : Lst w va xs) (hu : Lst w vb ys) (hl : xs.length < 1099511627776) (hl2 : ys.length < 1099511627776) :
    Calls Try.prog 64 #[va, vb] w fun e w' => e = .returned (.int .i64 (Dm.lexC xs ys)) ∧ w = w' := by
  obtain ⟨a, c, rfl⟩ := hv.shape
  obtain ⟨b, d, rfl⟩ := hu.shape
  obtain ⟨n, hn⟩ : ∃ n, n = xs.length := ⟨_, rfl⟩
  obtain ⟨m, hm⟩ : ∃ m, m = ys.length := ⟨_, rfl⟩
  obtain ⟨r, hr⟩ : ∃ r, r = Dm.lexC xs ys := ⟨_, rfl⟩
  rw [← hr]
  have H1 := Lib.hid (Dm.lexC_lt xs ys)
  have H2 := Lib.hid (Dm.lexC_gt xs ys)
  have H3 := Lib.hid (Dm.lexC_on xs ys)
  have H4 := Lib.hid (Dm.lexC_long xs ys)
  have H5 := Lib.hid (Dm.lexC_short xs ys)
  have H6 := Lib.hid (Dm.lexC_end xs ys)
  have HR := Lib.hid hr
  rw [← hn] at hv hl H1 H2 H3 H4 H5 H6 ⊢
  rw [← hm] at hu hl2 H1 H2 H3 H4 H5 H6 ⊢
  have HV := Lib.hid (fun k h => hv.cellOf (n := n) (k := k) hn.symm h)
  have HU := Lib.hid (fun k h => hu.cellOf (n := m) (k := k) hm.symm h)
  have HC := Lib.hid cmp_any
  clear hv hn hu hm hr
  go_enter Try.func64, Try.ntmps64
  go_wp2_with fail
  go_loop [11] (fun i => ∃ k : Nat, i = .int .i64 k ∧ k ≤ n ∧ k ≤ m ∧ Dm.lexC (xs.drop k) (ys.drop k) = r) (fun i => n - (intOf i).toNat)
  case atStart => exact ⟨0, rfl, by omega, by omega, by rw [HR.out]; rfl⟩
  case round =>
    obtain ⟨k, rfl, hk, hkm, hc⟩ := hrel
    have HI := Lib.hid hc
    clear hc
    by_cases hlt : k < n
    · obtain ⟨g, off, cap, hvv, hg, _, _, c1⟩ := HV.out k hlt
      cases hvv
      by_cases hlm : k < m
      · obtain ⟨g2, off2, cap2, hvv2, hg2, _, _, c2⟩ := HU.out k hlm
        cases hvv2
        have h1 := H1.out k hlt hlm
        have h2 := H2.out k hlt hlm
        have h3 := H3.out k hlt hlm
        obtain ⟨y, hy⟩ : ∃ y, y = xs.getD k 0 := ⟨_, rfl⟩
        obtain ⟨z, hz⟩ : ∃ z, z = ys.getD k 0 := ⟨_, rfl⟩
        rw [← hy] at c1 h1 h2 h3
        rw [← hz] at c2 h1 h2 h3
        clear hy hz
        have hge : ¬ (m : Int) ≤ (k : Int) := by omega
        rcases Int.lt_trichotomy y z with h | h | h
        · have HF : Hid (r = -1) := Lib.hid (by rw [← HI.out]; exact h1 h)
          have hcc := HC.out y z
          rw [Dm.cmpZ_lt h] at hcc
          have HCC := Lib.hid hcc
          clear h1 h2 h3 hcc h
          go_wp2_with fail
          refine (HCC.out _).mono ?_
          rintro e w1 ⟨rfl, rfl⟩
          go_wp2_with fail
          go_ret
          rw [HF.out]
          exact ⟨rfl, rfl⟩
        · have HF := Lib.hid ((h3 h).symm.trans HI.out)
          have hcc := HC.out y z
          rw [Dm.cmpZ_eq h] at hcc
          have HCC := Lib.hid hcc
          clear h1 h2 h3 hcc h
          go_wp2_with fail
          refine (HCC.out _).mono ?_
          rintro e w1 ⟨rfl, rfl⟩
          go_wp2_with fail
          exact ⟨⟨k + 1, by go_num, by omega, by omega, HF.out⟩, by simp [intOf]; omega⟩
        · have HF : Hid (r = 1) := Lib.hid (by rw [← HI.out]; exact h2 h)
          have hcc := HC.out y z
          rw [Dm.cmpZ_gt h] at hcc
          have HCC := Lib.hid hcc
          clear h1 h2 h3 hcc h
          go_wp2_with fail
          refine (HCC.out _).mono ?_
          rintro e w1 ⟨rfl, rfl⟩
          go_wp2_with fail
          go_ret
          rw [HF.out]
          exact ⟨rfl, rfl⟩
      · have HF : Hid (r = 1) := Lib.hid (by rw [← HI.out]; exact H4.out k hlt (by omega))
        have hge : (m : Int) ≤ (k : Int) := by omega
        go_wp2_with fail
        go_ret
        rw [HF.out]
        exact ⟨rfl, rfl⟩
    · by_cases hlm : k < m
      · have HF : Hid (r = -1) := Lib.hid (by rw [← HI.out]; exact H5.out k (by omega) hlm)
        have hnm : (n : Int) < (m : Int) := by omega
        go_wp2_with fail
        go_ret
        rw [HF.out]
        exact ⟨rfl, rfl⟩
      · have HF : Hid (r = 0) := Lib.hid (by rw [← HI.out]; exact H6.out k (by omega) (by omega))
        have hnm : ¬ (n : Int) < (m : Int) := by omega
        go_wp2_with fail
        go_ret
        rw [HF.out]
        exact ⟨rfl, rfl⟩
end Dw
end Go.Proofs.Ytebcgpoemppljaa
