/- What the program's Compare of decimals comes to, by a walk through it. (and more) -/
import Derived.Test.YtagpofhencpliaaGreatDoorR00
import Derived.Test.YtagpofhencpliaaGreatDoorR14
import Derived.Test.YtagpofhencpliaaGreatDoorR02
import Derived.Test.YtagpofhencpliaaGreatDoorR15
import Derived.Test.YtagpofhencpliaaGreatDoorR20
import Derived.Test.YtagpofhencpliaaGreatDoorR10
import Derived.Test.YtagpofhencpliaaGreatDoorR13
import Derived.Test.YtagpofhencpliaaGreatDoorR17
import Derived.Test.YtagpofhencpliaaGreatDoorR07
import Derived.Test.YtagpofhencpliaaGreatDoorR04
import Derived.Test.YtagpofhencpliaaGreatDoorR11
import Derived.Test.YtagpofhencpliaaGreatDoorR03
import Derived.Test.YtagpofhencpliaaGreatDoorRows
import Derived.Deep.QuietTactic
import Derived.Deep.RegionWith
import Derived.Deep.RegionHeld3
import Derived.BigQuiet
import Derived.Laws.ResultCell
set_option linter.unusedVariables false
set_option linter.unusedSimpArgs false
namespace Go.Proofs.YtagpofhencpliaaGreatDoor
open Go.RowKit
namespace Ep
open Er (dv cellV LF LF.of LF.nil LF.mono LF.q LF.put LF.shape LF.lst block_cells some_cells block_set wrapI num_shl okD_shl)
theorem cmpS_l (sa B sb : Nat) (h : B ≠ 0) : Dm.cmpS 0 sa B sb = -1 := by
  unfold Dm.cmpS
  have : 0 < B * 10 ^ sa := Nat.mul_pos (by omega) (Nat.pow_pos (by omega))
  rw [Nat.zero_mul]
  exact Dm.cmpZ_lt (by omega)
theorem cmpS_r (A sa sb : Nat) (h : A ≠ 0) : Dm.cmpS A sa 0 sb = 1 := by
  unfold Dm.cmpS
  have : 0 < A * 10 ^ sb := Nat.mul_pos (by omega) (Nat.pow_pos (by omega))
  rw [Nat.zero_mul]
  exact Dm.cmpZ_gt (by omega)
theorem cmpS_z (sa sb : Nat) : Dm.cmpS 0 sa 0 sb = 0 := by
  unfold Dm.cmpS
  rw [Nat.zero_mul, Nat.zero_mul]
  exact Dm.cmpZ_eq rfl
theorem sg_three (g : Bool) (M : Nat) : sg g M = -1 ∨ sg g M = 0 ∨ sg g M = 1 := by
  unfold sg
  split
  · exact .inr (.inl rfl)
  · split
    · exact .inl rfl
    · exact .inr (.inr rfl)
theorem cmpD_ne (g : Bool) (A sa : Nat) (h : Bool) (B sb : Nat) (hn : sg g A ≠ sg h B) : Dm.cmpZ (sg g A) (sg h B) = Dm.cmpD g A sa h B sb := by
  by_cases hA : A = 0
  · subst hA
    by_cases hB : B = 0
    · subst hB; exact absurd rfl hn
    · have e := cmpS_l sa B sb hB
      have e1 : sg g 0 = 0 := rfl
      have e2 : Dm.cg g 0 = false := rfl
      unfold Dm.cmpD
      rw [e, e1, e2, Dm.cg_pos hB]
      unfold sg
      rw [if_neg hB]
      cases h <;> decide
  · by_cases hB : B = 0
    · subst hB
      have e := cmpS_r A sa sb hA
      have e1 : sg h 0 = 0 := rfl
      have e2 : Dm.cg h 0 = false := rfl
      unfold Dm.cmpD
      rw [e, e1, e2, Dm.cg_pos hA]
      unfold sg
      rw [if_neg hA]
      cases g <;> decide
    · have e1 : sg g A = if g = true then -1 else 1 := by unfold sg; rw [if_neg hA]
      have e2 : sg h B = if h = true then -1 else 1 := by unfold sg; rw [if_neg hB]
      rw [e1, e2] at hn ⊢
      unfold Dm.cmpD
      rw [Dm.cg_pos hA, Dm.cg_pos hB]
      cases g <;> cases h <;> first | (exact absurd rfl hn) | rfl
theorem cmpD_eq (g : Bool) (A sa : Nat) (h : Bool) (B sb n : Nat) (ha : sa ≤ n) (hb : sb ≤ n) (he : sg g A = sg h B) : sg g A * Dm.cmpZ ((A * 10 ^ (n - sa) : Nat) : Int) ((B * 10 ^ (n - sb) : Nat) : Int) = Dm.cmpD g A sa h B sb := by
  rw [Dm.cmpS_at A sa B sb n ha hb]
  by_cases hA : A = 0
  · subst hA
    have e1 : sg g 0 = 0 := rfl
    rw [e1] at he
    by_cases hB : B = 0
    · subst hB
      unfold Dm.cmpD
      rw [cmpS_z, e1]
      rfl
    · unfold sg at he
      rw [if_neg hB] at he
      cases h <;> simp at he
  · by_cases hB : B = 0
    · subst hB
      have e1 : sg h 0 = 0 := rfl
      rw [e1] at he
      unfold sg at he
      rw [if_neg hA] at he
      cases g <;> simp at he
    · have e1 : sg g A = if g = true then -1 else 1 := by unfold sg; rw [if_neg hA]
      have e2 : sg h B = if h = true then -1 else 1 := by unfold sg; rw [if_neg hB]
      rw [e1, e2] at he
      rw [e1]
      unfold Dm.cmpD
      rw [Dm.cg_pos hA, Dm.cg_pos hB]
      cases g <;> cases h <;> first | (exact absurd he (by decide)) | (simp)
set_option maxHeartbeats 6400000 in
theorem compare_any (g h : Bool) (va vb : Value) (s t : Nat) (xs ys : List Int) (w : World) (hv : Lst w va xs) (hu : Lst w vb ys) (hl : xs.length < 10000) (hl2 : ys.length < 10000) (hx : Dm.okD xs) (hy : Dm.okD ys) (hs : s ≤ 1000) (ht : t ≤ 1000) :
    Calls Tryz.prog 24 #[dv g va s, dv h vb t] w fun e w' => e = .returned (.int .i64 (Dm.cmpD g (Dm.num xs) s h (Dm.num ys) t)) ∧ Q w w' := by
  obtain ⟨a, c, rfl⟩ := hv.shape
  obtain ⟨b, d, rfl⟩ := hu.shape
  have hokx := (Dm.okB_iff xs).2 hx
  have hoky := (Dm.okB_iff ys).2 hy
  have MA := Lib.hid (fun u (k : S2 w g (.slice a xs.length c) s h (.slice b ys.length d) t u) => (by
    have e := may_any g (.slice a xs.length c) s xs u (hv.q k.here) (by omega) (by omega)
    rw [hokx, show decide (0 ≤ (s : Int)) = true from by simp, show decide ((s : Int) ≤ 1000) = true from by simp; omega] at e
    refine e.mono ?_
    rintro e w' ⟨rfl, hq⟩
    exact ⟨rfl, k.q hq⟩ : Calls Tryz.prog 47 #[.agg #[.bool g, .slice a xs.length c, .int .i64 s]] u fun e w' => e = .returned (.bool true) ∧ S2 w g (.slice a xs.length c) s h (.slice b ys.length d) t w'))
  have MB := Lib.hid (fun u (k : S2 w g (.slice a xs.length c) s h (.slice b ys.length d) t u) => (by
    have e := may_any h (.slice b ys.length d) t ys u (hu.q k.here) (by omega) (by omega)
    rw [hoky, show decide (0 ≤ (t : Int)) = true from by simp, show decide ((t : Int) ≤ 1000) = true from by simp; omega] at e
    refine e.mono ?_
    rintro e w' ⟨rfl, hq⟩
    exact ⟨rfl, k.q hq⟩ : Calls Tryz.prog 47 #[.agg #[.bool h, .slice b ys.length d, .int .i64 t]] u fun e w' => e = .returned (.bool true) ∧ S2 w g (.slice a xs.length c) s h (.slice b ys.length d) t w'))
  have SA := Lib.hid (fun u (k : S2 w g (.slice a xs.length c) s h (.slice b ys.length d) t u) => (by
    refine (sign_any g (.slice a xs.length c) s xs u (hv.q k.here) (by omega) hx).mono ?_
    rintro e w' ⟨rfl, hq⟩
    exact ⟨rfl, k.q hq, fun v zs hl => hl.q hq⟩ : Calls Tryz.prog 48 #[.agg #[.bool g, .slice a xs.length c, .int .i64 s]] u fun e w' => e = .returned (.int .i64 (sg g (Dm.num xs))) ∧ S2 w g (.slice a xs.length c) s h (.slice b ys.length d) t w' ∧ ∀ v zs, Lst u v zs → Lst w' v zs))
  have SB := Lib.hid (fun u (k : S2 w g (.slice a xs.length c) s h (.slice b ys.length d) t u) => (by
    refine (sign_any h (.slice b ys.length d) t ys u (hu.q k.here) (by omega) hy).mono ?_
    rintro e w' ⟨rfl, hq⟩
    exact ⟨rfl, k.q hq, fun v zs hl => hl.q hq⟩ : Calls Tryz.prog 48 #[.agg #[.bool h, .slice b ys.length d, .int .i64 t]] u fun e w' => e = .returned (.int .i64 (sg h (Dm.num ys))) ∧ S2 w g (.slice a xs.length c) s h (.slice b ys.length d) t w' ∧ ∀ v zs, Lst u v zs → Lst w' v zs))
  obtain ⟨r, hr⟩ : ∃ r, r = max s t := ⟨_, rfl⟩
  have LV := Lib.hid (fun u (k : S2 w g (.slice a xs.length c) s h (.slice b ys.length d) t u) => (by
    refine (level_any g h _ _ s t r xs ys u (hv.q k.here) (hu.q k.here) (by omega) (by omega) hs ht hr).mono ?_
    rintro e w' ⟨x, y, rfl, h1, h2, hq⟩
    exact ⟨x, y, rfl, h1, h2, k.q hq⟩ : Calls Tryz.prog 50 #[.agg #[.bool g, .slice a xs.length c, .int .i64 s], .agg #[.bool h, .slice b ys.length d, .int .i64 t]] u fun e w' => ∃ x y, e = .returned (.tuple #[x, y, .int .i64 (r : Int)]) ∧ Lst w' x (xs ++ List.replicate (r - s) 0) ∧ Lst w' y (ys ++ List.replicate (r - t) 0) ∧ S2 w g (.slice a xs.length c) s h (.slice b ys.length d) t w'))
  have hX : (xs ++ List.replicate (r - s) 0).length < 1000000 := by rw [List.length_append, List.length_replicate]; omega
  have hY : (ys ++ List.replicate (r - t) 0).length < 1000000 := by rw [List.length_append, List.length_replicate]; omega
  have kX : Dm.okD (xs ++ List.replicate (r - s) 0) := by rw [Dm.okD_append]; exact ⟨hx, fun d hd => by have := List.eq_of_mem_replicate hd; omega⟩
  have kY : Dm.okD (ys ++ List.replicate (r - t) 0) := by rw [Dm.okD_append]; exact ⟨hy, fun d hd => by have := List.eq_of_mem_replicate hd; omega⟩
  have nX := Dm.num_zeros xs (r - s)
  have nY := Dm.num_zeros ys (r - t)
  have CC := Lib.hid (fun u x y (h1 : Lst u x (xs ++ List.replicate (r - s) 0)) (h2 : Lst u y (ys ++ List.replicate (r - t) 0)) => Dw.compare_any x y _ _ u h1 h2 (by omega) (by omega) kX kY)
  rw [nX, nY] at CC
  have HNE := Lib.hid (fun hn => cmpD_ne g (Dm.num xs) s h (Dm.num ys) t hn)
  have HEQ := Lib.hid (fun he => cmpD_eq g (Dm.num xs) s h (Dm.num ys) t r (by omega) (by omega) he)
  have hp := sg_three g (Dm.num xs)
  have hq := sg_three h (Dm.num ys)
  have hcc := Dm.cmpZ_three ((Dm.num xs * 10 ^ (r - s) : Nat) : Int) ((Dm.num ys * 10 ^ (r - t) : Nat) : Int)
  have HS := Lib.hid (S2.start w g (.slice a xs.length c) s h (.slice b ys.length d) t)
  have KC := Lib.hid (fun u x y => Dw.cmp_any x y u)
  generalize Dm.cmpD g (Dm.num xs) s h (Dm.num ys) t = D at *
  generalize sg g (Dm.num xs) = p at *
  generalize sg h (Dm.num ys) = q at *
  generalize Dm.cmpZ ((Dm.num xs * 10 ^ (r - s) : Nat) : Int) ((Dm.num ys * 10 ^ (r - t) : Nat) : Int) = cc at *
  generalize xs ++ List.replicate (r - s) 0 = X at *
  generalize ys ++ List.replicate (r - t) 0 = Y at *
  generalize xs.length = n at *
  generalize ys.length = m at *
  clear hv hu hokx hoky hX hY kX kY nX nY hr hx hy
  go_enter Tryz.func24, Tryz.ntmps24
  unfold dv
  go_wp2_with fail
  refine (MA.out _ HS.out).mono ?_
  rintro e w1 ⟨rfl, hS⟩
  have HS1 := Lib.hid hS
  unfold S2 at hS
  obtain ⟨a0, a1, a2, b0, b1, b2, _, _, _⟩ := hS
  go_wp2_with fail
  refine (MB.out _ HS1.out).mono ?_
  rintro e w2 ⟨rfl, hS⟩
  have HS2 := Lib.hid hS
  clear hS a0 a1 a2 b0 b1 b2
  go_wp2_with fail
  have hst := HS2.out.q ((Q.refl _).drew)
  have hst0 := HS2.out
  unfold S2 at hst hst0
  go_region_held3 (fun u => u.cell? ⟨w.heap.size, 0, none⟩ = some (.bool g) ∧ (u.cell? ⟨w.heap.size, 1, none⟩ = some (.slice a n c) ∧ (u.cell? ⟨w.heap.size, 2, none⟩ = some (.int .i64 s) ∧ (u.cell? ⟨w.heap.size + 1, 0, none⟩ = some (.bool h) ∧ (u.cell? ⟨w.heap.size + 1, 1, none⟩ = some (.slice b m d) ∧ (u.cell? ⟨w.heap.size + 1, 2, none⟩ = some (.int .i64 t) ∧ (u.heap[w.heap.size]? = some (.cells #[.bool g, .slice a n c, .int .i64 s] 36) ∧ (u.heap[w.heap.size + 1]? = some (.cells #[.bool h, .slice b m d, .int .i64 t] 36) ∧ (Q w u))))))))) (first | exact hst | exact hst0 | assumption) (first | (go_at_call_of 48 (Value.slice a n c); refine (SA.out _ ?_).mono ?_; assumption; rintro e w5 ⟨rfl, hS5, hcar⟩; unfold S2 at hS5) | (go_at_call_of 48 (Value.slice b m d); refine (SB.out _ ?_).mono ?_; assumption; rintro e w6 ⟨rfl, hS6, hcar⟩; unfold S2 at hS6))
  have HS3 := Lib.hid (show S2 w g (.slice a n c) s h (.slice b m d) t w6 from hS6)
  clear hst hst0 hS5 hS6
  by_cases hpq : p = q
  · have HE := Lib.hid (HEQ.out hpq)
    subst hpq
    have hS := HS3.out
    unfold S2 at hS
    obtain ⟨a0, a1, a2, b0, b1, b2, _, _, _⟩ := hS
    go_wp2_with fail
    refine (LV.out _ HS3.out).mono ?_
    rintro e w7 ⟨x, y, rfl, hx, hy, hS⟩
    have HX := Lib.hid hx
    have HY := Lib.hid hy
    have HS7 := Lib.hid hS
    unfold S2 at hS
    clear a0 a1 a2 b0 b1 b2 hx hy
    obtain ⟨a0, a1, a2, b0, b1, b2, _, _, _⟩ := hS
    go_wp2_with fail
    refine (SA.out _ HS7.out).mono ?_
    rintro e w8 ⟨rfl, hS, hcar⟩
    have HX8 := Lib.hid (hcar _ _ HX.out)
    have HY8 := Lib.hid (hcar _ _ HY.out)
    have HQ8 := Lib.hid hS.here
    clear hS hcar a0 a1 a2 b0 b1 b2
    rcases hp with hp | hp | hp
    all_goals
      subst hp
      go_wp2_with fail
      refine (CC.out _ _ _ HX8.out HY8.out).mono ?_
      rintro e w9 ⟨rfl, hq9⟩
      have HQ9 := Lib.hid (HQ8.out.trans hq9)
      clear hq9
      rcases hcc with hcc | hcc | hcc
      all_goals
        rw [hcc] at HE ⊢
        go_wp2_with fail
        go_ret
        rw [← HE.out]
        exact ⟨rfl, HQ9.out⟩
  · have HE := Lib.hid (HNE.out hpq)
    have hpqb : (p == q) = false := beq_eq_false_iff_ne.2 hpq
    go_wp2_with fail
    have hst := HS3.out.q ((Q.refl _).drew)
    have hst0 := HS3.out
    unfold S2 at hst hst0
    go_region_held3 (fun u => u.cell? ⟨w.heap.size, 0, none⟩ = some (.bool g) ∧ (u.cell? ⟨w.heap.size, 1, none⟩ = some (.slice a n c) ∧ (u.cell? ⟨w.heap.size, 2, none⟩ = some (.int .i64 s) ∧ (u.cell? ⟨w.heap.size + 1, 0, none⟩ = some (.bool h) ∧ (u.cell? ⟨w.heap.size + 1, 1, none⟩ = some (.slice b m d) ∧ (u.cell? ⟨w.heap.size + 1, 2, none⟩ = some (.int .i64 t) ∧ (u.heap[w.heap.size]? = some (.cells #[.bool g, .slice a n c, .int .i64 s] 36) ∧ (u.heap[w.heap.size + 1]? = some (.cells #[.bool h, .slice b m d, .int .i64 t] 36) ∧ (Q w u))))))))) (first | exact hst | exact hst0 | assumption) (first | (go_at_call_of 48 (Value.slice a n c); refine (SA.out _ ?_).mono ?_; assumption; rintro e w5 ⟨rfl, hS5, hcar⟩; unfold S2 at hS5) | (go_at_call_of 48 (Value.slice b m d); refine (SB.out _ ?_).mono ?_; assumption; rintro e w6 ⟨rfl, hS6, hcar⟩; unfold S2 at hS6) | (go_at_call 49; refine (KC.out _ _ _).mono ?_; rintro e y ⟨rfl, rfl⟩))
    have HQ := Lib.hid (show Q w _ from hS6.2.2.2.2.2.2.2.2)
    clear hst hst0 hS5 hS6 hcar
    go_wp2_with fail
    go_ret
    rw [HE.out]
    exact ⟨rfl, HQ.out⟩
end Ep
end Go.Proofs.YtagpofhencpliaaGreatDoor
