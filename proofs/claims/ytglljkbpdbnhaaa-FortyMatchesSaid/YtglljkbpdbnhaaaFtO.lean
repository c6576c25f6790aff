/- The name that is nearest, as the statement asks. -/
import Derived.Test.YtglljkbpdbnhaaaRows
import Derived.Test.YtglljkbpdbnhaaaInts
import Derived.Test.YtglljkbpdbnhaaaUtfM
import Derived.Test.YtglljkbpdbnhaaaUtfG
import Derived.Test.YtglljkbpdbnhaaaUtfR
import Derived.Test.YtglljkbpdbnhaaaGap
import Derived.Test.YtglljkbpdbnhaaaEls
import Derived.Test.YtglljkbpdbnhaaaBlk
import Derived.Test.YtglljkbpdbnhaaaRng
import Derived.Test.YtglljkbpdbnhaaaRng2
import Derived.Test.YtglljkbpdbnhaaaFtM
import Derived.Test.YtglljkbpdbnhaaaFtA
import Derived.Test.YtglljkbpdbnhaaaFtB
import Derived.Test.YtglljkbpdbnhaaaFtD
import Derived.Test.YtglljkbpdbnhaaaFtR
import Derived.Test.YtglljkbpdbnhaaaFtL
import Derived.Deep.RegionHeld
import Derived.Deep.QuietTactic
import Derived.BigQuiet
import Derived.Deep.Cut
import Derived.OwnWalkIn
import Derived.TacticsInMore
import Derived.LoopNIn
import Derived.LoopIn
set_option linter.unusedVariables false
set_option linter.unusedSimpArgs false
namespace Go.Proofs.Ytglljkbpdbnhaaa
open Go.RowKit Go.Shelf Um
attribute [local go_sem] Oper.semAt_some
namespace Ft


theorem fld0 (u : World) (N s1 s2 s3 s4 s5 s6 s7 : ByteArray) : (Instr.field 24 (.agg #[.string N, .string s1, .string s2, .string s3, .string s4, .string s5, .string s6, .string s7]) 0).run Try.prog u = .ok (.string N) u := by
  unfold Instr.field
  rw [Sem.run_bind, run_underlying Try.underlying24 u]
  rfl
set_option maxRecDepth 100000 in
set_option maxHeartbeats 8000000 in
theorem law_matches (s : ByteArray) (n : Int) (t : ByteArray) (w : World) (hs : s.size ≤ maxLen) (h0 : -9223372036854775808 ≤ n) (h1 : n ≤ 9223372036854775807) (ht : t.size ≤ maxLen) :
    Calls Try.prog 4 #[.string s, .int .i64 n, .string t] w fun e w' => e = .returned (.bool true) ∧ Q w w' := by
  have HF := Lib.hid (fun u => Ur.few_any s 16 u hs (by omega))
  have HG := Lib.hid (fun u => Ur.few_any t 6 u ht (by omega))
  have HO := Lib.hid (fun u => Fr.one_any n u h0 h1)
  have HLV := Lib.hid (fun u => lives_any u)
  have hba := around_bd n 40 (by omega)
  have hk40 : (around n 40).toNat < 40 := by omega
  generalize (around n 40).toNat = k at *
  have hA0 := Ur.few_size s 16
  have hT6 := Ur.few_size t 6
  have hN : (Lm.bs (Fm.T k).nam).size = 5 := by rw [Lm.bs_size]; exact (Fm.nam_ne k hk40).2.1
  have hT : rV (Fm.T k) = .agg #[.string (Lm.bs (Fm.T k).nam), .string (Lm.bs (Fm.T k).pat), .string (Lm.bs (Fm.T k).sys), .string (Lm.bs (Fm.T k).dec), .string (Lm.bs (Fm.T k).grp), .string (Lm.bs (Fm.T k).min), .string (Lm.bs (Fm.T k).per), .string (Lm.bs (Fm.T k).cur)] := rfl
  rw [hT] at HO
  clear hT hba h0 h1 hs ht hk40
  generalize Ur.few s 16 = A0 at *
  generalize Ur.few t 6 = T6 at *
  generalize Lm.bs (Fm.T k).nam = N at *
  generalize Lm.bs (Fm.T k).pat = s1 at *
  generalize Lm.bs (Fm.T k).sys = s2 at *
  generalize Lm.bs (Fm.T k).dec = s3 at *
  generalize Lm.bs (Fm.T k).grp = s4 at *
  generalize Lm.bs (Fm.T k).min = s5 at *
  generalize Lm.bs (Fm.T k).per = s6 at *
  generalize Lm.bs (Fm.T k).cur = s7 at *
  have hP : (N.extract 0 2).size = 2 := by rw [ByteArray.size_extract]; omega
  obtain ⟨P, hPP2⟩ : ∃ P, N.extract 0 2 = P := ⟨_, rfl⟩
  have hN2 : (2 : Int) ≤ (N.size : Int) := by omega
  have hN3 : 2 ≤ N.size := by omega
  rw [hPP2] at hP
  have p1 : ¬ 9223372036854775807 < P.size + 1 := by omega
  have p2 : ¬ 9223372036854775807 < P.size + T6.size := by omega
  have p3 : ¬ 9223372036854775807 < P.size + 1 + T6.size := by omega
  have p4 : ¬ 9223372036854775807 < 3 + T6.size := by omega
  have p5 : ¬ 9223372036854775807 < 2 + T6.size := by omega
  go_enter Try.func4, Try.ntmps4
  go_wp2_with fail
  refine (HO.out _).mono ?_
  rintro e w1 ⟨rfl, hq1⟩
  have HQ1 := Lib.hid hq1
  have hfld := fld0 w1 N s1 s2 s3 s4 s5 s6 s7
  clear hq1 HO
  go_upto_region 2 with fail
  refine wp_region_held_drew (S := fun u => Q w1 u) (by kernel_rfl) (by exact (Q.refl w1).drew) (fun hHeld => ?_)
  have hS : Q w1 w1.drew := hHeld
  clear hHeld
  have hq : Q w1 w1.drew := (Q.refl _).drew
  clear hq
  generalize w1.drew = yR1x0 at *
  change wpAnyH _ _ _ _ _ _ #[false, false, false, false, false, false, false, false, false, false, false, false, false, false, false, false, false, false] _ _
  refine wpAnyH_take (i := 0) (v := ?vR1x1) rfl (by kernel_rfl) (by kernel_rfl) (by kernel_rfl) (fun _ _ _ h => h) (Or.inl ⟨by first | kernel_rfl | rfl, ?hyR1x1⟩) (by exact hS) ?rsR1x1
  case hyR1x1 => (intro uz hSw; (try dsimp only at hSw); go_simp; try with_reducible rfl)
  try simp only [Act.put, List.setIfInBounds_toArray, List.set_cons_zero, List.set_cons_succ]
  change wpAnyH _ _ _ _ _ _ #[true, false, false, false, false, false, false, false, false, false, false, false, false, false, false, false, false, false] _ _
  refine wpAnyH_take (i := 2) (v := ?vR1x2) rfl (by kernel_rfl) (by kernel_rfl) (by kernel_rfl) (fun _ _ _ h => h) (Or.inl ⟨by first | kernel_rfl | rfl, ?hyR1x2⟩) (by exact hS) ?rsR1x2
  case hyR1x2 => (intro uz hSw; (try dsimp only at hSw); go_simp; try with_reducible rfl)
  try simp only [Act.put, List.setIfInBounds_toArray, List.set_cons_zero, List.set_cons_succ]
  change wpAnyH _ _ _ _ _ _ #[true, false, true, false, false, false, false, false, false, false, false, false, false, false, false, false, false, false] _ _
  refine wpAnyH_take (i := 3) (v := ?vR1x3) rfl (by kernel_rfl) (by kernel_rfl) (by kernel_rfl) (fun _ _ _ h => h) (Or.inl ⟨by first | kernel_rfl | rfl, ?hyR1x3⟩) (by exact hS) ?rsR1x3
  case hyR1x3 => (intro uz hSw; (try dsimp only at hSw); go_simp; try with_reducible rfl)
  try simp only [Act.put, List.setIfInBounds_toArray, List.set_cons_zero, List.set_cons_succ]
  change wpAnyH _ _ _ _ _ _ #[true, false, true, true, false, false, false, false, false, false, false, false, false, false, false, false, false, false] _ _
  refine wpAnyH_take (i := 4) (v := ?vR1x4) rfl (by kernel_rfl) (by kernel_rfl) (by kernel_rfl) (fun _ _ _ h => h) (Or.inl ⟨by first | kernel_rfl | rfl, ?hyR1x4⟩) (by exact hS) ?rsR1x4
  case hyR1x4 => (intro uz hSw; (try dsimp only at hSw); go_simp; try with_reducible rfl)
  try simp only [Act.put, List.setIfInBounds_toArray, List.set_cons_zero, List.set_cons_succ]
  change wpAnyH _ _ _ _ _ _ #[true, false, true, true, true, false, false, false, false, false, false, false, false, false, false, false, false, false] _ _
  refine wpAnyH_take (i := 5) (v := ?vR1x5) rfl (by kernel_rfl) (by kernel_rfl) (by kernel_rfl) (fun _ _ _ h => h) (Or.inl ⟨by first | kernel_rfl | rfl, ?hyR1x5⟩) (by exact hS) ?rsR1x5
  case hyR1x5 => (intro uz hSw; (try dsimp only at hSw); go_simp; try with_reducible rfl)
  try simp only [Act.put, List.setIfInBounds_toArray, List.set_cons_zero, List.set_cons_succ]
  change wpAnyH _ _ _ _ _ _ #[true, false, true, true, true, true, false, false, false, false, false, false, false, false, false, false, false, false] _ _
  refine wpAnyH_take (i := 6) (v := ?vR1x6) rfl (by kernel_rfl) (by kernel_rfl) (by kernel_rfl) (fun _ _ _ h => h) (Or.inl ⟨by first | kernel_rfl | rfl, ?hyR1x6⟩) (by exact hS) ?rsR1x6
  case hyR1x6 => (intro uz hSw; (try dsimp only at hSw); go_simp; try with_reducible rfl)
  try simp only [Act.put, List.setIfInBounds_toArray, List.set_cons_zero, List.set_cons_succ]
  change wpAnyH _ _ _ _ _ _ #[true, false, true, true, true, true, true, false, false, false, false, false, false, false, false, false, false, false] _ _
  refine wpAnyH_take (i := 7) (v := ?vR1x7) rfl (by kernel_rfl) (by kernel_rfl) (by kernel_rfl) (fun _ _ _ h => h) (Or.inl ⟨by first | kernel_rfl | rfl, ?hyR1x7⟩) (by exact hS) ?rsR1x7
  case hyR1x7 => (intro uz hSw; (try dsimp only at hSw); go_simp; try with_reducible rfl)
  try simp only [Act.put, List.setIfInBounds_toArray, List.set_cons_zero, List.set_cons_succ]
  change wpAnyH _ _ _ _ _ _ #[true, false, true, true, true, true, true, true, false, false, false, false, false, false, false, false, false, false] _ _
  refine wpAnyH_take (i := 8) (v := ?vR1x8) rfl (by kernel_rfl) (by kernel_rfl) (by kernel_rfl) (fun _ _ _ h => h) (Or.inl ⟨by first | kernel_rfl | rfl, ?hyR1x8⟩) (by exact hS) ?rsR1x8
  case hyR1x8 => (intro uz hSw; (try dsimp only at hSw); go_simp; try with_reducible rfl)
  try simp only [Act.put, List.setIfInBounds_toArray, List.set_cons_zero, List.set_cons_succ]
  change wpAnyH _ _ _ _ _ _ #[true, false, true, true, true, true, true, true, true, false, false, false, false, false, false, false, false, false] _ _
  refine wpAnyH_take (i := 11) (v := ?vR1x9) rfl (by kernel_rfl) (by kernel_rfl) (by kernel_rfl) (fun _ _ _ h => h) (Or.inl ⟨by first | kernel_rfl | rfl, ?hyR1x9⟩) (by exact hS) ?rsR1x9
  case hyR1x9 => (intro uz hSw; (try dsimp only at hSw); go_simp; try with_reducible rfl)
  try simp only [Act.put, List.setIfInBounds_toArray, List.set_cons_zero, List.set_cons_succ]
  change wpAnyH _ _ _ _ _ _ #[true, false, true, true, true, true, true, true, true, false, false, true, false, false, false, false, false, false] _ _
  refine wpAnyH_take (i := 12) (v := ?vR1x10) rfl (by kernel_rfl) (by kernel_rfl) (by kernel_rfl) (fun _ _ _ h => h) (Or.inl ⟨by first | kernel_rfl | rfl, ?hyR1x10⟩) (by exact hS) ?rsR1x10
  case hyR1x10 => (intro uz hSw; (try dsimp only at hSw); go_simp; try with_reducible rfl)
  try simp only [Act.put, List.setIfInBounds_toArray, List.set_cons_zero, List.set_cons_succ]
  change wpAnyH _ _ _ _ _ _ #[true, false, true, true, true, true, true, true, true, false, false, true, true, false, false, false, false, false] _ _
  refine wpAnyH_take (i := 13) (v := ?vR1x11) rfl (by kernel_rfl) (by kernel_rfl) (by kernel_rfl) (fun _ _ _ h => h) (Or.inl ⟨by first | kernel_rfl | rfl, ?hyR1x11⟩) (by exact hS) ?rsR1x11
  case hyR1x11 => (intro uz hSw; (try dsimp only at hSw); go_simp; try with_reducible rfl)
  try simp only [Act.put, List.setIfInBounds_toArray, List.set_cons_zero, List.set_cons_succ]
  change wpAnyH _ _ _ _ _ _ #[true, false, true, true, true, true, true, true, true, false, false, true, true, true, false, false, false, false] _ _
  refine wpAnyH_ready (rs := [1]) (by kernel_rfl) (by simp) ?_
  refine (AllReadyH.cons rfl (fun K hK => ?_) AllReadyH.nil)
  go_simp
  refine (HF.out _).mono ?_
  rintro e yy ⟨rfl, rfl⟩
  try (go_wp2_with fail)
  refine hK.out _ _ (by exact hS) (fun hHeld => ?_)
  clear hK K hHeld
  try simp only [Act.put, List.setIfInBounds_toArray, List.set_cons_zero, List.set_cons_succ]
  change wpAnyH _ _ _ _ _ _ #[true, true, true, true, true, true, true, true, true, false, false, true, true, true, false, false, false, false] _ _
  refine wpAnyH_ready (rs := [9]) (by kernel_rfl) (by simp) ?_
  refine (AllReadyH.cons rfl (fun K hK => ?_) AllReadyH.nil)
  go_simp
  refine (HG.out _).mono ?_
  rintro e yy ⟨rfl, rfl⟩
  try (go_wp2_with fail)
  refine hK.out _ _ (by exact hS) (fun hHeld => ?_)
  clear hK K hHeld
  try simp only [Act.put, List.setIfInBounds_toArray, List.set_cons_zero, List.set_cons_succ]
  change wpAnyH _ _ _ _ _ _ #[true, true, true, true, true, true, true, true, true, true, false, true, true, true, false, false, false, false] _ _
  refine wpAnyH_take (i := 10) (v := ?vR1x14) rfl (by kernel_rfl) (by kernel_rfl) (by kernel_rfl) (fun _ _ _ h => h) (Or.inl ⟨by first | kernel_rfl | rfl, ?hyR1x14⟩) (by exact hS) ?rsR1x14
  case hyR1x14 => (intro uz hSw; (try dsimp only at hSw); go_simp; try with_reducible rfl)
  try simp only [Act.put, List.setIfInBounds_toArray, List.set_cons_zero, List.set_cons_succ]
  change wpAnyH _ _ _ _ _ _ #[true, true, true, true, true, true, true, true, true, true, true, true, true, true, false, false, false, false] _ _
  refine wpAnyH_ready (rs := [14]) (by kernel_rfl) (by simp) ?_
  refine (AllReadyH.cons rfl (fun K hK => ?_) AllReadyH.nil)
  go_simp
  refine (HG.out _).mono ?_
  rintro e yy ⟨rfl, rfl⟩
  try (go_wp2_with fail)
  refine hK.out _ _ (by exact hS) (fun hHeld => ?_)
  clear hK K hHeld
  try simp only [Act.put, List.setIfInBounds_toArray, List.set_cons_zero, List.set_cons_succ]
  change wpAnyH _ _ _ _ _ _ #[true, true, true, true, true, true, true, true, true, true, true, true, true, true, true, false, false, false] _ _
  refine wpAnyH_take (i := 15) (v := ?vR1x16) rfl (by kernel_rfl) (by kernel_rfl) (by kernel_rfl) (fun _ _ _ h => h) (Or.inl ⟨by first | kernel_rfl | rfl, ?hyR1x16⟩) (by exact hS) ?rsR1x16
  case hyR1x16 => (intro uz hSw; (try dsimp only at hSw); go_simp; try with_reducible rfl)
  try simp only [Act.put, List.setIfInBounds_toArray, List.set_cons_zero, List.set_cons_succ]
  change wpAnyH _ _ _ _ _ _ #[true, true, true, true, true, true, true, true, true, true, true, true, true, true, true, true, false, false] _ _
  refine wpAnyH_ready (rs := [16]) (by kernel_rfl) (by simp) ?_
  refine (AllReadyH.cons rfl (fun K hK => ?_) AllReadyH.nil)
  go_simp
  have hq := (Q.refl yR1x0).alloc (.cells #[.string A0, .string N, .string P, .string (P ++ ⟨#[45]⟩ ++ T6), .string (P ++ T6)] 9)
  have HBL := Lib.hid (Bk.new yR1x0 9 [.string A0, .string N, .string P, .string (P ++ ⟨#[45]⟩ ++ T6), .string (P ++ T6)])
  have HW_bL := Lib.hid (Q.le hS)
  have hS2 := Q.trans hS hq
  refine hK.out _ _ (by exact hS2) (fun hHeld => ?_)
  clear hK K hHeld hS hq
  have hS := hS2
  clear hS2
  generalize yR1x0.alloc (.cells #[.string A0, .string N, .string P, .string (P ++ ⟨#[45]⟩ ++ T6), .string (P ++ T6)] 9) = yR1x17 at *
  generalize yR1x0.heap.size = bL at *
  try simp only [Act.put, List.setIfInBounds_toArray, List.set_cons_zero, List.set_cons_succ]
  change wpAnyH _ _ _ _ _ _ #[true, true, true, true, true, true, true, true, true, true, true, true, true, true, true, true, true, false] _ _
  refine wpAnyH_take (i := 17) (v := ?vR1x18) rfl (by kernel_rfl) (by kernel_rfl) (by kernel_rfl) (fun _ _ _ h => h) (Or.inl ⟨by first | kernel_rfl | rfl, ?hyR1x18⟩) (by exact hS) ?rsR1x18
  case hyR1x18 => (intro uz hSw; (try dsimp only at hSw); go_simp; try with_reducible rfl)
  try simp only [Act.put, List.setIfInBounds_toArray, List.set_cons_zero, List.set_cons_succ]
  change wpAnyH _ _ _ _ _ _ #[true, true, true, true, true, true, true, true, true, true, true, true, true, true, true, true, true, true] _ _
  refine wpAnyH_done (by kernel_rfl) ?_ _
  have HQU := Lib.hid (HQ1.out.trans hS)
  have hS3 : (P ++ ⟨#[45]⟩ ++ T6).size ≤ 9 := by rw [ByteArray.size_append, ByteArray.size_append, hP]; show 2 + 1 + T6.size ≤ 9; omega
  have hS4 : (P ++ T6).size ≤ 8 := by rw [ByteArray.size_append, hP]; omega
  generalize P ++ ⟨#[45]⟩ ++ T6 = A3 at *
  generalize P ++ T6 = A4 at *
  clear hS p1 p2 p3 p4 p5 hPP2 hN2 hN3 hfld
  go_wp2_with fail
  go_loopw [9] (fun vi wr => ∃ k : Nat, vi = .int .i64 k ∧ k ≤ 5 ∧ Q yR1x17 wr) (fun i _ => 5 - (intOf i).toNat)
  case atStart => exact ⟨0, rfl, by omega, Q.refl _⟩
  case round =>
    obtain ⟨k, rfl, hk, hqw⟩ := hrel
    have HQW := Lib.hid hqw
    by_cases hlt : k < 5
    · have hlti : (k : Int) < 5 := by omega
      have hk0 : ¬ (k : Int) < 0 := by omega
      have hx : ∃ x : ByteArray, x.size ≤ 40 ∧ ∀ u, Q wr u → u.cell? ⟨bL, k, none⟩ = some (.string x) := by
        rcases (show k = 0 ∨ k = 1 ∨ k = 2 ∨ k = 3 ∨ k = 4 by omega) with rfl | rfl | rfl | rfl | rfl
        · exact ⟨A0, by omega, fun u hu => (HBL.out.q (hqw.trans hu)).cell 0 rfl⟩
        · exact ⟨N, by omega, fun u hu => (HBL.out.q (hqw.trans hu)).cell 1 rfl⟩
        · exact ⟨P, by omega, fun u hu => (HBL.out.q (hqw.trans hu)).cell 2 rfl⟩
        · exact ⟨A3, by omega, fun u hu => (HBL.out.q (hqw.trans hu)).cell 3 rfl⟩
        · exact ⟨A4, by omega, fun u hu => (HBL.out.q (hqw.trans hu)).cell 4 rfl⟩
      obtain ⟨x, hxs, hcl⟩ := hx
      have HCL := Lib.hid hcl
      have HM := Lib.hid (fun u => match_any x u (by omega))
      have HR := Lib.hid (fun u => Fr.match_any x u (by omega))
      have k0 := hcl wr (Q.refl _)
      have hcase : (me x = 7 ∧ (Lm.bs (Fm.mt x.data.toList)).toList.isEmpty = true ∧ (Lm.bs (Fm.mt x.data.toList)).toList = []) ∨ (me x = 0 ∧ (Lm.bs (Fm.mt x.data.toList)).toList.isEmpty = false ∧ ¬ (Lm.bs (Fm.mt x.data.toList)).toList = []) := by
        by_cases hm : Fm.mt x.data.toList = []
        · exact .inl ⟨if_pos hm, by rw [hm]; exact emp_emp, by rw [hm, ByteArray.toList_eq]; rfl⟩
        · exact .inr ⟨if_neg hm, bs_emp hm, by rw [ByteArray.toList_eq, Lm.bs_list]; exact hm⟩
      generalize Lm.bs (Fm.mt x.data.toList) = y at *
      generalize me x = f at *
      clear hcl hxs hqw hS3 hS4 hA0 hT6 hN hP HF HG
      rcases hcase with ⟨rfl, e1, e2⟩ | ⟨rfl, e1, e2⟩
      · go_wp2_with fail
        refine (HM.out _).mono ?_
        rintro e w4 ⟨rfl, hq4⟩
        have k1 := HCL.out w4 hq4
        have HQ4 := Lib.hid (HQW.out.trans hq4)
        clear k0 hq4
        go_wp2_with fail
        refine (HR.out _).mono ?_
        rintro e w5 ⟨rfl, hq5⟩
        have HQ5 := Lib.hid (HQ4.out.trans hq5)
        clear k1 hq5
        go_wp2_with fail
        go_roundw
        case rel => exact ⟨k + 1, by go_num, by omega, HQ5.out⟩
        case measure => simp [intOf]; omega
      · go_wp2_with fail
        refine (HM.out _).mono ?_
        rintro e w4 ⟨rfl, hq4⟩
        have k1 := HCL.out w4 hq4
        have HQ4 := Lib.hid (HQW.out.trans hq4)
        clear k0 hq4
        go_wp2_with fail
        refine (HR.out _).mono ?_
        rintro e w5 ⟨rfl, hq5⟩
        have HQ5 := Lib.hid (HQ4.out.trans hq5)
        clear k1 hq5
        go_wp2_with fail
        go_roundw
        case rel => exact ⟨k + 1, by go_num, by omega, HQ5.out⟩
        case measure => simp [intOf]; omega
    · have hnlt : ¬ (k : Int) < 5 := by omega
      have HQE := Lib.hid (HQU.out.trans hqw)
      clear hqw hlt hk
      go_wp2_with fail
      refine (HLV.out _).mono ?_
      rintro e w9 ⟨rfl, hq9⟩
      have HQ9 := Lib.hid (HQE.out.trans hq9)
      clear hq9
      go_wp2_with fail
      go_ret
      exact ⟨rfl, HQ9.out⟩

end Ft
end Go.Proofs.Ytglljkbpdbnhaaa
