/- The document's own answers on clusters. The document's own answers on clusters, further: where they begin, which they are, whether lists of texts are the same, a character of a class. -/
import Derived.Test.YtglljkbpdbnhaaaGreatDoorRows
import Derived.Test.YtglljkbpdbnhaaaGreatDoorMA
import Derived.Test.YtglljkbpdbnhaaaGreatDoorMB
import Derived.Test.YtglljkbpdbnhaaaGreatDoorMD
import Derived.Test.YtglljkbpdbnhaaaGreatDoorMC
import Derived.Test.YtglljkbpdbnhaaaGreatDoorME
import Derived.Deep.QuietTactic
import Derived.Deep.RegionHeld3
import Derived.Deep.AppendLies
import Derived.WalkLawsBesides
import Derived.BigQuiet
import Derived.BigGuardPart
import Derived.Deep.DrawnRows
import Derived.IntWalk
set_option linter.unusedVariables false
set_option linter.unusedSimpArgs false
namespace Go.Proofs.YtglljkbpdbnhaaaGreatDoor
open Go.RowKit Um Cm Gm
namespace Gr

set_option maxHeartbeats 400000 in
theorem ends_any (k : Int) (w : World) :
    Calls Tryz.prog 150 #[.int .i64 k] w fun e w' => e = .returned (.bool (alB k)) ∧ w = w' := by
  go_enter Tryz.func150, Tryz.ntmps150
  go_wp2_with fail
  all_goals go_ret
  all_goals exact ⟨retB (by simp_all [alB] <;> rfl), rfl⟩
set_option maxHeartbeats 400000 in
theorem hangul_any (a k : Int) (w : World) :
    Calls Tryz.prog 151 #[.int .i64 a, .int .i64 k] w fun e w' => e = .returned (.bool (sylB a k)) ∧ w = w' := by
  go_enter Tryz.func151, Tryz.ntmps151
  go_wp2_with fail
  all_goals go_ret
  all_goals exact ⟨retB (by simp_all [sylB] <;> rfl), rfl⟩

/-- Classes, the last one first. -/
def rc (xs : List Int) : List Nat := (xs.map cls).reverse
theorem rc_take (xs : List Int) (i : Nat) (h : i < xs.length) : rc (xs.take (i + 1)) = cls (xs.getD i 0) :: rc (xs.take i) := by
  unfold rc
  rw [List.take_succ_eq_append_getElem h, List.map_append, List.reverse_append, List.getD_eq_getElem?_getD, List.getElem?_eq_getElem h]; rfl
theorem rc_last (xs : List Int) (n : Nat) (h : xs.length = n + 1) : rc xs = cls (xs.getD n 0) :: rc (xs.take n) := by
  have := rc_take xs n (by omega)
  rwa [List.take_of_length_le (by omega)] at this

theorem refR_cons (a : Nat) (r : List Nat) (k : Int) : refR (a :: r) k = (if a = 1 ∧ k = 2 then true else if alB a = true ∨ alB k = true then false
    else if sylB a k = true ∨ k = 4 ∨ k = 5 ∨ k = 8 ∨ a = 7 then true
    else if a = 5 ∧ k = 14 then decide ((r.dropWhile (· == 4)).head? = some 14)
    else decide (k = 6) && decide (((a :: r).takeWhile (· == 6)).length % 2 = 1)) := rfl
/-- The first loop: what stands ahead of all Extends. -/
def past (r : List Nat) : Option Nat := (r.dropWhile (· == 4)).head?
theorem past_nil : past [] = none := rfl
theorem past_four (r : List Nat) : past (4 :: r) = past r := by unfold past; rw [List.dropWhile_cons_of_pos (by simp)]
theorem past_stop (k : Nat) (r : List Nat) (h : k ≠ 4) : past (k :: r) = some k := by unfold past; rw [List.dropWhile_cons_of_neg (by simpa using h)]; rfl
/-- The second loop: how many Regionals come last. -/
def regs (r : List Nat) : Nat := (r.takeWhile (· == 6)).length
theorem regs_cons (r : List Nat) : regs (6 :: r) = regs r + 1 := by unfold regs; rw [List.takeWhile_cons_of_pos (by simp)]; rfl
theorem regs_stop (k : Nat) (r : List Nat) (h : k ≠ 6) : regs (k :: r) = 0 := by unfold regs; rw [List.takeWhile_cons_of_neg (by simpa using h)]; rfl
theorem regs_le (r : List Nat) : regs r ≤ r.length := by
  unfold regs
  exact (List.takeWhile_sublist _).length_le

set_option maxRecDepth 100000 in
set_option maxHeartbeats 4000000 in
theorem joined_any (v : Value) (xs : List Int) (c : Int) (w : World) (hv : Lst w v xs) (hx : xs.length ≤ 1073741824) :
    Calls Tryz.prog 126 #[v, .int .i64 c] w fun e w' => e = .returned (.bool (refR (rc xs) (cls c))) ∧ Q w w' := by
  obtain ⟨ad, cp, rfl⟩ := hv.shape
  obtain ⟨n, hn⟩ : ∃ n, n = xs.length := ⟨_, rfl⟩
  rw [← hn] at hv hx ⊢
  cases n with
  | zero =>
    have h0 : xs = [] := List.eq_nil_of_length_eq_zero hn.symm
    subst h0
    clear hn
    go_enter Tryz.func126, Tryz.ntmps126
    go_wp2_with fail
    go_ret
    exact ⟨rfl, Q.refl _⟩
  | succ n =>
    obtain ⟨g, off, cap, hvv, hg, h1, h2, hcell⟩ := hv.form hn.symm
    cases hvv
    have c1 := hcell n (by omega)
    have hrl := rc_last xs n hn.symm
    have hcast : (((n + 1 : Nat) : Int) - 1) = n := by omega
    have HN := Lib.hid hn
    have HCell := Lib.hid hcell
    obtain ⟨x, hxx⟩ : ∃ x, x = xs.getD n 0 := ⟨_, rfl⟩
    rw [← hxx] at c1 hrl
    have hof1 := fun w => Cr.of_any x w
    have hof2 := fun w => Cr.of_any c w
    obtain ⟨a, ha⟩ : ∃ a, a = cls x := ⟨_, rfl⟩
    obtain ⟨k, hk⟩ : ∃ k, k = cls c := ⟨_, rfl⟩
    rw [← ha] at hof1 hrl
    rw [← hk] at hof2 ⊢
    rw [hrl]
    have HRL := Lib.hid hrl
    have HX := Lib.hid hxx
    have HO1 := Lib.hid hof1
    have HO2 := Lib.hid hof2
    clear hn hcell hrl hxx ha hk hof1 hof2
    have hends := fun w => ends_any (a : Int) w
    have hendk := fun w => ends_any (k : Int) w
    have hhan := fun w => hangul_any (a : Int) (k : Int) w
    generalize hB : refR (a :: rc (xs.take n)) (k : Int) = B
    have hB' := hB
    rw [refR_cons] at hB'
    by_cases c1' : a = 1 ∧ k = 2
    · obtain ⟨rfl, rfl⟩ := c1'
      rw [if_pos ⟨rfl, rfl⟩] at hB'
      subst hB'
      clear hB hends hendk hhan
      go_enter Tryz.func126, Tryz.ntmps126
      go_wp2_with fail
      refine (HO1.out _).mono ?_
      rintro e w1 ⟨rfl, hq1⟩
      go_wp2_with fail
      refine (HO2.out _).mono ?_
      rintro e w2 ⟨rfl, hq2⟩
      go_wp2_with fail
      go_ret
      exact ⟨rfl, hq1.trans hq2⟩
    · rw [if_neg (by omega)] at hB'
      by_cases c2 : alB (a : Int) = true ∨ alB (k : Int) = true
      · rw [if_pos c2] at hB'
        subst hB'
        clear hB hhan
        by_cases c3 : alB (a : Int) = true
        · rw [c3] at hends
          have HE := Lib.hid hends
          clear hends hendk c2 c3
          by_cases c4 : a = 1
          · subst c4
            have e2 : ((k : Int) == 2) = false := by rw [beq_eq_false_iff_ne]; omega
            clear c1'
            go_enter Tryz.func126, Tryz.ntmps126
            go_wp2_with fail
            refine (HO1.out _).mono ?_
            rintro e w1 ⟨rfl, hq1⟩
            go_wp2_with fail
            refine (HO2.out _).mono ?_
            rintro e w2 ⟨rfl, hq2⟩
            go_wp2_with (go_at_call 150; refine (HE.out _).mono ?_; rintro e w' ⟨rfl, rfl⟩)
            go_ret
            exact ⟨rfl, hq1.trans hq2⟩
          · have e1 : ((a : Int) == 1) = false := by rw [beq_eq_false_iff_ne]; omega
            clear c1' c4
            go_enter Tryz.func126, Tryz.ntmps126
            go_wp2_with fail
            refine (HO1.out _).mono ?_
            rintro e w1 ⟨rfl, hq1⟩
            go_wp2_with fail
            refine (HO2.out _).mono ?_
            rintro e w2 ⟨rfl, hq2⟩
            go_wp2_with (go_at_call 150; refine (HE.out _).mono ?_; rintro e w' ⟨rfl, rfl⟩)
            go_ret
            exact ⟨rfl, hq1.trans hq2⟩
        · have c5 : alB (k : Int) = true := c2.resolve_left c3
          have c3 : alB (a : Int) = false := by simpa using c3
          rw [c3] at hends
          rw [c5] at hendk
          have e1 : ((a : Int) == 1) = false := by
            rw [beq_eq_false_iff_ne]
            intro h; rw [h] at c3; revert c3; decide
          have HE := Lib.hid hends
          have HK := Lib.hid hendk
          clear hends hendk c2 c3 c5 c1'
          go_enter Tryz.func126, Tryz.ntmps126
          go_wp2_with fail
          refine (HO1.out _).mono ?_
          rintro e w1 ⟨rfl, hq1⟩
          go_wp2_with fail
          refine (HO2.out _).mono ?_
          rintro e w2 ⟨rfl, hq2⟩
          go_wp2_with fail
          refine (HE.out _).mono ?_
          rintro e w' ⟨rfl, rfl⟩
          go_wp2_with fail
          refine (HK.out _).mono ?_
          rintro e w' ⟨rfl, rfl⟩
          go_wp2_with fail
          go_ret
          exact ⟨rfl, hq1.trans hq2⟩
      · rw [if_neg c2] at hB'
        have c3 : alB (a : Int) = false := by
          cases h : alB (a : Int)
          · rfl
          · exact absurd (.inl h) c2
        have c4 : alB (k : Int) = false := by
          cases h : alB (k : Int)
          · rfl
          · exact absurd (.inr h) c2
        rw [c3] at hends
        rw [c4] at hendk
        have e1 : ((a : Int) == 1) = false := by
          rw [beq_eq_false_iff_ne]
          intro h; rw [h] at c3; revert c3; decide
        have HE := Lib.hid hends
        have HK := Lib.hid hendk
        clear hends hendk c2 c3 c4 c1'
        cases hs : sylB (a : Int) (k : Int)
        · rw [hs] at hhan hB'
          have HH := Lib.hid hhan
          clear hhan hs
          by_cases d : (k : Int) = 4 ∨ (k : Int) = 5 ∨ (k : Int) = 8 ∨ a = 7
          · rw [if_pos (.inr d)] at hB'
            subst hB'
            clear hB
            have d' : k = 4 ∨ k = 5 ∨ k = 8 ∨ (a = 7 ∧ ((k : Int) == 4) = false ∧ ((k : Int) == 5) = false ∧ ((k : Int) == 8) = false) := by
              by_cases k4 : k = 4
              · exact .inl k4
              by_cases k5 : k = 5
              · exact .inr (.inl k5)
              by_cases k8 : k = 8
              · exact .inr (.inr (.inl k8))
              refine .inr (.inr (.inr ⟨by omega, ?_, ?_, ?_⟩)) <;> rw [beq_eq_false_iff_ne] <;> omega
            clear d
            rcases d' with rfl | rfl | rfl | ⟨rfl, f4, f5, f8⟩
            all_goals
              go_enter Tryz.func126, Tryz.ntmps126
              go_wp2_with fail
              refine (HO1.out _).mono ?_
              rintro e w1 ⟨rfl, hq1⟩
              go_wp2_with fail
              refine (HO2.out _).mono ?_
              rintro e w2 ⟨rfl, hq2⟩
              go_wp2_with fail
              refine (HE.out _).mono ?_
              rintro e w' ⟨rfl, rfl⟩
              go_wp2_with fail
              refine (HK.out _).mono ?_
              rintro e w' ⟨rfl, rfl⟩
              go_wp2_with fail
              refine (HH.out _).mono ?_
              rintro e w' ⟨rfl, rfl⟩
              go_wp2_with fail
              go_ret
              exact ⟨rfl, hq1.trans hq2⟩
          · rw [if_neg (by rintro (h | h); exact absurd h (by simp); exact d h)] at hB'
            have f4 : ((k : Int) == 4) = false := by rw [beq_eq_false_iff_ne]; omega
            have f5 : ((k : Int) == 5) = false := by rw [beq_eq_false_iff_ne]; omega
            have f8 : ((k : Int) == 8) = false := by rw [beq_eq_false_iff_ne]; omega
            have f7 : ((a : Int) == 7) = false := by rw [beq_eq_false_iff_ne]; omega
            clear d hB
            by_cases e5 : a = 5 ∧ k = 14
            · obtain ⟨rfl, rfl⟩ := e5
              rw [if_pos ⟨rfl, rfl⟩] at hB'
              have hc2 : (((n + 1 : Nat) : Int) - 2) = (n : Int) - 1 := by omega
              have hB2 : decide (past (rc (xs.take n)) = some 14) = B := hB'
              have HB := Lib.hid hB2
              clear hB' hB2 f4 f5 f8 f7 e1
              go_enter Tryz.func126, Tryz.ntmps126
              go_wp2_with fail
              refine (HO1.out _).mono ?_
              rintro e w1 ⟨rfl, hq1⟩
              go_wp2_with fail
              refine (HO2.out _).mono ?_
              rintro e w2 ⟨rfl, hq2⟩
              go_wp2_with fail
              refine (HE.out _).mono ?_
              rintro e w' ⟨rfl, rfl⟩
              go_wp2_with fail
              refine (HK.out _).mono ?_
              rintro e w' ⟨rfl, rfl⟩
              go_wp2_with fail
              refine (HH.out _).mono ?_
              rintro e w' ⟨rfl, rfl⟩
              have hq12 := hq1.trans hq2
              go_wp2_with fail
              go_loopw [7] (fun v wr => ∃ i : Int, v = .int .i64 i ∧ -1 ≤ i ∧ i < n ∧ Q w wr ∧ past (rc (xs.take (i + 1).toNat)) = past (rc (xs.take n))) (fun v _ => (intOf v + 1).toNat)
              case atStart => exact ⟨(n : Int) - 1, by rw [show (n : Int) + 1 - 2 = (n : Int) - 1 from by omega], by omega, by omega, hq12, by rw [show ((n : Int) - 1 + 1).toNat = n from by omega]⟩
              case round =>
                obtain ⟨i, rfl, hi, hin, hq, hp⟩ := hrel
                have HP := Lib.hid hp
                clear hp
                by_cases hm : i = -1
                · subst hm
                  have hF : B = false := by
                    rw [← HB.out, ← HP.out]
                    simp [rc, past_nil]
                  have HF := Lib.hid hF
                  clear hF
                  go_wp2_with fail
                  go_ret
                  rw [HF.out]
                  exact ⟨rfl, hq⟩
                · obtain ⟨j, rfl⟩ : ∃ j : Nat, i = (j : Int) := ⟨i.toNat, by omega⟩
                  have hj0 : (0 : Int) ≤ (j : Int) := by omega
                  have hjn : j < n := by omega
                  have d1 : wr.cell? ⟨g, off + j, none⟩ = some (.int .i64 (xs.getD j 0)) := (World.cell?_of_block (w := w) (hq.block hg)).trans (HCell.out j (by omega))
                  have hrt := rc_take xs j (by rw [← HN.out]; omega)
                  have hpp := HP.out
                  rw [show ((j : Int) + 1).toNat = j + 1 from by omega, hrt] at hpp
                  obtain ⟨y, hy⟩ : ∃ y, y = xs.getD j 0 := ⟨_, rfl⟩
                  rw [← hy] at d1 hpp
                  obtain ⟨q, hqq⟩ : ∃ q, q = cls y := ⟨_, rfl⟩
                  have hofy := fun w => Cr.of_any y w
                  rw [← hqq] at hofy hpp
                  have HOY := Lib.hid hofy
                  have HPP := Lib.hid hpp
                  clear hofy hpp hqq hy hrt hm
                  by_cases h4 : q = 4
                  · subst h4
                    go_wp2_with fail
                    refine (HOY.out _).mono ?_
                    rintro e w3 ⟨rfl, hq3⟩
                    go_wp2_with fail
                    go_roundw
                    case rel => exact ⟨(j : Int) - 1, rfl, by omega, by omega, hq.trans hq3, by rw [show ((j : Int) - 1 + 1).toNat = j from by omega, ← HPP.out, past_four]⟩
                    case measure => simp [intOf]
                  · have g4 : ((q : Int) == 4) = false := by rw [beq_eq_false_iff_ne]; omega
                    have hF : B = ((q : Int) == 14) := by
                      rw [← HB.out, ← HPP.out, past_stop _ _ h4, Bool.eq_iff_iff]
                      simp; omega
                    have HF := Lib.hid hF
                    clear hF h4
                    go_wp2_with fail
                    refine (HOY.out _).mono ?_
                    rintro e w3 ⟨rfl, hq3⟩
                    have d3 := (World.cell?_of_block (w := wr) (a := ⟨g, off + j, none⟩) (hq3.block (Nat.lt_of_lt_of_le hg hq.le))).trans d1
                    go_wp2_with fail
                    refine (HOY.out _).mono ?_
                    rintro e w4 ⟨rfl, hq4⟩
                    go_wp2_with fail
                    go_ret
                    rw [HF.out]
                    exact ⟨rfl, (hq.trans hq3).trans hq4⟩
            · rw [if_neg (by omega)] at hB'
              have hB2 : (decide ((k : Int) = 6) && decide (regs (a :: rc (xs.take n)) % 2 = 1)) = B := hB'
              rw [← HRL.out] at hB2
              have HB := Lib.hid hB2
              have hrlen : regs (rc xs) ≤ n + 1 := by
                have := regs_le (rc xs)
                unfold rc at this ⊢
                rw [List.length_reverse, List.length_map, ← HN.out] at this
                exact this
              have he5 : (((a : Int) == 5) = false) ∨ (a = 5 ∧ ((k : Int) == 14) = false) := by
                by_cases h : a = 5
                · exact .inr ⟨h, by rw [beq_eq_false_iff_ne]; omega⟩
                · exact .inl (by rw [beq_eq_false_iff_ne]; omega)
              have hk6 : (((k : Int) == 6) = true ∧ Hid (B = decide (regs (rc xs) % 2 = 1))) ∨ (((k : Int) == 6) = false ∧ Hid (B = false)) := by
                rw [← hB2]
                by_cases h : k = 6
                · refine .inl ⟨by rw [beq_iff_eq]; omega, Lib.hid ?_⟩
                  have : decide ((k : Int) = 6) = true := decide_eq_true (by omega)
                  rw [this]; rfl
                · refine .inr ⟨by rw [beq_eq_false_iff_ne]; omega, Lib.hid ?_⟩
                  have : decide ((k : Int) = 6) = false := decide_eq_false (by omega)
                  rw [this]; rfl
              have hT : ∀ m' : Nat, regs (rc xs) = m' → decide (regs (rc xs) % 2 = 1) = ((m' : Int) % 2 == 1) := by
                intro m' h
                rw [h, Bool.eq_iff_iff]; simp; omega
              have HT := Lib.hid hT
              clear hT
              clear hB' hB2 e5
              rcases he5 with f5' | ⟨rfl, f14⟩
              all_goals
                rcases hk6 with ⟨f6, HF⟩ | ⟨f6, HF⟩
              all_goals
                go_enter Tryz.func126, Tryz.ntmps126
                go_wp2_with fail
                refine (HO1.out _).mono ?_
                rintro e w1 ⟨rfl, hq1⟩
                go_wp2_with fail
                refine (HO2.out _).mono ?_
                rintro e w2 ⟨rfl, hq2⟩
                go_wp2_with fail
                refine (HE.out _).mono ?_
                rintro e w' ⟨rfl, rfl⟩
                go_wp2_with fail
                refine (HK.out _).mono ?_
                rintro e w' ⟨rfl, rfl⟩
                go_wp2_with fail
                refine (HH.out _).mono ?_
                rintro e w' ⟨rfl, rfl⟩
                have hq12 := hq1.trans hq2
                go_wp2_with fail
                go_loopw [8, 9] (fun u v wr => ∃ (i : Int) (m : Nat), u = .int .i64 m ∧ v = .int .i64 i ∧ -1 ≤ i ∧ i ≤ n ∧ Q w wr ∧ m + regs (rc (xs.take (i + 1).toNat)) = regs (rc xs) ∧ m ≤ n + 1) (fun _ v _ => (intOf v + 1).toNat)
                case atStart => exact ⟨(n : Int), 0, rfl, by first | rfl | (congr 1; omega), by omega, by omega, hq12, by rw [show ((n : Int) + 1).toNat = n + 1 from by omega, List.take_of_length_le (by rw [← HN.out]; omega)]; omega, by omega⟩
                case round =>
                  obtain ⟨i, m, rfl, rfl, hi, hin, hq, hp, hmn⟩ := hrel
                  have HP := Lib.hid hp
                  clear hp
                  by_cases hm : i = -1
                  · subst hm
                    have HR := Lib.hid (show regs (rc xs) = m by rw [← HP.out]; simp [rc, regs])
                    go_wp2_with fail
                    go_ret
                    first | exact ⟨retB (by rw [HF.out]; exact (HT.out m HR.out).symm), hq⟩ | exact ⟨retB HF.out.symm, hq⟩
                  · obtain ⟨j, rfl⟩ : ∃ j : Nat, i = (j : Int) := ⟨i.toNat, by omega⟩
                    have hj0 : (0 : Int) ≤ (j : Int) := by omega
                    have hjn : j < n + 1 := by omega
                    have d1 : wr.cell? ⟨g, off + j, none⟩ = some (.int .i64 (xs.getD j 0)) := (World.cell?_of_block (w := w) (hq.block hg)).trans (HCell.out j hjn)
                    have hrt := rc_take xs j (by rw [← HN.out]; exact hjn)
                    have hpp := HP.out
                    rw [show ((j : Int) + 1).toNat = j + 1 from by omega, hrt] at hpp
                    obtain ⟨y, hy⟩ : ∃ y, y = xs.getD j 0 := ⟨_, rfl⟩
                    rw [← hy] at d1 hpp
                    obtain ⟨q, hqq⟩ : ∃ q, q = cls y := ⟨_, rfl⟩
                    have hofy := fun w => Cr.of_any y w
                    rw [← hqq] at hofy hpp
                    have HOY := Lib.hid hofy
                    have HPP := Lib.hid hpp
                    clear hofy hpp hqq hy hrt hm
                    by_cases h6 : q = 6
                    · subst h6
                      have hpn := HPP.out
                      rw [regs_cons] at hpn
                      have hm1 : m + 1 ≤ n + 1 := by omega
                      have HPN := Lib.hid hpn
                      clear hpn
                      go_wp2_with fail
                      refine (HOY.out _).mono ?_
                      rintro e w3 ⟨rfl, hq3⟩
                      go_wp2_with fail
                      go_roundw
                      case rel => exact ⟨(j : Int) - 1, m + 1, by go_num, rfl, by omega, by omega, hq.trans hq3, by rw [show ((j : Int) - 1 + 1).toNat = j from by omega]; have := HPN.out; omega, hm1⟩
                      case measure => simp [intOf]
                    · have g6 : ((q : Int) == 6) = false := by rw [beq_eq_false_iff_ne]; omega
                      have g6' : ((q : Int) != 6) = true := by rw [bne_iff_ne]; omega
                      have HR := Lib.hid (show regs (rc xs) = m by rw [← HPP.out, regs_stop _ _ h6]; rfl)
                      clear h6
                      go_wp2_with fail
                      refine (HOY.out _).mono ?_
                      rintro e w3 ⟨rfl, hq3⟩
                      go_wp2_with fail
                      go_ret
                      first | exact ⟨retB (by rw [HF.out]; exact (HT.out m HR.out).symm), hq.trans hq3⟩ | exact ⟨retB HF.out.symm, hq.trans hq3⟩
        · rw [hs] at hhan hB'
          rw [if_pos (.inl rfl)] at hB'
          subst hB'
          have HH := Lib.hid hhan
          clear hhan hs hB
          go_enter Tryz.func126, Tryz.ntmps126
          go_wp2_with fail
          refine (HO1.out _).mono ?_
          rintro e w1 ⟨rfl, hq1⟩
          go_wp2_with fail
          refine (HO2.out _).mono ?_
          rintro e w2 ⟨rfl, hq2⟩
          go_wp2_with fail
          refine (HE.out _).mono ?_
          rintro e w' ⟨rfl, rfl⟩
          go_wp2_with fail
          refine (HK.out _).mono ?_
          rintro e w' ⟨rfl, rfl⟩
          go_wp2_with fail
          refine (HH.out _).mono ?_
          rintro e w' ⟨rfl, rfl⟩
          go_wp2_with fail
          go_ret
          exact ⟨rfl, hq1.trans hq2⟩

end Gr
end Go.Proofs.YtglljkbpdbnhaaaGreatDoor

set_option linter.unusedVariables false
set_option linter.unusedSimpArgs false
namespace Go.Proofs.YtglljkbpdbnhaaaGreatDoor
open Go.RowKit Um Cm Gm
attribute [local go_sem ↓] Go.wp_at_zero Go.wp_at_succ
namespace Gr

theorem refR_jn (xs : List Int) (k : Int) : refR (rc xs) k = jn (stL xs) k := by rw [stL_rev, jn_ref]; rfl
theorem allL_take (l : List UInt8) (j : Nat) : stL ((allL l).take j) = stMs ((marks l).take j) := by unfold allL stMs; rw [List.map_take]
theorem allL_get (l : List UInt8) (j : Nat) (h : j < (marks l).length) : (allL l).getD j 0 = ((marks l)[j]).1 := by
  unfold allL
  rw [List.getD_eq_getElem?_getD, List.getElem?_map, List.getElem?_eq_getElem h]; rfl
theorem startsF_get (p : Nat) (ms : List (Int × Nat × Bool)) (j : Nat) (h : j ≤ ms.length) : (startsF p ms).getD j 0 = ((p + width (ms.take j) : Nat) : Int) := by
  induction ms generalizing p j with
  | nil =>
    have : j = 0 := by simpa using h
    subst this
    simp [startsF, width]
  | cons m ms ih =>
    cases j with
    | zero => simp [startsF, width]
    | succ j =>
      have := ih (p + m.2.1) j (by simpa using h)
      simp only [startsF, List.getD_cons_succ, this, List.take_succ_cons]
      simp only [width, List.map_cons, List.sum_cons]
      congr 1; omega
theorem begF_take (ms : List (Int × Nat × Bool)) (j : Nat) (h : j < ms.length) :
    begF st0 0 (ms.take (j + 1)) = begF st0 0 (ms.take j) ++ (if jn (stMs (ms.take j)) (cls (ms[j]).1) = true then [] else [(width (ms.take j) : Int)]) := by
  rw [List.take_succ_eq_append_getElem h, begF_snoc]

set_option maxRecDepth 100000 in
set_option maxHeartbeats 2000000 in
theorem starts_any (s : ByteArray) (w : World) (hs : s.size ≤ 1073741824) :
    Calls Tryz.prog 94 #[.string s] w fun e w' => ∃ v, e = .returned v ∧ Own w' w.heap.size v (stL1 s.data.toList) ∧ Q w w' := by
  have hml := marks_length s.data.toList
  rw [size_list] at hml
  have hfin : stL1 s.data.toList = begF st0 0 (marks s.data.toList) ++ [(s.size : Int)] := by unfold stL1 begL; rw [size_list]
  have hal : (allL s.data.toList).length = (marks s.data.toList).length := by simp [allL]
  have hsl : (startsL s.data.toList).length = (marks s.data.toList).length + 1 := by unfold startsL; exact startsF_length _ _
  have hat := allL_take s.data.toList
  have hag := allL_get s.data.toList
  have hsg := startsF_get 0 (marks s.data.toList)
  have hall := fun w => Ur.all_any s w hs
  obtain ⟨A, hA⟩ : ∃ A, A = allL s.data.toList := ⟨_, rfl⟩
  obtain ⟨S, hS⟩ : ∃ S, S = startsL s.data.toList := ⟨_, rfl⟩
  have hS' : startsF 0 (marks s.data.toList) = S := by rw [hS]; rfl
  rw [← hA] at hal hat hag hall
  rw [← hS] at hsl hall
  rw [hS'] at hsg
  generalize marks s.data.toList = ms at *
  rw [hfin]
  generalize okL s.data.toList = ok at *
  obtain ⟨m, hm⟩ : ∃ m, m = ms.length := ⟨_, rfl⟩
  rw [← hm] at hal hsl hml
  have HALL := Lib.hid hall
  have HAL := Lib.hid hal
  have HSL := Lib.hid hsl
  have HAT := Lib.hid hat
  have HAG := Lib.hid hag
  have HSG := Lib.hid hsg
  have HM := Lib.hid hm
  clear hall hal hsl hat hag hsg hm hA hS hS' hfin
  go_enter Tryz.func94, Tryz.ntmps94
  go_wp2_with fail
  refine (HALL.out _).mono ?_
  rintro e w1 ⟨v, u, rfl, hv, hu, hap, hq1⟩
  have hs1 := hq1.le
  by_cases h0 : m = 0
  · subst h0
    have hms : ms = [] := List.eq_nil_of_length_eq_zero HM.out.symm
    subst hms
    obtain ⟨a1, k1, rfl⟩ := hv.shape
    obtain ⟨a2, k2, rfl⟩ := hu.shape
    rw [HAL.out, HSL.out]
    have hnil : Own w1 w1.heap.size (.slice none 0 0) [] := Own.nil _ _
    go_wp2_with fail
    refine wp_loop_rounds 1 ?_
    rw [rounds_succ]
    go_wp2_with (at_builtin; refine push_int hnil rfl _ _ rfl s.size (by rfl) (by rfl) (by simp) (Nat.le_refl _) ?_; intro v' w4 hown4 hg4 hat4)
    go_ret
    exact ⟨_, rfl, hown4.mono hs1, hq1.grown hg4 (fun k h => by cases h)⟩
  · obtain ⟨g, cap, rfl, hgB, hgl, hcp, hcm, hcell⟩ := hv.form1 (by intro h; have := HAL.out; rw [h] at this; simp at this; omega)
    obtain ⟨gs, caps, rfl, hgsB, hgsl, hcps, hcms, hcells⟩ := hu.form1 (by intro h; have := HSL.out; rw [h] at this; simp at this)
    have hlv := hv.lst
    rw [HAL.out] at hcp hcell hlv ⊢
    rw [HSL.out] at hcps hcells ⊢
    have HC := Lib.hid hcell
    have HCS := Lib.hid hcells
    clear hcell hcells hv hu hap
    unfold maxLen at hcm hcms
    go_wp2_with fail
    go_loopw [6, 7] (fun o i wr => ∃ j : Nat, i = .int .i64 j ∧ j ≤ m ∧ Own wr w1.heap.size o (begF st0 0 (ms.take j)) ∧ Q w1 wr) (fun _ i _ => m - (intOf i).toNat)
    case atStart => exact ⟨0, rfl, by omega, Own.nil _ _, Q.refl _⟩
    case round =>
      obtain ⟨j, rfl, hj, hown, hq⟩ := hrel
      have hqs := hq.le
      have hbl : (begF st0 0 (ms.take j)).length < 1099511627776 := by
        have := begF_length st0 0 (ms.take j)
        have h2 : (ms.take j).length ≤ j := List.length_take_le _ _
        omega
      by_cases hlt : j < m
      · have hjm : j < ms.length := by rw [← HM.out]; exact hlt
        have hc := HAG.out j hjm
        have hz := HSG.out j (by omega)
        rw [Nat.zero_add] at hz
        have c1 := (World.cell?_of_block (w := w1) (a := ⟨g, j, none⟩) (hq.block hgl)).trans (HC.out j hlt)
        have c2 := (World.cell?_of_block (w := w1) (a := ⟨gs, j, none⟩) (hq.block hgsl)).trans (HCS.out j (by omega))
        rw [hc] at c1
        rw [hz] at c2
        have hbt := begF_take ms j hjm
        have hlt' := (hlv.q hq).take j (by rw [HAL.out]; omega)
        have hjc := fun u hu => joined_any (.slice (some ⟨g, 0, none⟩) j cap) (A.take j) (ms[j]).1 u hu (by rw [List.length_take]; omega : ((A.take j).length ≤ 1073741824))
        rw [refR_jn, HAT.out j] at hjc
        generalize jn (stMs (ms.take j)) (cls (ms[j]).1) = b at hbt hjc
        generalize (ms[j]).1 = c at c1 hjc
        generalize width (ms.take j) = p at c2 hbt
        have hjS : ∀ u, (u.cell? ⟨g, j, none⟩ = some (.int .i64 c) ∧ Q wr u) → Calls Tryz.prog 126 #[.slice (some ⟨g, 0, none⟩) j cap, .int .i64 c] u fun e u' => e = .returned (.bool b) ∧ (u'.cell? ⟨g, j, none⟩ = some (.int .i64 c) ∧ Q wr u') := by
          rintro u ⟨hcu, hqu⟩
          refine (hjc u (hlt'.q hqu)).mono ?_
          rintro e u' ⟨rfl, hqu'⟩
          exact ⟨rfl, (World.cell?_of_block (w := u) (a := ⟨g, j, none⟩) (hqu'.block (Nat.lt_of_lt_of_le hgl (Nat.le_trans hqs hqu.le)))).trans hcu, hqu.trans hqu'⟩
        have hst : wr.drew.cell? ⟨g, j, none⟩ = some (.int .i64 c) ∧ Q wr wr.drew := ⟨c1, (Q.refl _).drew⟩
        have i0 : (0 : Int) ≤ (j : Int) := by omega
        have i1 : (j : Int) < (m : Int) := by omega
        have i2 : (j : Int) ≤ (cap : Int) := by omega
        have HJS := Lib.hid hjS
        have HBT := Lib.hid hbt
        have HST := Lib.hid hst
        clear hjc hlt' hjS hbt hc hz hst
        go_wp2_with fail
        go_region_held3 (fun u => u.cell? ⟨g, j, none⟩ = some (.int .i64 c) ∧ Q wr u) (first | exact HST.out | assumption) ((go_at_call 126; refine (HJS.out _ ?_).mono ?_; (first | exact HST.out | assumption); rintro e u ⟨rfl, hS⟩))
        all_goals
          have hqu := (‹_ ∧ Q wr _› : _ ∧ Q wr _).2
          have hown2 := hown.q hqu
          have hq2 := hq.trans hqu
          have hqs2 := hq2.le
          have c2' := (World.cell?_of_block (w := wr) (a := ⟨gs, j, none⟩) (hqu.block (Nat.lt_of_lt_of_le hgsl hqs))).trans c2
          cases b
          · go_wp2_with (at_builtin; refine push_int hown2 rfl _ _ rfl _ (by rfl) (by rfl) hbl hqs2 ?_; intro v' w4 hown4 hg4 hat4)
            go_roundw
            case rel => exact ⟨j + 1, by go_num, by omega, by rw [HBT.out]; exact hown4, hq2.grown hg4 (fun k h => (hown2.lt k h).1)⟩
            case measure => simp [intOf]; omega
          · go_wp2_with fail
            go_roundw
            case rel => exact ⟨j + 1, by go_num, by omega, by rw [HBT.out, if_pos rfl, List.append_nil]; exact hown2, hq2⟩
            case measure => simp [intOf]; omega
      · have he : ms.take j = ms := List.take_of_length_le (by rw [← HM.out]; omega)
        rw [he] at hown hbl
        clear he
        go_wp2_with (at_builtin; refine push_int hown rfl _ _ rfl s.size (by rfl) (by rfl) hbl hqs ?_; intro v' w4 hown4 hg4 hat4)
        go_ret
        exact ⟨_, rfl, hown4.mono hs1, (hq1.trans hq).grown hg4 (fun k h => Nat.le_trans hs1 (hown.lt k h).1)⟩

/-- One element more, at a step of a region that draws its order. -/
theorem gpush_step {α : Type} {T ST : TypeId} {z : Value} {bytes : Nat} (he : Elem T ST z bytes) {en : α → Value} {u : World} {B : Nat} {v : Value} {zs : List α} (hown : GOwn T en u B v zs) {ops : Array Oper} {o : Oper} {a : Act} {K : Act → World → Prop} {R : Exit → Act → World → Prop} {E : Prop} (hgd : o.guard = none) (s x : Operand)
    (ho : o.op = .call { callee := .builtin .append, args := #[s, x], argTypes := #[ST, ST] })
    (y : α) (h1c : (en y).oneCell' = true) (hs : a.eval s = v) (hx : a.eval x = .slice (some ⟨u.heap.size, 0, none⟩) 1 1) (hlen : zs.length < 1099511627776) (hB : B ≤ u.heap.size)
    (h : ∀ g c w', GOwn T en w' B (.slice (some ⟨g, 0, none⟩) (zs.length + 1) c) (zs ++ [y]) → u.grownBy w' v.ownBlock → K (a.put o.dst (.slice (some ⟨g, 0, none⟩) (zs.length + 1) c)) w') :
    if Region.wanted o (yielded ops a.tmps) = true then Oper.wp Tryz.prog o a (u.alloc (.cells #[en y] T)) K R else E := by
  obtain ⟨i0, hi, hz0, hz1, hz2⟩ := info_parts he.info
  refine step_append_lies (w := u.alloc (.cells #[en y] T)) hgd s x ST ho B T i0 z 1 bytes he.under hi hz0 hz1 hz2 he.one (by decide) v zs.length _ hs (World.ownsRow.alloc hown _) ⟨u.heap.size, 0, none⟩ 1 1 [en y] hx rfl (cell_one_new _ _ _) ?_ (by decide) ?_ ?_ ?_ _ rfl ?_
  · intro c hcm; simp at hcm; subst hcm; exact h1c
  · unfold maxLen; omega
  · have h1 : (zs.length + 1) * bytes ≤ (zs.length + 1) * 64 := Nat.mul_le_mul_left _ he.small
    omega
  · simp; omega
  · intro g c w' hown' hg _ _
    refine h g c w' ?_ ((World.grownBy_alloc u _ _).trans hg)
    have e1 : (zs ++ [y]).length = zs.length + 1 := by simp
    unfold GOwn
    rw [e1, List.map_append]
    exact hown'

set_option maxRecDepth 100000 in
set_option maxHeartbeats 2000000 in
theorem split_any (s : ByteArray) (w : World) (hs : s.size ≤ 1073741824) :
    Calls Tryz.prog 47 #[.string s] w fun e w' => ∃ v, e = .returned v ∧ SOwn w' w.heap.size v (pcs s) ∧ Q w w' := by
  obtain ⟨n, hn⟩ : ∃ n, n = (begL s.data.toList).length := ⟨_, rfl⟩
  have hbl := begL_length s.data.toList
  rw [size_list, ← hn] at hbl
  have hl1 := stL1_length s.data.toList
  rw [← hn] at hl1
  have hpc : pcs s = (List.range n).map (pc s (stL1 s.data.toList)) := by unfold pcs; rw [hn]
  have hst := fun i (h : i < n) => stL1_step s.data.toList i (by rw [← hn]; exact h)
  have hgt := fun i (h : i < n + 1) => stL1_get s.data.toList i (by rw [hl1]; exact h)
  rw [size_list] at hgt
  have hcs := fun w => starts_any s w hs
  rw [hpc]
  obtain ⟨S, hS⟩ : ∃ S, S = stL1 s.data.toList := ⟨_, rfl⟩
  rw [← hS] at hl1 hst hgt hcs ⊢
  have HL := Lib.hid hl1
  have HST := Lib.hid hst
  have HG := Lib.hid hgt
  have HC := Lib.hid hcs
  clear hl1 hst hgt hcs hS hpc hn
  go_enter Tryz.func47, Tryz.ntmps47
  go_wp2_with fail
  refine (HC.out _).mono ?_
  rintro e w1 ⟨v, rfl, hv, hq1⟩
  obtain ⟨g, cap, rfl, hgB, hgl, hcp, hcm, hcell⟩ := hv.form1 (by intro h; have := HL.out; rw [h] at this; simp at this)
  rw [HL.out] at hcp hcell ⊢
  unfold maxLen at hcm
  have hs1 := hq1.le
  have HCell := Lib.hid hcell
  clear hcell
  go_wp2_with fail
  go_loopw [4, 5] (fun o i wr => ∃ k : Nat, i = .int .i64 ((k : Int) + 1) ∧ k ≤ n ∧ SOwn wr w1.heap.size o ((List.range k).map (pc s S)) ∧ Q w1 wr) (fun _ i _ => n + 1 - (intOf i).toNat)
  case atStart => exact ⟨0, rfl, by omega, GOwn.nil _ _ _ _, Q.refl _⟩
  case round =>
    obtain ⟨k, rfl, hk, hown, hq⟩ := hrel
    have hqs := hq.le
    by_cases hlt : k < n
    · have hst := HST.out k hlt
      have hg1 := HG.out k (by omega)
      have hg2' := HG.out (k + 1) (by omega)
      obtain ⟨a, ha⟩ : ∃ a : Nat, (a : Int) = S.getD k 0 := ⟨(S.getD k 0).toNat, by omega⟩
      obtain ⟨b, hb⟩ : ∃ b : Nat, (b : Int) = S.getD (k + 1) 0 := ⟨(S.getD (k + 1) 0).toNat, by omega⟩
      have hsa : ∀ u, Q w1 u → u.cell? ⟨g, k, none⟩ = some (.int .i64 a) ∧ u.cell? ⟨g, k + 1, none⟩ = some (.int .i64 b) := by
        intro u hu
        rw [ha, hb]
        exact ⟨(World.cell?_of_block (w := w1) (a := ⟨g, k, none⟩) (hu.block hgl)).trans (HCell.out k (by omega)), (World.cell?_of_block (w := w1) (a := ⟨g, k + 1, none⟩) (hu.block hgl)).trans (HCell.out (k + 1) (by omega))⟩
      rw [← ha, ← hb] at hst
      rw [← ha] at hg1
      rw [← hb] at hg2'
      have hab : (a : Int) ≤ (b : Int) := by omega
      have hbs : (b : Int) ≤ (s.size : Int) := by omega
      have ha0 : (0 : Int) ≤ (a : Int) := by omega
      have hpc : pc s S k = s.extract a b := by unfold pc; rw [← ha, ← hb]; rfl
      have HSN := Lib.hid (pcs_snoc s S k)
      have HPC := Lib.hid hpc
      have HSA := Lib.hid hsa
      have HQD := Lib.hid hq.drew
      have k0 : (0 : Int) ≤ (k : Int) := by omega
      have k1 : (k : Int) < (n : Int) + 1 := by omega
      have k2 : (k : Int) + 1 < (n : Int) + 1 := by omega
      have k3 : (0 : Int) ≤ (k : Int) + 1 := by omega
      have k4 : ((k : Int) + 1).toNat = k + 1 := by omega
      have wr1 : IntKind.i64.wrap ((k : Int) + 1 - 1) = (k : Int) := by rw [show (k : Int) + 1 - 1 = k from by omega]; exact IntWalk.i64_in _ (by omega)
      have wr2 : IntKind.i64.wrap (k : Int) = (k : Int) := IntWalk.i64_in _ (by omega)
      clear hpc ha hb hst hsa
      have hlen : ((List.range k).map (pc s S)).length < 1099511627776 := by rw [List.length_map, List.length_range]; omega
      have hod : SOwn wr.drew w1.heap.size _ _ := hown.q (Q.refl wr).drew
      go_wp2_with fail
      go_region_held3 (fun u => u.cell? ⟨g, k, none⟩ = some (.int .i64 a) ∧ u.cell? ⟨g, k + 1, none⟩ = some (.int .i64 b)) (first | exact HSA.out _ HQD.out | exact HSA.out _ (HQD.out.alloc _) | exact HSA.out _ (HQD.out.grown hg4 (fun j h => (hown.lt j h).1))) ((refine gpush_step elemS hod (by rfl) _ _ (by rfl) (s.extract a b) rfl (by rfl) (by rfl) hlen hqs ?_; intro g4 c4 w4 hown4 hg4))
      all_goals
        have hq4 := hq.drew.grown hg4 (fun j h => (hown.lt j h).1)
        go_wp2_with fail
        go_roundw
        case rel => exact ⟨k + 1, by go_num, by omega, by rw [List.length_map, List.length_range] at hown4; rw [HSN.out, HPC.out]; exact hown4, hq4⟩
        case measure => simp [intOf]; omega
    · have hke : k = n := by omega
      have HK := Lib.hid hke
      clear hke
      go_wp2_with fail
      go_ret
      exact ⟨_, rfl, by rw [← HK.out]; exact hown.mono hs1, hq1.trans hq⟩

end Gr
end Go.Proofs.YtglljkbpdbnhaaaGreatDoor
