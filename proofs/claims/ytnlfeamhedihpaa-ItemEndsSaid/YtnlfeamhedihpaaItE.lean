/- Whether a group ends, and how many do: the program's Ends and Groups, the document's own Ends; the document's example. -/
import Derived.Test.YtnlfeamhedihpaaRows
import Derived.Test.YtnlfeamhedihpaaInts
import Derived.Test.YtnlfeamhedihpaaItM
import Derived.Deep.Cut
import Derived.Deep.DeepCutAuto
import Derived.Deep.QuietTactic
import Derived.Deep.RegionWith
import Derived.BigQuiet
set_option linter.unusedVariables false
set_option linter.unusedSimpArgs false
namespace Go.Proofs.Ytnlfeamhedihpaa
open Go.RowKit
namespace It

set_option maxHeartbeats 1000000 in
theorem ends_any (l p s : Int) (w : World) (l0 : -9223372036854775808 ≤ l) (l1 : l ≤ 9223372036854775807) :
    Calls Try.prog 6 #[.int .i64 l, .int .i64 p, .int .i64 s] w fun e w' => e = .returned (.bool (Im.endB l p s)) ∧ w = w' := by
  by_cases h1 : p < 1
  · have HE := Lib.hid (show Im.endB l p s = false by unfold Im.endB; rw [show decide (1 ≤ p ∧ p ≤ l) = false from by simp; omega]; rfl)
    go_enter Try.func6, Try.ntmps6
    go_wp2_with fail
    go_ret
    rw [HE.out]
    exact ⟨rfl, rfl⟩
  · by_cases h2 : l < p
    · have HE := Lib.hid (show Im.endB l p s = false by unfold Im.endB; rw [show decide (1 ≤ p ∧ p ≤ l) = false from by simp; omega]; rfl)
      go_enter Try.func6, Try.ntmps6
      go_wp2_with fail
      go_ret
      rw [HE.out]
      exact ⟨rfl, rfl⟩
    · by_cases h3 : l = p
      · have HE := Lib.hid (show Im.endB l p s = true by unfold Im.endB; rw [show decide (1 ≤ p ∧ p ≤ l) = true from by simp; omega]; simp [h3])
        subst h3
        go_enter Try.func6, Try.ntmps6
        go_wp2_with fail
        go_ret
        rw [HE.out]
        exact ⟨rfl, rfl⟩
      · have h3b : (l == p) = false := by rw [beq_eq_false_iff_ne]; exact h3
        by_cases h4 : 0 < s
        · have HE := Lib.hid (show Im.endB l p s = ((l - p) % s == 0) by
            rw [Im.endB_far (by omega) (by omega) (by omega)]
            by_cases h : (l - p) % s = 0 <;> simp [h])
          go_enter Try.func6, Try.ntmps6
          go_wp2_with fail
          go_ret
          rw [HE.out]
          exact ⟨rfl, rfl⟩
        · have HE := Lib.hid (show Im.endB l p s = false by unfold Im.endB; simp [h3, h4])
          go_enter Try.func6, Try.ntmps6
          go_wp2_with fail
          go_ret
          rw [HE.out]
          exact ⟨rfl, rfl⟩

set_option maxHeartbeats 1000000 in
theorem groups_any (n p s : Int) (w : World) (n0 : -9223372036854775808 ≤ n) (n1 : n ≤ 9223372036854775807) (s1 : s ≤ 9223372036854775807) :
    Calls Try.prog 7 #[.int .i64 n, .int .i64 p, .int .i64 s] w fun e w' => e = .returned (.int .i64 (Im.grp n p s)) ∧ w = w' := by
  by_cases h1 : p < 1
  · have HE := Lib.hid (show Im.grp n p s = 0 by unfold Im.grp; rw [if_pos (.inl h1)])
    go_enter Try.func7, Try.ntmps7
    go_wp2_with fail
    go_ret
    rw [HE.out]
    exact ⟨rfl, rfl⟩
  · by_cases h2 : n ≤ p
    · have HE := Lib.hid (show Im.grp n p s = 0 by unfold Im.grp; rw [if_pos (.inr h2)])
      go_enter Try.func7, Try.ntmps7
      go_wp2_with fail
      go_ret
      rw [HE.out]
      exact ⟨rfl, rfl⟩
    · by_cases h3 : s < 1
      · have HE := Lib.hid (show Im.grp n p s = 1 by unfold Im.grp; rw [if_neg (by omega), if_pos h3])
        go_enter Try.func7, Try.ntmps7
        go_wp2_with fail
        go_ret
        rw [HE.out]
        exact ⟨rfl, rfl⟩
      · have hd0 : 0 ≤ (n - 1 - p) / s := Int.ediv_nonneg (by omega) (by omega)
        have hd1 : (n - 1 - p) / s ≤ n - 1 - p := Int.ediv_le_self _ (by omega)
        have HE := Lib.hid (show Im.grp n p s = 1 + (n - 1 - p).tdiv s by unfold Im.grp; rw [if_neg (by omega), if_neg h3, Int.tdiv_eq_ediv_of_nonneg (by omega)])
        rw [← Int.tdiv_eq_ediv_of_nonneg (by omega)] at hd0 hd1
        go_enter Try.func7, Try.ntmps7
        go_wp2_with fail
        go_ret
        rw [HE.out]
        exact ⟨rfl, rfl⟩

set_option maxHeartbeats 1000000 in
/-- The document's own. -/
theorem rends_any (l p s : Int) (w : World) (l0 : -1000000 ≤ l) (l1 : l ≤ 1000000) (p0 : p ≤ 1000000) (s0 : s ≤ 1000000) :
    Calls Try.prog 5 #[.int .i64 l, .int .i64 p, .int .i64 s] w fun e w' => e = .returned (.bool (Im.endB l p s)) ∧ w = w' := by
  by_cases h1 : l < 1
  · have HE := Lib.hid (Im.endB_low (p := p) (s := s) (show l ≤ 0 by omega))
    go_enter Try.func5, Try.ntmps5
    go_wp2_with fail
    go_ret
    rw [HE.out]
    exact ⟨rfl, rfl⟩
  · by_cases h2 : p < 1
    · have HE := Lib.hid (show Im.endB l p s = false by unfold Im.endB; rw [show decide (1 ≤ p ∧ p ≤ l) = false from by simp; omega]; rfl)
      go_enter Try.func5, Try.ntmps5
      go_wp2_with fail
      go_ret
      rw [HE.out]
      exact ⟨rfl, rfl⟩
    · have HL := Lib.hid (fun n => @Im.end_loop l p s n (show 1 ≤ p by omega))
      go_enter Try.func5, Try.ntmps5
      go_wp2_with fail
      go_loop [7] (fun u => ∃ n : Int, u = .int .i64 n ∧ p ≤ n ∧ n ≤ 2000000 ∧ (n = p ∨ (n < l + s ∧ 0 < s)) ∧ Hid (0 < s → (n - p) % s = 0)) (fun u => (l - intOf u).toNat)
      case atStart => exact ⟨p, rfl, by omega, by omega, .inl rfl, Lib.hid (fun _ => by simp)⟩
      case round =>
        obtain ⟨n, rfl, hn, hn2, hb, hd⟩ := hrel
        by_cases hlt : n < l
        · by_cases hs : 0 < s
          · have HD := Lib.hid (show 0 < s → (n + s - p) % s = 0 from fun h => by
              rw [show n + s - p = (n - p) + s from by omega, Int.add_emod_right]
              exact hd.out h)
            clear hd
            go_wp2_with fail
            exact ⟨⟨n + s, by go_num, by omega, by omega, .inr ⟨by omega, hs⟩, HD⟩, by simp [intOf]; omega⟩
          · have HE := Lib.hid (HL.out n hn hd.out (fun _ => by omega) (by omega) (.inr (by omega)))
            have hne : (n == l) = false := by rw [beq_eq_false_iff_ne]; omega
            have HF := Lib.hid (show decide (n = l) = false by simp; omega)
            clear hd
            go_wp2_with fail
            go_ret
            rw [HE.out, HF.out]
            exact ⟨rfl, rfl⟩
        · have HE := Lib.hid (HL.out n hn hd.out (fun _ => by omega) (by omega) (.inl (by omega)))
          clear hd
          by_cases hnl : n = l
          · have HF := Lib.hid (show decide (n = l) = true by simpa using hnl)
            have hne : (n == l) = true := by simpa using hnl
            go_wp2_with fail
            go_ret
            rw [HE.out, HF.out]
            exact ⟨by simp [hnl], rfl⟩
          · have HF := Lib.hid (show decide (n = l) = false by simpa using hnl)
            have hne : (n == l) = false := by rw [beq_eq_false_iff_ne]; exact hnl
            go_wp2_with fail
            go_ret
            rw [HE.out, HF.out]
            exact ⟨by simp [hnl], rfl⟩

theorem ex_g : Im.grp 7 3 2 = 2 ∧ Im.endB 3 3 2 = true ∧ Im.endB 5 3 2 = true ∧ Im.endB 4 3 2 = false := by decide
set_option maxHeartbeats 1000000 in
theorem lives_any (w : World) : Calls Try.prog 8 #[] w fun e w' => e = .returned (.bool true) ∧ w = w' := by
  have H1 := Lib.hid (fun u => groups_any 7 3 2 u (by omega) (by omega) (by omega))
  have H2 := Lib.hid (fun l u (a : -9223372036854775808 ≤ l) (b : l ≤ 9223372036854775807) => ends_any l 3 2 u a b)
  have HX := Lib.hid ex_g
  rw [HX.out.1] at H1
  go_enter Try.func8, Try.ntmps8
  go_wp2_with fail
  refine (H1.out _).mono ?_
  rintro e w1 ⟨rfl, rfl⟩
  go_wp2_with fail
  refine (H2.out 3 _ (by omega) (by omega)).mono ?_
  rw [HX.out.2.1]
  rintro e w1 ⟨rfl, rfl⟩
  go_wp2_with fail
  refine (H2.out 5 _ (by omega) (by omega)).mono ?_
  rw [HX.out.2.2.1]
  rintro e w1 ⟨rfl, rfl⟩
  go_wp2_with fail
  refine (H2.out 4 _ (by omega) (by omega)).mono ?_
  rw [HX.out.2.2.2]
  rintro e w1 ⟨rfl, rfl⟩
  go_wp2_with fail
  go_ret
  exact ⟨rfl, rfl⟩
end It
end Go.Proofs.Ytnlfeamhedihpaa
