/- The document's text of whatever a pattern's text is made of. Our own work. -/
import Derived.Deep.Cut
import Derived.Deep.DeepCutAuto
import Derived.Test.YtjloibgjnnknnaaDoorRows
import Derived.Test.YtjloibgjnnknnaaDoorInts
import Derived.Test.YtjloibgjnnknnaaDoorUtfM
import Derived.Test.YtjloibgjnnknnaaDoorUtfG
import Derived.Test.YtjloibgjnnknnaaDoorUtfR
import Derived.Test.YtjloibgjnnknnaaDoorBlk
import Derived.Test.YtjloibgjnnknnaaDoorPcs
import Derived.Test.YtjloibgjnnknnaaDoorPatM
import Derived.Test.YtjloibgjnnknnaaDoorPatN
import Derived.Test.YtjloibgjnnknnaaDoorPatO
import Derived.Test.YtjloibgjnnknnaaDoorTxM
import Derived.Deep.QuietTactic
import Derived.BigQuiet
import Derived.Deep.RegionHeld3
set_option linter.unusedVariables false
set_option linter.unusedSimpArgs false
namespace Go.Proofs.YtjloibgjnnknnaaDoor
open Go.RowKit
namespace Tx
open Pt Um Pr

theorem signs_sB (v : Value) (l : List Int) (w : World) (hv : Lst w v l) (hl : l.length ≤ maxLen) (hb : ∀ k, k < l.length → -9223372036854775808 ≤ l.getD k 0 ∧ l.getD k 0 ≤ 9223372036854775807) :
    Calls Tryd.prog 22 #[v] w fun e w' => e = .returned (.string (sB (sgL l))) ∧ Q w w' := signs_any v l w hv hl hb
set_option maxHeartbeats 4000000 in
set_option maxRecDepth 100000 in
theorem text_any (f0 f1 f3 f4 : Value) (x0 x1 x3 x4 : List Int) (two : Bool) (i5 i6 i7 i8 i9 : Int) (z p q a b : Nat) (w : World)
    (w0 : Lst w f0 x0) (w1 : Lst w f1 x1) (w3 : Lst w f3 x3) (w4 : Lst w f4 x4) (l0 : x0.length ≤ maxLen) (l1 : x1.length ≤ maxLen) (l3 : x3.length ≤ maxLen) (l4 : x4.length ≤ maxLen)
    (b0 : ∀ n ∈ x0, -9223372036854775808 ≤ n ∧ n ≤ 9223372036854775807) (b1 : ∀ n ∈ x1, -9223372036854775808 ≤ n ∧ n ≤ 9223372036854775807) (b3 : ∀ n ∈ x3, -9223372036854775808 ≤ n ∧ n ≤ 9223372036854775807) (b4 : ∀ n ∈ x4, -9223372036854775808 ≤ n ∧ n ≤ 9223372036854775807)
    (h5 : -9223372036854775808 ≤ i5 ∧ i5 ≤ 9223372036854775807) (h6 : -9223372036854775808 ≤ i6 ∧ i6 ≤ 9223372036854775807) (h7 : -9223372036854775808 ≤ i7 ∧ i7 ≤ 9223372036854775807) (h8 : -9223372036854775808 ≤ i8 ∧ i8 ≤ 9223372036854775807) (h9 : -9223372036854775808 ≤ i9 ∧ i9 ≤ 9223372036854775807)
    (ez : around i5 7 = z) (ep : around i6 5 = p) (eq : around i7 5 = q) (ea : around i8 4 = a) (eb : around i9 4 = b) :
    Calls Tryd.prog 14 #[.agg #[f0, f1, .bool two, f3, f4, .int .i64 i5, .int .i64 i6, .int .i64 i7, .int .i64 i8, .int .i64 i9]] w fun e w' => e = .returned (.string (sB (hfT x0 x1 z p q a b ++ twoT two x3 x4))) ∧ Q w w' := by
  have bz := around_bd i5 7 (by decide)
  have bp := around_bd i6 5 (by decide)
  have bq := around_bd i7 5 (by decide)
  have ba := around_bd i8 4 (by decide)
  have bb := around_bd i9 4 (by decide)
  have H5 := Lib.hid (fun u => Ur.around_any i5 7 u h5.1 h5.2 (by decide) (by decide))
  have H6 := Lib.hid (fun u => Ur.around_any i6 5 u h6.1 h6.2 (by decide) (by decide))
  have H7 := Lib.hid (fun u => Ur.around_any i7 5 u h7.1 h7.2 (by decide) (by decide))
  have H8 := Lib.hid (fun u => Ur.around_any i8 4 u h8.1 h8.2 (by decide) (by decide))
  have H9 := Lib.hid (fun u => Ur.around_any i9 4 u h9.1 h9.2 (by decide) (by decide))
  rw [ez] at bz H5; rw [ep] at bp H6; rw [eq] at bq H7; rw [ea] at ba H8; rw [eb] at bb H9
  have hz7 : z < 7 := by omega
  have hp5 : p < 5 := by omega
  have hq5 : q < 5 := by omega
  have ha4 : a < 4 := by omega
  have hb4 : b < 4 := by omega
  clear bz bp bq ba bb h5 h6 h7 h8 h9 ez ep eq ea eb
  have bk : ∀ x : List Int, (∀ n ∈ x, -9223372036854775808 ≤ n ∧ n ≤ 9223372036854775807) → ∀ k, k < x.length → -9223372036854775808 ≤ x.getD k 0 ∧ x.getD k 0 ≤ 9223372036854775807 := fun x h k hk => h _ (by rw [List.getD_eq_getElem?_getD, List.getElem?_eq_getElem hk]; exact List.getElem_mem hk)
  obtain ⟨n0, hn0⟩ : ∃ n, x0.length = n := ⟨_, rfl⟩
  obtain ⟨e0, s0, rfl, _, _⟩ := w0.form0 hn0
  obtain ⟨n1, hn1⟩ : ∃ n, x1.length = n := ⟨_, rfl⟩
  obtain ⟨e1, s1, rfl, _, _⟩ := w1.form0 hn1
  obtain ⟨n3, hn3⟩ : ∃ n, x3.length = n := ⟨_, rfl⟩
  obtain ⟨e3, s3, rfl, _, _⟩ := w3.form0 hn3
  obtain ⟨n4, hn4⟩ : ∃ n, x4.length = n := ⟨_, rfl⟩
  obtain ⟨e4, s4, rfl, _, _⟩ := w4.form0 hn4
  obtain ⟨y, hy⟩ : ∃ y, y = w.alloc (.cells #[.slice e0 n0 s0, .slice e1 n1 s1, .bool two, .slice e3 n3 s3, .slice e4 n4 s4, .int .i64 i5, .int .i64 i6, .int .i64 i7, .int .i64 i8, .int .i64 i9] 36) := ⟨_, rfl⟩
  have hqy : Q w y := by rw [hy]; exact (Q.refl w).alloc _
  have HS0 := Lib.hid (fun u (h : Q y u) => signs_sB _ x0 u ((w0.q hqy).q h) l0 (bk x0 b0))
  have HS1 := Lib.hid (fun u (h : Q y u) => signs_sB _ x1 u ((w1.q hqy).q h) l1 (bk x1 b1))
  have HS3 := Lib.hid (fun u (h : Q y u) => signs_sB _ x3 u ((w3.q hqy).q h) l3 (bk x3 b3))
  have HS4 := Lib.hid (fun u (h : Q y u) => signs_sB _ x4 u ((w4.q hqy).q h) l4 (bk x4 b4))
  have HB := Lib.hid (show Bk y w.heap.size 36 [.slice e0 n0 s0, .slice e1 n1 s1, .bool two, .slice e3 n3 s3, .slice e4 n4 s4, .int .i64 i5, .int .i64 i6, .int .i64 i7, .int .i64 i8, .int .i64 i9] by rw [hy]; exact Bk.new _ _ _)
  have HQY := Lib.hid hqy
  obtain ⟨N, hN⟩ : ∃ N, max z (p + q + 1) = N := ⟨_, rfl⟩
  have hmx : (z < p + q + 1 ∧ N = p + q + 1) ∨ (p + q + 1 ≤ z ∧ N = z) := by omega
  clear hN
  have hN9 : N ≤ 9 := by omega
  have hN1 : 1 ≤ N := by omega
  clear w0 w1 w3 w4 l0 l1 l3 l4 b0 b1 b3 b4 bk hqy hn0 hn1 hn3 hn4
  obtain ⟨r, hr⟩ : ∃ r : Nat, (p : Int) + (q : Int) = (r : Int) := ⟨p + q, by simp⟩
  have hr9 : (r : Int) ≤ 8 := by omega
  rcases hmx with ⟨hc, hN⟩ | ⟨hc, hN⟩
  case' inl =>
    have hci : (z : Int) < (r : Int) + 1 := by omega
    have hci2 : ¬ (r : Int) + 1 ≤ (z : Int) := by omega
  case' inr =>
    have hci : ¬ (z : Int) < (r : Int) + 1 := by omega
    have hci2 : (r : Int) + 1 ≤ (z : Int) := by omega
  all_goals
    go_enter Tryd.func14, Tryd.ntmps14
    go_upto_region 1 with fail
    rw [← hy]
    clear hy
    have k0 := HB.out.cell 0 rfl
    have k5 := HB.out.cell 5 rfl
    have k6 := HB.out.cell 6 rfl
    have k7 := HB.out.cell 7 rfl
    go_wp2_with fail
    refine (H6.out _).mono ?_
    rintro e u ⟨rfl, rfl⟩
    go_wp2_with fail
    refine (H7.out _).mono ?_
    rintro e u ⟨rfl, rfl⟩
    go_wp2_with fail
    refine (H5.out _).mono ?_
    rintro e u ⟨rfl, rfl⟩
    go_wp2_with fail
    refine (HS0.out _ (Q.refl _)).mono ?_
    rintro e u1 ⟨rfl, hq1⟩
    have HQ1 := Lib.hid hq1
    clear hq1 k0 k5 k6 k7
    go_wp2_with fail
  · rw [hN] at hN9 hN1
    clear hN
    clear N
    have hmax : max z (p + q + 1) = z := by omega
    go_loopw [7, 8] (fun s i u => ∃ (m : Nat) (M : List Int), i = .int .i64 m ∧ m ≤ z ∧ s = .string (sB (sgL x0 ++ M)) ∧ M ++ whl z z p q m = whl z z p q z ∧ M.length + 2 * m ≤ 2 * z ∧ u1 = u) (fun _ i _ => (intOf i).toNat)
    case atStart => exact ⟨z, [], rfl, Nat.le_refl _, by rw [List.append_nil], rfl, by simp, rfl⟩
    case round =>
      obtain ⟨m, M, rfl, hm, rfl, hM, hMl, rfl⟩ := hrel
      have hs20 := sgL_len x0
      by_cases hm0 : 0 < m
      · have hm0i : (0 : Int) < (m : Int) := by omega
        have hm9 : (m : Int) ≤ 9 := by omega
        have hw : whl z z p q m = (if (m : Int) < (z : Int) ∧ ((m : Int) = (p : Int) ∨ ((0 : Int) < (p : Int) ∧ (0 : Int) < (q : Int) ∧ (m : Int) = (p : Int) + (q : Int))) then [44] else []) ++ (if (m : Int) ≤ (z : Int) then 48 else 35) :: whl z z p q (m - 1) := by
          obtain ⟨m', rfl⟩ : ∃ m', m = m' + 1 := ⟨m - 1, by omega⟩
          exact whl_succ _ _ _ _ _
        have hsz := sB_size (sgL x0 ++ M)
        have hsz2 : (sB (sgL x0 ++ M)).size ≤ 200 := by rw [List.length_append] at hsz; omega
        clear hsz
        generalize hSS : sB (sgL x0 ++ M) = SS at *
        by_cases c1 : (m : Int) < (z : Int)
        · by_cases c2 : (m : Int) = (p : Int)
          · by_cases c6 : (m : Int) ≤ (z : Int)
            · have HE := Lib.hid (show sB (sgL x0 ++ (M ++ ([44] ++ [48]))) = SS ++ (⟨#[44]⟩ : ByteArray) ++ ⟨#[48]⟩ by
                rw [← hSS, ← sB_48, ← sB_44]; simp only [sB_app, List.append_assoc])
              have HW := Lib.hid (show M ++ ([44] ++ [48]) ++ whl z z p q (m - 1) = whl z z p q z by
                rw [← hM, hw, if_pos (show ((m : Int) < (z : Int) ∧ ((m : Int) = (p : Int) ∨ ((0 : Int) < (p : Int) ∧ (0 : Int) < (q : Int) ∧ (m : Int) = (p : Int) + (q : Int)))) by omega), if_pos c6]; simp)
              clear hSS hw hM
              obtain rfl : m = p := by omega
              go_wp2_with fail
              exact ⟨⟨m - 1, M ++ ([44] ++ [48]), (by rw [show ((m - 1 : Nat) : Int) = (m : Int) - 1 by omega]), by omega, (by rw [HE.out]), HW.out, by simp; omega, (by first | trivial | rfl)⟩, by simp [intOf]; omega⟩
            · exfalso
              omega
          · by_cases c3 : (0 : Int) < (p : Int)
            · by_cases c4 : (0 : Int) < (q : Int)
              · by_cases c5 : (m : Int) = (r : Int)
                · by_cases c6 : (m : Int) ≤ (z : Int)
                  · have HE := Lib.hid (show sB (sgL x0 ++ (M ++ ([44] ++ [48]))) = SS ++ (⟨#[44]⟩ : ByteArray) ++ ⟨#[48]⟩ by
                      rw [← hSS, ← sB_48, ← sB_44]; simp only [sB_app, List.append_assoc])
                    have HW := Lib.hid (show M ++ ([44] ++ [48]) ++ whl z z p q (m - 1) = whl z z p q z by
                      rw [← hM, hw, if_pos (show ((m : Int) < (z : Int) ∧ ((m : Int) = (p : Int) ∨ ((0 : Int) < (p : Int) ∧ (0 : Int) < (q : Int) ∧ (m : Int) = (p : Int) + (q : Int)))) by omega), if_pos c6]; simp)
                    clear hSS hw hM
                    have c2b : ((m : Int) == (p : Int)) = false := by simpa using c2
                    obtain rfl : m = r := by omega
                    go_wp2_with fail
                    exact ⟨⟨m - 1, M ++ ([44] ++ [48]), (by rw [show ((m - 1 : Nat) : Int) = (m : Int) - 1 by omega]), by omega, (by rw [HE.out]), HW.out, by simp; omega, (by first | trivial | rfl)⟩, by simp [intOf]; omega⟩
                  · exfalso
                    omega
                · by_cases c6 : (m : Int) ≤ (z : Int)
                  · have HE := Lib.hid (show sB (sgL x0 ++ (M ++ ([48]))) = SS ++ ⟨#[48]⟩ by
                      rw [← hSS, ← sB_48]; simp only [sB_app, List.append_assoc])
                    have HW := Lib.hid (show M ++ ([48]) ++ whl z z p q (m - 1) = whl z z p q z by
                      rw [← hM, hw, if_neg (show ¬ ((m : Int) < (z : Int) ∧ ((m : Int) = (p : Int) ∨ ((0 : Int) < (p : Int) ∧ (0 : Int) < (q : Int) ∧ (m : Int) = (p : Int) + (q : Int)))) by omega), if_pos c6]; simp)
                    clear hSS hw hM
                    have c2b : ((m : Int) == (p : Int)) = false := by simpa using c2
                    have c5b : ((m : Int) == (r : Int)) = false := by simpa using c5
                    go_wp2_with fail
                    exact ⟨⟨m - 1, M ++ ([48]), (by rw [show ((m - 1 : Nat) : Int) = (m : Int) - 1 by omega]), by omega, (by rw [HE.out]), HW.out, by simp; omega, (by first | trivial | rfl)⟩, by simp [intOf]; omega⟩
                  · exfalso
                    omega
              · by_cases c6 : (m : Int) ≤ (z : Int)
                · have HE := Lib.hid (show sB (sgL x0 ++ (M ++ ([48]))) = SS ++ ⟨#[48]⟩ by
                    rw [← hSS, ← sB_48]; simp only [sB_app, List.append_assoc])
                  have HW := Lib.hid (show M ++ ([48]) ++ whl z z p q (m - 1) = whl z z p q z by
                    rw [← hM, hw, if_neg (show ¬ ((m : Int) < (z : Int) ∧ ((m : Int) = (p : Int) ∨ ((0 : Int) < (p : Int) ∧ (0 : Int) < (q : Int) ∧ (m : Int) = (p : Int) + (q : Int)))) by omega), if_pos c6]; simp)
                  clear hSS hw hM
                  have c2b : ((m : Int) == (p : Int)) = false := by simpa using c2
                  go_wp2_with fail
                  exact ⟨⟨m - 1, M ++ ([48]), (by rw [show ((m - 1 : Nat) : Int) = (m : Int) - 1 by omega]), by omega, (by rw [HE.out]), HW.out, by simp; omega, (by first | trivial | rfl)⟩, by simp [intOf]; omega⟩
                · exfalso
                  omega
            · by_cases c6 : (m : Int) ≤ (z : Int)
              · have HE := Lib.hid (show sB (sgL x0 ++ (M ++ ([48]))) = SS ++ ⟨#[48]⟩ by
                  rw [← hSS, ← sB_48]; simp only [sB_app, List.append_assoc])
                have HW := Lib.hid (show M ++ ([48]) ++ whl z z p q (m - 1) = whl z z p q z by
                  rw [← hM, hw, if_neg (show ¬ ((m : Int) < (z : Int) ∧ ((m : Int) = (p : Int) ∨ ((0 : Int) < (p : Int) ∧ (0 : Int) < (q : Int) ∧ (m : Int) = (p : Int) + (q : Int)))) by omega), if_pos c6]; simp)
                clear hSS hw hM
                have c2b : ((m : Int) == (p : Int)) = false := by simpa using c2
                go_wp2_with fail
                exact ⟨⟨m - 1, M ++ ([48]), (by rw [show ((m - 1 : Nat) : Int) = (m : Int) - 1 by omega]), by omega, (by rw [HE.out]), HW.out, by simp; omega, (by first | trivial | rfl)⟩, by simp [intOf]; omega⟩
              · exfalso
                omega
        · by_cases c6 : (m : Int) ≤ (z : Int)
          · have HE := Lib.hid (show sB (sgL x0 ++ (M ++ ([48]))) = SS ++ ⟨#[48]⟩ by
              rw [← hSS, ← sB_48]; simp only [sB_app, List.append_assoc])
            have HW := Lib.hid (show M ++ ([48]) ++ whl z z p q (m - 1) = whl z z p q z by
              rw [← hM, hw, if_neg (show ¬ ((m : Int) < (z : Int) ∧ ((m : Int) = (p : Int) ∨ ((0 : Int) < (p : Int) ∧ (0 : Int) < (q : Int) ∧ (m : Int) = (p : Int) + (q : Int)))) by omega), if_pos c6]; simp)
            clear hSS hw hM
            go_wp2_with fail
            exact ⟨⟨m - 1, M ++ ([48]), (by rw [show ((m - 1 : Nat) : Int) = (m : Int) - 1 by omega]), by omega, (by rw [HE.out]), HW.out, by simp; omega, (by first | trivial | rfl)⟩, by simp [intOf]; omega⟩
          · exfalso
            omega
      · have hmz : m = 0 := by omega
        subst hmz
        have hno : ¬ (0 : Int) < ((0 : Nat) : Int) := by omega
        have hMe : M = whl z z p q z := by rw [← hM]; simp [whl]
        have hsz := sB_size (sgL x0 ++ M)
        have hsz2 : (sB (sgL x0 ++ M)).size ≤ 200 := by rw [List.length_append] at hsz; omega
        have hsz3 := sB_size (sgL x1)
        have hsz4 := sB_size (sgL x3)
        have hsz5 := sB_size (sgL x4)
        have hl1 := sgL_len x1
        have hl3 := sgL_len x3
        have hl4 := sgL_len x4
        have hz1 : (sB (sgL x1)).size ≤ 80 := by omega
        have hz3 : (sB (sgL x3)).size ≤ 80 := by omega
        have hz4 : (sB (sgL x4)).size ≤ 80 := by omega
        clear hsz hsz3 hsz4 hsz5 hl1 hl3 hl4 hs20
        have k8 := (HB.out.q HQ1.out).cell 8 rfl
        have k9 := (HB.out.q HQ1.out).cell 9 rfl
        have k1 := (HB.out.q HQ1.out).cell 1 rfl
        have hnm : nmT z p q a b = M ++ (if 0 < a + b then 46 :: ([48, 48, 48].take a ++ [35, 35, 35].take b) else []) := by
          rw [hMe]; unfold nmT; rw [hmax]
        by_cases hab : 0 < a + b
        · have habi : (0 : Int) < (a : Int) + (b : Int) := by omega
          have hai : (a : Int) ≤ 3 := by omega
          have hbi : (b : Int) ≤ 3 := by omega
          have hz5 := sB_size ([48, 48, 48].take a)
          have hz6 := sB_size ([35, 35, 35].take b)
          have hz7 : (sB ([48, 48, 48].take a)).size ≤ 12 := by have : ([48, 48, 48].take a : List Int).length ≤ 3 := List.length_take_le' _ _; omega
          have hz8 : (sB ([35, 35, 35].take b)).size ≤ 12 := by have : ([35, 35, 35].take b : List Int).length ≤ 3 := List.length_take_le' _ _; omega
          rw [if_pos hab] at hnm
          have HF := Lib.hid (show sB (hfT x0 x1 z p q a b ++ twoT false x3 x4) = sB (sgL x0 ++ M) ++ ⟨#[46]⟩ ++ sB ([48, 48, 48].take a) ++ sB ([35, 35, 35].take b) ++ sB (sgL x1) by
            unfold hfT twoT; rw [hnm, ← sB_46]; simp [sB_app])
          have HF2 := Lib.hid (show sB (hfT x0 x1 z p q a b ++ twoT true x3 x4) = sB (sgL x0 ++ M) ++ ⟨#[46]⟩ ++ sB ([48, 48, 48].take a) ++ sB ([35, 35, 35].take b) ++ sB (sgL x1) ++ ⟨#[59]⟩ ++ sB (sgL x3) ++ ⟨#[48]⟩ ++ sB (sgL x4) by
            unfold hfT twoT; rw [hnm, ← sB_46, ← sB_59, ← sB_48]; simp [sB_app])
          have hca := cut48 a ha4
          have hcb := cut35 b hb4
          have sca : (⟨#[48, 48, 48]⟩ : ByteArray).size = 3 := rfl
          have scb : (⟨#[35, 35, 35]⟩ : ByteArray).size = 3 := rfl
          generalize sB (sgL x0 ++ M) = SS at *
          clear hz5 hz6 hnm hMe hM hMl
          have hc1 : ¬ 9223372036854775807 < SS.size + 1 := by omega
          have hc2 : ¬ 9223372036854775807 < SS.size + 1 + (sB ([48, 48, 48].take a)).size := by omega
          have hc3 : ¬ 9223372036854775807 < SS.size + 1 + (sB ([48, 48, 48].take a)).size + (sB ([35, 35, 35].take b)).size := by omega
          go_wp2_with fail
          refine (H8.out _).mono ?_
          rintro e u ⟨rfl, rfl⟩
          go_wp2_with fail
          refine (H9.out _).mono ?_
          rintro e u ⟨rfl, rfl⟩
          go_upto_region 17 with fail
          clear k8 k9 k1
          refine wp_region_held_drew (S := fun u => Q y u) (by kernel_rfl) (by exact HQ1.out.drew) (fun hHeld => ?_)
          have hS : Q y u1.drew := hHeld
          clear hHeld
          have hq : Q u1 u1.drew := (Q.refl _).drew
          clear hq
          generalize u1.drew = yR2x0 at *
          refine wpAnyH_take (i := 0) (v := ?vR2x1) rfl (by kernel_rfl) (by kernel_rfl) (by kernel_rfl) (fun _ _ _ h => h) (Or.inl ⟨by rfl, ?hyR2x1⟩) (by exact hS) ?rsR2x1
          case hyR2x1 => (intro uz hSw; (try dsimp only at hSw); go_simp; try with_reducible rfl)
          try simp only [Act.put, List.setIfInBounds_toArray, List.set_cons_zero, List.set_cons_succ]
          refine wpAnyH_take (i := 1) (v := ?vR2x2) rfl (by kernel_rfl) (by kernel_rfl) (by kernel_rfl) (fun _ _ _ h => h) (Or.inl ⟨by rfl, ?hyR2x2⟩) (by exact hS) ?rsR2x2
          case hyR2x2 => (intro uz hSw; (try dsimp only at hSw); go_simp; try with_reducible rfl)
          try simp only [Act.put, List.setIfInBounds_toArray, List.set_cons_zero, List.set_cons_succ]
          refine wpAnyH_take (i := 2) (v := ?vR2x3) rfl (by kernel_rfl) (by kernel_rfl) (by kernel_rfl) (fun _ _ _ h => h) (Or.inl ⟨by rfl, ?hyR2x3⟩) (by exact hS) ?rsR2x3
          case hyR2x3 => (intro uz hSw; (try dsimp only at hSw); go_simp; try with_reducible rfl)
          try simp only [Act.put, List.setIfInBounds_toArray, List.set_cons_zero, List.set_cons_succ]
          refine wpAnyH_take (i := 3) (v := ?vR2x4) rfl (by kernel_rfl) (by kernel_rfl) (by kernel_rfl) (fun _ _ _ h => h) (Or.inl ⟨by rfl, ?hyR2x4⟩) (by exact hS) ?rsR2x4
          case hyR2x4 => (intro uz hSw; (try dsimp only at hSw); go_simp; try with_reducible rfl)
          try simp only [Act.put, List.setIfInBounds_toArray, List.set_cons_zero, List.set_cons_succ]
          refine wpAnyH_take (i := 4) (v := ?vR2x5) rfl (by kernel_rfl) (by kernel_rfl) (by kernel_rfl) (fun _ _ _ h => h) (Or.inl ⟨by rfl, ?hyR2x5⟩) (by exact hS) ?rsR2x5
          case hyR2x5 => (intro uz hSw; (try dsimp only at hSw); go_simp; try with_reducible rfl)
          try simp only [Act.put, List.setIfInBounds_toArray, List.set_cons_zero, List.set_cons_succ]
          refine wpAnyH_take (i := 5) (v := ?vR2x6) rfl (by kernel_rfl) (by kernel_rfl) (by kernel_rfl) (fun _ _ _ h => h) (Or.inl ⟨by rfl, ?hyR2x6⟩) (by exact hS) ?rsR2x6
          case hyR2x6 => (intro uz hSw; (try dsimp only at hSw); go_simp; try with_reducible rfl)
          try simp only [Act.put, List.setIfInBounds_toArray, List.set_cons_zero, List.set_cons_succ]
          refine wpAnyH_take (i := 6) (v := ?vR2x7) rfl (by kernel_rfl) (by kernel_rfl) (by kernel_rfl) (fun _ _ _ h => h) (Or.inl ⟨by rfl, ?hyR2x7⟩) (by exact hS) ?rsR2x7
          case hyR2x7 => (intro uz hSw; (try dsimp only at hSw); go_simp; try with_reducible rfl)
          try simp only [Act.put, List.setIfInBounds_toArray, List.set_cons_zero, List.set_cons_succ]
          refine wpAnyH_take (i := 7) (v := ?vR2x8) rfl (by kernel_rfl) (by kernel_rfl) (by kernel_rfl) (fun _ _ _ h => h) (Or.inl ⟨by rfl, ?hyR2x8⟩) (by exact hS) ?rsR2x8
          case hyR2x8 => (intro uz hSw; (try dsimp only at hSw); go_simp; try with_reducible rfl)
          try simp only [Act.put, List.setIfInBounds_toArray, List.set_cons_zero, List.set_cons_succ]
          refine wpAnyH_take (i := 8) (v := ?vR2x9) rfl (by kernel_rfl) (by kernel_rfl) (by kernel_rfl) (fun _ _ _ h => h) (Or.inl ⟨by rfl, ?hyR2x9⟩) (by exact hS) ?rsR2x9
          case hyR2x9 => (intro uz hSw; (try dsimp only at hSw); go_simp; try with_reducible rfl)
          try simp only [Act.put, List.setIfInBounds_toArray, List.set_cons_zero, List.set_cons_succ]
          refine wpAnyH_done (by kernel_rfl) ?_ _
          have k1 := (HB.out.q hS).cell 1 rfl
          have HQU := Lib.hid hS
          clear hS
          go_wp2_with fail
          refine (HS1.out _ HQU.out).mono ?_
          rintro e u3 ⟨rfl, hq3⟩
          have hv : (SS ++ (⟨#[46]⟩ : ByteArray) ++ sB ([48, 48, 48].take a) ++ sB ([35, 35, 35].take b)).size ≤ 300 := by simp only [ByteArray.size_append, show (⟨#[46]⟩ : ByteArray).size = 1 from rfl]; omega
          generalize SS ++ (⟨#[46]⟩ : ByteArray) ++ sB ([48, 48, 48].take a) ++ sB ([35, 35, 35].take b) = V at *
          have hd1 : ¬ 9223372036854775807 < V.size + (sB (sgL x1)).size := by omega
          have HQ3 := Lib.hid (HQU.out.trans hq3)
          have k2 := (HB.out.q HQ3.out).cell 2 rfl
          clear hq3
          cases two with
          | false =>
            go_wp2_with fail
            clear k2
            go_ret
            exact ⟨(congrArg (fun s => Ending.returned (Value.string s)) HF.out).symm, HQY.out.trans HQ3.out⟩
          | true =>
            have hv2 : (V ++ sB (sgL x1)).size ≤ 400 := by rw [ByteArray.size_append]; omega
            go_upto_region 20 with fail
            clear k2 hd1
            generalize V ++ sB (sgL x1) = V2 at *
            have hd1 : ¬ 9223372036854775807 < V2.size + 1 := by omega
            have hd2 : ¬ 9223372036854775807 < V2.size + 1 + (sB (sgL x3)).size := by omega
            have hd3 : ¬ 9223372036854775807 < V2.size + 1 + (sB (sgL x3)).size + 1 := by omega
            have hd4 : ¬ 9223372036854775807 < V2.size + 1 + (sB (sgL x3)).size + 1 + (sB (sgL x4)).size := by omega
            refine wp_region_held_drew (S := fun u => Q y u) (by kernel_rfl) (by exact HQ3.out.drew) (fun hHeld => ?_)
            have hS : Q y u3.drew := hHeld
            clear hHeld
            have hq : Q u3 u3.drew := (Q.refl _).drew
            clear hq
            generalize u3.drew = yR1x0 at *
            refine wpAnyH_take (i := 0) (v := ?vR1x1) rfl (by kernel_rfl) (by kernel_rfl) (by kernel_rfl) (fun _ _ _ h => h) (Or.inl ⟨by rfl, ?hyR1x1⟩) (by exact hS) ?rsR1x1
            case hyR1x1 => (intro uz hSw; (try dsimp only at hSw); go_simp; try with_reducible rfl)
            try simp only [Act.put, List.setIfInBounds_toArray, List.set_cons_zero, List.set_cons_succ]
            refine wpAnyH_take (i := 1) (v := ?vR1x2) rfl (by kernel_rfl) (by kernel_rfl) (by kernel_rfl) (fun _ _ _ h => h) (Or.inl ⟨by rfl, ?hyR1x2⟩) (by exact hS) ?rsR1x2
            case hyR1x2 => (intro uz hSw; (try dsimp only at hSw); go_simp; try with_reducible rfl)
            try simp only [Act.put, List.setIfInBounds_toArray, List.set_cons_zero, List.set_cons_succ]
            refine wpAnyH_take (i := 2) (v := ?vR1x3) rfl (by kernel_rfl) (by kernel_rfl) (by kernel_rfl) (fun _ _ _ h => h) (Or.inl ⟨by rfl, ?hyR1x3⟩) (by exact hS) ?rsR1x3
            case hyR1x3 => (intro uz hSw; (try dsimp only at hSw); go_simp; try with_reducible rfl)
            try simp only [Act.put, List.setIfInBounds_toArray, List.set_cons_zero, List.set_cons_succ]
            refine wpAnyH_take (i := 3) (v := ?vR1x4) rfl (by kernel_rfl) (by kernel_rfl) (by kernel_rfl) (fun _ _ _ h => h) (Or.inl ⟨by rfl, ?hyR1x4⟩) (by exact hS) ?rsR1x4
            case hyR1x4 => (intro uz hSw; (try dsimp only at hSw); have kb := HB.out.q hSw; have k3 := kb.cell 3 rfl; have k4 := kb.cell 4 rfl; clear kb; go_simp; try with_reducible rfl)
            try simp only [Act.put, List.setIfInBounds_toArray, List.set_cons_zero, List.set_cons_succ]
            refine wpAnyH_take (i := 7) (v := ?vR1x5) rfl (by kernel_rfl) (by kernel_rfl) (by kernel_rfl) (fun _ _ _ h => h) (Or.inl ⟨by rfl, ?hyR1x5⟩) (by exact hS) ?rsR1x5
            case hyR1x5 => (intro uz hSw; (try dsimp only at hSw); go_simp; try with_reducible rfl)
            try simp only [Act.put, List.setIfInBounds_toArray, List.set_cons_zero, List.set_cons_succ]
            refine wpAnyH_take (i := 8) (v := ?vR1x6) rfl (by kernel_rfl) (by kernel_rfl) (by kernel_rfl) (fun _ _ _ h => h) (Or.inl ⟨by rfl, ?hyR1x6⟩) (by exact hS) ?rsR1x6
            case hyR1x6 => (intro uz hSw; (try dsimp only at hSw); have kb := HB.out.q hSw; have k3 := kb.cell 3 rfl; have k4 := kb.cell 4 rfl; clear kb; go_simp; try with_reducible rfl)
            try simp only [Act.put, List.setIfInBounds_toArray, List.set_cons_zero, List.set_cons_succ]
            refine wpAnyH_ready (rs := [4]) (by kernel_rfl) (by simp) ?_
            refine (AllReadyH.cons rfl (fun K hK => ?_) AllReadyH.nil)
            go_simp
            refine (HS3.out _ hS).mono ?_
            rintro e yR1x7 ⟨rfl, hq⟩
            try (go_wp2_with fail)
            have hS2 := Q.trans hS hq
            refine hK.out _ _ (by exact hS2) (fun hHeld => ?_)
            clear hK K hHeld hS hq
            have hS := hS2
            clear hS2
            try simp only [Act.put, List.setIfInBounds_toArray, List.set_cons_zero, List.set_cons_succ]
            refine wpAnyH_take (i := 5) (v := ?vR1x8) rfl (by kernel_rfl) (by kernel_rfl) (by kernel_rfl) (fun _ _ _ h => h) (Or.inl ⟨by rfl, ?hyR1x8⟩) (by exact hS) ?rsR1x8
            case hyR1x8 => (intro uz hSw; (try dsimp only at hSw); go_simp; try with_reducible rfl)
            try simp only [Act.put, List.setIfInBounds_toArray, List.set_cons_zero, List.set_cons_succ]
            refine wpAnyH_take (i := 6) (v := ?vR1x9) rfl (by kernel_rfl) (by kernel_rfl) (by kernel_rfl) (fun _ _ _ h => h) (Or.inl ⟨by rfl, ?hyR1x9⟩) (by exact hS) ?rsR1x9
            case hyR1x9 => (intro uz hSw; (try dsimp only at hSw); go_simp; try with_reducible rfl)
            try simp only [Act.put, List.setIfInBounds_toArray, List.set_cons_zero, List.set_cons_succ]
            refine wpAnyH_ready (rs := [9]) (by kernel_rfl) (by simp) ?_
            refine (AllReadyH.cons rfl (fun K hK => ?_) AllReadyH.nil)
            go_simp
            refine (HS4.out _ hS).mono ?_
            rintro e yR1x10 ⟨rfl, hq⟩
            try (go_wp2_with fail)
            have hS2 := Q.trans hS hq
            refine hK.out _ _ (by exact hS2) (fun hHeld => ?_)
            clear hK K hHeld hS hq
            have hS := hS2
            clear hS2
            try simp only [Act.put, List.setIfInBounds_toArray, List.set_cons_zero, List.set_cons_succ]
            refine wpAnyH_take (i := 10) (v := ?vR1x11) rfl (by kernel_rfl) (by kernel_rfl) (by kernel_rfl) (fun _ _ _ h => h) (Or.inl ⟨by rfl, ?hyR1x11⟩) (by exact hS) ?rsR1x11
            case hyR1x11 => (intro uz hSw; (try dsimp only at hSw); go_simp; try with_reducible rfl)
            try simp only [Act.put, List.setIfInBounds_toArray, List.set_cons_zero, List.set_cons_succ]
            refine wpAnyH_take (i := 11) (v := ?vR1x12) rfl (by kernel_rfl) (by kernel_rfl) (by kernel_rfl) (fun _ _ _ h => h) (Or.inl ⟨by rfl, ?hyR1x12⟩) (by exact hS) ?rsR1x12
            case hyR1x12 => (intro uz hSw; (try dsimp only at hSw); go_simp; try with_reducible rfl)
            try simp only [Act.put, List.setIfInBounds_toArray, List.set_cons_zero, List.set_cons_succ]
            refine wpAnyH_done (by kernel_rfl) ?_ _
            go_wp2_with fail
            go_ret
            exact ⟨(congrArg (fun s => Ending.returned (Value.string s)) HF2.out).symm, HQY.out.trans hS⟩
        · have habi : ¬ (0 : Int) < (a : Int) + (b : Int) := by omega
          rw [if_neg hab, List.append_nil] at hnm
          have HF := Lib.hid (show sB (hfT x0 x1 z p q a b ++ twoT false x3 x4) = sB (sgL x0 ++ M) ++ sB (sgL x1) by
            unfold hfT twoT; rw [hnm]; simp [sB_app])
          have HF2 := Lib.hid (show sB (hfT x0 x1 z p q a b ++ twoT true x3 x4) = sB (sgL x0 ++ M) ++ sB (sgL x1) ++ ⟨#[59]⟩ ++ sB (sgL x3) ++ ⟨#[48]⟩ ++ sB (sgL x4) by
            unfold hfT twoT; rw [hnm, ← sB_59, ← sB_48]; simp [sB_app])
          generalize sB (sgL x0 ++ M) = SS at *
          have HQU := HQ1
          clear hnm hMe hM hMl
          go_wp2_with fail
          refine (H8.out _).mono ?_
          rintro e u ⟨rfl, rfl⟩
          go_wp2_with fail
          refine (H9.out _).mono ?_
          rintro e u ⟨rfl, rfl⟩
          go_wp2_with fail
          refine (HS1.out _ HQU.out).mono ?_
          rintro e u3 ⟨rfl, hq3⟩
          have hv : SS.size ≤ 300 := by omega
          generalize SS = V at *
          have hd1 : ¬ 9223372036854775807 < V.size + (sB (sgL x1)).size := by omega
          have HQ3 := Lib.hid (HQU.out.trans hq3)
          have k2 := (HB.out.q HQ3.out).cell 2 rfl
          clear hq3
          cases two with
          | false =>
            go_wp2_with fail
            clear k2
            go_ret
            exact ⟨(congrArg (fun s => Ending.returned (Value.string s)) HF.out).symm, HQY.out.trans HQ3.out⟩
          | true =>
            have hv2 : (V ++ sB (sgL x1)).size ≤ 400 := by rw [ByteArray.size_append]; omega
            go_upto_region 20 with fail
            clear k2 hd1
            generalize V ++ sB (sgL x1) = V2 at *
            have hd1 : ¬ 9223372036854775807 < V2.size + 1 := by omega
            have hd2 : ¬ 9223372036854775807 < V2.size + 1 + (sB (sgL x3)).size := by omega
            have hd3 : ¬ 9223372036854775807 < V2.size + 1 + (sB (sgL x3)).size + 1 := by omega
            have hd4 : ¬ 9223372036854775807 < V2.size + 1 + (sB (sgL x3)).size + 1 + (sB (sgL x4)).size := by omega
            refine wp_region_held_drew (S := fun u => Q y u) (by kernel_rfl) (by exact HQ3.out.drew) (fun hHeld => ?_)
            have hS : Q y u3.drew := hHeld
            clear hHeld
            have hq : Q u3 u3.drew := (Q.refl _).drew
            clear hq
            generalize u3.drew = yR3x0 at *
            refine wpAnyH_take (i := 0) (v := ?vR3x1) rfl (by kernel_rfl) (by kernel_rfl) (by kernel_rfl) (fun _ _ _ h => h) (Or.inl ⟨by rfl, ?hyR3x1⟩) (by exact hS) ?rsR3x1
            case hyR3x1 => (intro uz hSw; (try dsimp only at hSw); go_simp; try with_reducible rfl)
            try simp only [Act.put, List.setIfInBounds_toArray, List.set_cons_zero, List.set_cons_succ]
            refine wpAnyH_take (i := 1) (v := ?vR3x2) rfl (by kernel_rfl) (by kernel_rfl) (by kernel_rfl) (fun _ _ _ h => h) (Or.inl ⟨by rfl, ?hyR3x2⟩) (by exact hS) ?rsR3x2
            case hyR3x2 => (intro uz hSw; (try dsimp only at hSw); go_simp; try with_reducible rfl)
            try simp only [Act.put, List.setIfInBounds_toArray, List.set_cons_zero, List.set_cons_succ]
            refine wpAnyH_take (i := 2) (v := ?vR3x3) rfl (by kernel_rfl) (by kernel_rfl) (by kernel_rfl) (fun _ _ _ h => h) (Or.inl ⟨by rfl, ?hyR3x3⟩) (by exact hS) ?rsR3x3
            case hyR3x3 => (intro uz hSw; (try dsimp only at hSw); go_simp; try with_reducible rfl)
            try simp only [Act.put, List.setIfInBounds_toArray, List.set_cons_zero, List.set_cons_succ]
            refine wpAnyH_take (i := 3) (v := ?vR3x4) rfl (by kernel_rfl) (by kernel_rfl) (by kernel_rfl) (fun _ _ _ h => h) (Or.inl ⟨by rfl, ?hyR3x4⟩) (by exact hS) ?rsR3x4
            case hyR3x4 => (intro uz hSw; (try dsimp only at hSw); have kb := HB.out.q hSw; have k3 := kb.cell 3 rfl; have k4 := kb.cell 4 rfl; clear kb; go_simp; try with_reducible rfl)
            try simp only [Act.put, List.setIfInBounds_toArray, List.set_cons_zero, List.set_cons_succ]
            refine wpAnyH_take (i := 7) (v := ?vR3x5) rfl (by kernel_rfl) (by kernel_rfl) (by kernel_rfl) (fun _ _ _ h => h) (Or.inl ⟨by rfl, ?hyR3x5⟩) (by exact hS) ?rsR3x5
            case hyR3x5 => (intro uz hSw; (try dsimp only at hSw); go_simp; try with_reducible rfl)
            try simp only [Act.put, List.setIfInBounds_toArray, List.set_cons_zero, List.set_cons_succ]
            refine wpAnyH_take (i := 8) (v := ?vR3x6) rfl (by kernel_rfl) (by kernel_rfl) (by kernel_rfl) (fun _ _ _ h => h) (Or.inl ⟨by rfl, ?hyR3x6⟩) (by exact hS) ?rsR3x6
            case hyR3x6 => (intro uz hSw; (try dsimp only at hSw); have kb := HB.out.q hSw; have k3 := kb.cell 3 rfl; have k4 := kb.cell 4 rfl; clear kb; go_simp; try with_reducible rfl)
            try simp only [Act.put, List.setIfInBounds_toArray, List.set_cons_zero, List.set_cons_succ]
            refine wpAnyH_ready (rs := [4]) (by kernel_rfl) (by simp) ?_
            refine (AllReadyH.cons rfl (fun K hK => ?_) AllReadyH.nil)
            go_simp
            refine (HS3.out _ hS).mono ?_
            rintro e yR3x7 ⟨rfl, hq⟩
            try (go_wp2_with fail)
            have hS2 := Q.trans hS hq
            refine hK.out _ _ (by exact hS2) (fun hHeld => ?_)
            clear hK K hHeld hS hq
            have hS := hS2
            clear hS2
            try simp only [Act.put, List.setIfInBounds_toArray, List.set_cons_zero, List.set_cons_succ]
            refine wpAnyH_take (i := 5) (v := ?vR3x8) rfl (by kernel_rfl) (by kernel_rfl) (by kernel_rfl) (fun _ _ _ h => h) (Or.inl ⟨by rfl, ?hyR3x8⟩) (by exact hS) ?rsR3x8
            case hyR3x8 => (intro uz hSw; (try dsimp only at hSw); go_simp; try with_reducible rfl)
            try simp only [Act.put, List.setIfInBounds_toArray, List.set_cons_zero, List.set_cons_succ]
            refine wpAnyH_take (i := 6) (v := ?vR3x9) rfl (by kernel_rfl) (by kernel_rfl) (by kernel_rfl) (fun _ _ _ h => h) (Or.inl ⟨by rfl, ?hyR3x9⟩) (by exact hS) ?rsR3x9
            case hyR3x9 => (intro uz hSw; (try dsimp only at hSw); go_simp; try with_reducible rfl)
            try simp only [Act.put, List.setIfInBounds_toArray, List.set_cons_zero, List.set_cons_succ]
            refine wpAnyH_ready (rs := [9]) (by kernel_rfl) (by simp) ?_
            refine (AllReadyH.cons rfl (fun K hK => ?_) AllReadyH.nil)
            go_simp
            refine (HS4.out _ hS).mono ?_
            rintro e yR3x10 ⟨rfl, hq⟩
            try (go_wp2_with fail)
            have hS2 := Q.trans hS hq
            refine hK.out _ _ (by exact hS2) (fun hHeld => ?_)
            clear hK K hHeld hS hq
            have hS := hS2
            clear hS2
            try simp only [Act.put, List.setIfInBounds_toArray, List.set_cons_zero, List.set_cons_succ]
            refine wpAnyH_take (i := 10) (v := ?vR3x11) rfl (by kernel_rfl) (by kernel_rfl) (by kernel_rfl) (fun _ _ _ h => h) (Or.inl ⟨by rfl, ?hyR3x11⟩) (by exact hS) ?rsR3x11
            case hyR3x11 => (intro uz hSw; (try dsimp only at hSw); go_simp; try with_reducible rfl)
            try simp only [Act.put, List.setIfInBounds_toArray, List.set_cons_zero, List.set_cons_succ]
            refine wpAnyH_take (i := 11) (v := ?vR3x12) rfl (by kernel_rfl) (by kernel_rfl) (by kernel_rfl) (fun _ _ _ h => h) (Or.inl ⟨by rfl, ?hyR3x12⟩) (by exact hS) ?rsR3x12
            case hyR3x12 => (intro uz hSw; (try dsimp only at hSw); go_simp; try with_reducible rfl)
            try simp only [Act.put, List.setIfInBounds_toArray, List.set_cons_zero, List.set_cons_succ]
            refine wpAnyH_done (by kernel_rfl) ?_ _
            go_wp2_with fail
            go_ret
            exact ⟨(congrArg (fun s => Ending.returned (Value.string s)) HF2.out).symm, HQY.out.trans hS⟩
  · rw [show (r : Int) + 1 = (N : Int) by omega]
    have hmax : max z (p + q + 1) = N := by omega
    have HNr := Lib.hid hN
    clear hN
    go_loopw [7, 8] (fun s i u => ∃ (m : Nat) (M : List Int), i = .int .i64 m ∧ m ≤ N ∧ s = .string (sB (sgL x0 ++ M)) ∧ M ++ whl N z p q m = whl N z p q N ∧ M.length + 2 * m ≤ 2 * N ∧ u1 = u) (fun _ i _ => (intOf i).toNat)
    case atStart => exact ⟨N, [], rfl, Nat.le_refl _, by rw [List.append_nil], rfl, by simp, rfl⟩
    case round =>
      obtain ⟨m, M, rfl, hm, rfl, hM, hMl, rfl⟩ := hrel
      have hs20 := sgL_len x0
      by_cases hm0 : 0 < m
      · have hm0i : (0 : Int) < (m : Int) := by omega
        have hm9 : (m : Int) ≤ 9 := by omega
        have hw : whl N z p q m = (if (m : Int) < (N : Int) ∧ ((m : Int) = (p : Int) ∨ ((0 : Int) < (p : Int) ∧ (0 : Int) < (q : Int) ∧ (m : Int) = (p : Int) + (q : Int))) then [44] else []) ++ (if (m : Int) ≤ (z : Int) then 48 else 35) :: whl N z p q (m - 1) := by
          obtain ⟨m', rfl⟩ : ∃ m', m = m' + 1 := ⟨m - 1, by omega⟩
          exact whl_succ _ _ _ _ _
        have hsz := sB_size (sgL x0 ++ M)
        have hsz2 : (sB (sgL x0 ++ M)).size ≤ 200 := by rw [List.length_append] at hsz; omega
        clear hsz
        generalize hSS : sB (sgL x0 ++ M) = SS at *
        by_cases c1 : (m : Int) < (N : Int)
        · by_cases c2 : (m : Int) = (p : Int)
          · by_cases c6 : (m : Int) ≤ (z : Int)
            · have HE := Lib.hid (show sB (sgL x0 ++ (M ++ ([44] ++ [48]))) = SS ++ (⟨#[44]⟩ : ByteArray) ++ ⟨#[48]⟩ by
                rw [← hSS, ← sB_48, ← sB_44]; simp only [sB_app, List.append_assoc])
              have HW := Lib.hid (show M ++ ([44] ++ [48]) ++ whl N z p q (m - 1) = whl N z p q N by
                rw [← hM, hw, if_pos (show ((m : Int) < (N : Int) ∧ ((m : Int) = (p : Int) ∨ ((0 : Int) < (p : Int) ∧ (0 : Int) < (q : Int) ∧ (m : Int) = (p : Int) + (q : Int)))) by omega), if_pos c6]; simp)
              clear hSS hw hM
              obtain rfl : m = p := by omega
              go_wp2_with fail
              exact ⟨⟨m - 1, M ++ ([44] ++ [48]), (by rw [show ((m - 1 : Nat) : Int) = (m : Int) - 1 by omega]), by omega, (by rw [HE.out]), HW.out, by simp; omega, (by first | trivial | rfl)⟩, by simp [intOf]; omega⟩
            · have HE := Lib.hid (show sB (sgL x0 ++ (M ++ ([44] ++ [35]))) = SS ++ (⟨#[44]⟩ : ByteArray) ++ ⟨#[35]⟩ by
                rw [← hSS, ← sB_35, ← sB_44]; simp only [sB_app, List.append_assoc])
              have HW := Lib.hid (show M ++ ([44] ++ [35]) ++ whl N z p q (m - 1) = whl N z p q N by
                rw [← hM, hw, if_pos (show ((m : Int) < (N : Int) ∧ ((m : Int) = (p : Int) ∨ ((0 : Int) < (p : Int) ∧ (0 : Int) < (q : Int) ∧ (m : Int) = (p : Int) + (q : Int)))) by omega), if_neg c6]; simp)
              clear hSS hw hM
              obtain rfl : m = p := by omega
              go_wp2_with fail
              exact ⟨⟨m - 1, M ++ ([44] ++ [35]), (by rw [show ((m - 1 : Nat) : Int) = (m : Int) - 1 by omega]), by omega, (by rw [HE.out]), HW.out, by simp; omega, (by first | trivial | rfl)⟩, by simp [intOf]; omega⟩
          · by_cases c3 : (0 : Int) < (p : Int)
            · by_cases c4 : (0 : Int) < (q : Int)
              · by_cases c5 : (m : Int) = (r : Int)
                · by_cases c6 : (m : Int) ≤ (z : Int)
                  · have HE := Lib.hid (show sB (sgL x0 ++ (M ++ ([44] ++ [48]))) = SS ++ (⟨#[44]⟩ : ByteArray) ++ ⟨#[48]⟩ by
                      rw [← hSS, ← sB_48, ← sB_44]; simp only [sB_app, List.append_assoc])
                    have HW := Lib.hid (show M ++ ([44] ++ [48]) ++ whl N z p q (m - 1) = whl N z p q N by
                      rw [← hM, hw, if_pos (show ((m : Int) < (N : Int) ∧ ((m : Int) = (p : Int) ∨ ((0 : Int) < (p : Int) ∧ (0 : Int) < (q : Int) ∧ (m : Int) = (p : Int) + (q : Int)))) by omega), if_pos c6]; simp)
                    clear hSS hw hM
                    have c2b : ((m : Int) == (p : Int)) = false := by simpa using c2
                    obtain rfl : m = r := by omega
                    go_wp2_with fail
                    exact ⟨⟨m - 1, M ++ ([44] ++ [48]), (by rw [show ((m - 1 : Nat) : Int) = (m : Int) - 1 by omega]), by omega, (by rw [HE.out]), HW.out, by simp; omega, (by first | trivial | rfl)⟩, by simp [intOf]; omega⟩
                  · have HE := Lib.hid (show sB (sgL x0 ++ (M ++ ([44] ++ [35]))) = SS ++ (⟨#[44]⟩ : ByteArray) ++ ⟨#[35]⟩ by
                      rw [← hSS, ← sB_35, ← sB_44]; simp only [sB_app, List.append_assoc])
                    have HW := Lib.hid (show M ++ ([44] ++ [35]) ++ whl N z p q (m - 1) = whl N z p q N by
                      rw [← hM, hw, if_pos (show ((m : Int) < (N : Int) ∧ ((m : Int) = (p : Int) ∨ ((0 : Int) < (p : Int) ∧ (0 : Int) < (q : Int) ∧ (m : Int) = (p : Int) + (q : Int)))) by omega), if_neg c6]; simp)
                    clear hSS hw hM
                    have c2b : ((m : Int) == (p : Int)) = false := by simpa using c2
                    obtain rfl : m = r := by omega
                    go_wp2_with fail
                    exact ⟨⟨m - 1, M ++ ([44] ++ [35]), (by rw [show ((m - 1 : Nat) : Int) = (m : Int) - 1 by omega]), by omega, (by rw [HE.out]), HW.out, by simp; omega, (by first | trivial | rfl)⟩, by simp [intOf]; omega⟩
                · by_cases c6 : (m : Int) ≤ (z : Int)
                  · have HE := Lib.hid (show sB (sgL x0 ++ (M ++ ([48]))) = SS ++ ⟨#[48]⟩ by
                      rw [← hSS, ← sB_48]; simp only [sB_app, List.append_assoc])
                    have HW := Lib.hid (show M ++ ([48]) ++ whl N z p q (m - 1) = whl N z p q N by
                      rw [← hM, hw, if_neg (show ¬ ((m : Int) < (N : Int) ∧ ((m : Int) = (p : Int) ∨ ((0 : Int) < (p : Int) ∧ (0 : Int) < (q : Int) ∧ (m : Int) = (p : Int) + (q : Int)))) by omega), if_pos c6]; simp)
                    clear hSS hw hM
                    have c2b : ((m : Int) == (p : Int)) = false := by simpa using c2
                    have c5b : ((m : Int) == (r : Int)) = false := by simpa using c5
                    go_wp2_with fail
                    exact ⟨⟨m - 1, M ++ ([48]), (by rw [show ((m - 1 : Nat) : Int) = (m : Int) - 1 by omega]), by omega, (by rw [HE.out]), HW.out, by simp; omega, (by first | trivial | rfl)⟩, by simp [intOf]; omega⟩
                  · have HE := Lib.hid (show sB (sgL x0 ++ (M ++ ([35]))) = SS ++ ⟨#[35]⟩ by
                      rw [← hSS, ← sB_35]; simp only [sB_app, List.append_assoc])
                    have HW := Lib.hid (show M ++ ([35]) ++ whl N z p q (m - 1) = whl N z p q N by
                      rw [← hM, hw, if_neg (show ¬ ((m : Int) < (N : Int) ∧ ((m : Int) = (p : Int) ∨ ((0 : Int) < (p : Int) ∧ (0 : Int) < (q : Int) ∧ (m : Int) = (p : Int) + (q : Int)))) by omega), if_neg c6]; simp)
                    clear hSS hw hM
                    have c2b : ((m : Int) == (p : Int)) = false := by simpa using c2
                    have c5b : ((m : Int) == (r : Int)) = false := by simpa using c5
                    go_wp2_with fail
                    exact ⟨⟨m - 1, M ++ ([35]), (by rw [show ((m - 1 : Nat) : Int) = (m : Int) - 1 by omega]), by omega, (by rw [HE.out]), HW.out, by simp; omega, (by first | trivial | rfl)⟩, by simp [intOf]; omega⟩
              · by_cases c6 : (m : Int) ≤ (z : Int)
                · have HE := Lib.hid (show sB (sgL x0 ++ (M ++ ([48]))) = SS ++ ⟨#[48]⟩ by
                    rw [← hSS, ← sB_48]; simp only [sB_app, List.append_assoc])
                  have HW := Lib.hid (show M ++ ([48]) ++ whl N z p q (m - 1) = whl N z p q N by
                    rw [← hM, hw, if_neg (show ¬ ((m : Int) < (N : Int) ∧ ((m : Int) = (p : Int) ∨ ((0 : Int) < (p : Int) ∧ (0 : Int) < (q : Int) ∧ (m : Int) = (p : Int) + (q : Int)))) by omega), if_pos c6]; simp)
                  clear hSS hw hM
                  have c2b : ((m : Int) == (p : Int)) = false := by simpa using c2
                  go_wp2_with fail
                  exact ⟨⟨m - 1, M ++ ([48]), (by rw [show ((m - 1 : Nat) : Int) = (m : Int) - 1 by omega]), by omega, (by rw [HE.out]), HW.out, by simp; omega, (by first | trivial | rfl)⟩, by simp [intOf]; omega⟩
                · have HE := Lib.hid (show sB (sgL x0 ++ (M ++ ([35]))) = SS ++ ⟨#[35]⟩ by
                    rw [← hSS, ← sB_35]; simp only [sB_app, List.append_assoc])
                  have HW := Lib.hid (show M ++ ([35]) ++ whl N z p q (m - 1) = whl N z p q N by
                    rw [← hM, hw, if_neg (show ¬ ((m : Int) < (N : Int) ∧ ((m : Int) = (p : Int) ∨ ((0 : Int) < (p : Int) ∧ (0 : Int) < (q : Int) ∧ (m : Int) = (p : Int) + (q : Int)))) by omega), if_neg c6]; simp)
                  clear hSS hw hM
                  have c2b : ((m : Int) == (p : Int)) = false := by simpa using c2
                  go_wp2_with fail
                  exact ⟨⟨m - 1, M ++ ([35]), (by rw [show ((m - 1 : Nat) : Int) = (m : Int) - 1 by omega]), by omega, (by rw [HE.out]), HW.out, by simp; omega, (by first | trivial | rfl)⟩, by simp [intOf]; omega⟩
            · by_cases c6 : (m : Int) ≤ (z : Int)
              · have HE := Lib.hid (show sB (sgL x0 ++ (M ++ ([48]))) = SS ++ ⟨#[48]⟩ by
                  rw [← hSS, ← sB_48]; simp only [sB_app, List.append_assoc])
                have HW := Lib.hid (show M ++ ([48]) ++ whl N z p q (m - 1) = whl N z p q N by
                  rw [← hM, hw, if_neg (show ¬ ((m : Int) < (N : Int) ∧ ((m : Int) = (p : Int) ∨ ((0 : Int) < (p : Int) ∧ (0 : Int) < (q : Int) ∧ (m : Int) = (p : Int) + (q : Int)))) by omega), if_pos c6]; simp)
                clear hSS hw hM
                have c2b : ((m : Int) == (p : Int)) = false := by simpa using c2
                go_wp2_with fail
                exact ⟨⟨m - 1, M ++ ([48]), (by rw [show ((m - 1 : Nat) : Int) = (m : Int) - 1 by omega]), by omega, (by rw [HE.out]), HW.out, by simp; omega, (by first | trivial | rfl)⟩, by simp [intOf]; omega⟩
              · have HE := Lib.hid (show sB (sgL x0 ++ (M ++ ([35]))) = SS ++ ⟨#[35]⟩ by
                  rw [← hSS, ← sB_35]; simp only [sB_app, List.append_assoc])
                have HW := Lib.hid (show M ++ ([35]) ++ whl N z p q (m - 1) = whl N z p q N by
                  rw [← hM, hw, if_neg (show ¬ ((m : Int) < (N : Int) ∧ ((m : Int) = (p : Int) ∨ ((0 : Int) < (p : Int) ∧ (0 : Int) < (q : Int) ∧ (m : Int) = (p : Int) + (q : Int)))) by omega), if_neg c6]; simp)
                clear hSS hw hM
                have c2b : ((m : Int) == (p : Int)) = false := by simpa using c2
                go_wp2_with fail
                exact ⟨⟨m - 1, M ++ ([35]), (by rw [show ((m - 1 : Nat) : Int) = (m : Int) - 1 by omega]), by omega, (by rw [HE.out]), HW.out, by simp; omega, (by first | trivial | rfl)⟩, by simp [intOf]; omega⟩
        · by_cases c6 : (m : Int) ≤ (z : Int)
          · have hN2 := HNr.out
            exfalso
            omega
          · have HE := Lib.hid (show sB (sgL x0 ++ (M ++ ([35]))) = SS ++ ⟨#[35]⟩ by
              rw [← hSS, ← sB_35]; simp only [sB_app, List.append_assoc])
            have HW := Lib.hid (show M ++ ([35]) ++ whl N z p q (m - 1) = whl N z p q N by
              rw [← hM, hw, if_neg (show ¬ ((m : Int) < (N : Int) ∧ ((m : Int) = (p : Int) ∨ ((0 : Int) < (p : Int) ∧ (0 : Int) < (q : Int) ∧ (m : Int) = (p : Int) + (q : Int)))) by omega), if_neg c6]; simp)
            clear hSS hw hM
            go_wp2_with fail
            exact ⟨⟨m - 1, M ++ ([35]), (by rw [show ((m - 1 : Nat) : Int) = (m : Int) - 1 by omega]), by omega, (by rw [HE.out]), HW.out, by simp; omega, (by first | trivial | rfl)⟩, by simp [intOf]; omega⟩
      · have hmz : m = 0 := by omega
        subst hmz
        have hno : ¬ (0 : Int) < ((0 : Nat) : Int) := by omega
        have hMe : M = whl N z p q N := by rw [← hM]; simp [whl]
        have hsz := sB_size (sgL x0 ++ M)
        have hsz2 : (sB (sgL x0 ++ M)).size ≤ 200 := by rw [List.length_append] at hsz; omega
        have hsz3 := sB_size (sgL x1)
        have hsz4 := sB_size (sgL x3)
        have hsz5 := sB_size (sgL x4)
        have hl1 := sgL_len x1
        have hl3 := sgL_len x3
        have hl4 := sgL_len x4
        have hz1 : (sB (sgL x1)).size ≤ 80 := by omega
        have hz3 : (sB (sgL x3)).size ≤ 80 := by omega
        have hz4 : (sB (sgL x4)).size ≤ 80 := by omega
        clear hsz hsz3 hsz4 hsz5 hl1 hl3 hl4 hs20
        have k8 := (HB.out.q HQ1.out).cell 8 rfl
        have k9 := (HB.out.q HQ1.out).cell 9 rfl
        have k1 := (HB.out.q HQ1.out).cell 1 rfl
        have hnm : nmT z p q a b = M ++ (if 0 < a + b then 46 :: ([48, 48, 48].take a ++ [35, 35, 35].take b) else []) := by
          rw [hMe]; unfold nmT; rw [hmax]
        by_cases hab : 0 < a + b
        · have habi : (0 : Int) < (a : Int) + (b : Int) := by omega
          have hai : (a : Int) ≤ 3 := by omega
          have hbi : (b : Int) ≤ 3 := by omega
          have hz5 := sB_size ([48, 48, 48].take a)
          have hz6 := sB_size ([35, 35, 35].take b)
          have hz7 : (sB ([48, 48, 48].take a)).size ≤ 12 := by have : ([48, 48, 48].take a : List Int).length ≤ 3 := List.length_take_le' _ _; omega
          have hz8 : (sB ([35, 35, 35].take b)).size ≤ 12 := by have : ([35, 35, 35].take b : List Int).length ≤ 3 := List.length_take_le' _ _; omega
          rw [if_pos hab] at hnm
          have HF := Lib.hid (show sB (hfT x0 x1 z p q a b ++ twoT false x3 x4) = sB (sgL x0 ++ M) ++ ⟨#[46]⟩ ++ sB ([48, 48, 48].take a) ++ sB ([35, 35, 35].take b) ++ sB (sgL x1) by
            unfold hfT twoT; rw [hnm, ← sB_46]; simp [sB_app])
          have HF2 := Lib.hid (show sB (hfT x0 x1 z p q a b ++ twoT true x3 x4) = sB (sgL x0 ++ M) ++ ⟨#[46]⟩ ++ sB ([48, 48, 48].take a) ++ sB ([35, 35, 35].take b) ++ sB (sgL x1) ++ ⟨#[59]⟩ ++ sB (sgL x3) ++ ⟨#[48]⟩ ++ sB (sgL x4) by
            unfold hfT twoT; rw [hnm, ← sB_46, ← sB_59, ← sB_48]; simp [sB_app])
          have hca := cut48 a ha4
          have hcb := cut35 b hb4
          have sca : (⟨#[48, 48, 48]⟩ : ByteArray).size = 3 := rfl
          have scb : (⟨#[35, 35, 35]⟩ : ByteArray).size = 3 := rfl
          generalize sB (sgL x0 ++ M) = SS at *
          clear hz5 hz6 hnm hMe hM hMl
          have hc1 : ¬ 9223372036854775807 < SS.size + 1 := by omega
          have hc2 : ¬ 9223372036854775807 < SS.size + 1 + (sB ([48, 48, 48].take a)).size := by omega
          have hc3 : ¬ 9223372036854775807 < SS.size + 1 + (sB ([48, 48, 48].take a)).size + (sB ([35, 35, 35].take b)).size := by omega
          go_wp2_with fail
          refine (H8.out _).mono ?_
          rintro e u ⟨rfl, rfl⟩
          go_wp2_with fail
          refine (H9.out _).mono ?_
          rintro e u ⟨rfl, rfl⟩
          go_upto_region 17 with fail
          clear k8 k9 k1
          refine wp_region_held_drew (S := fun u => Q y u) (by kernel_rfl) (by exact HQ1.out.drew) (fun hHeld => ?_)
          have hS : Q y u1.drew := hHeld
          clear hHeld
          have hq : Q u1 u1.drew := (Q.refl _).drew
          clear hq
          generalize u1.drew = yR5x0 at *
          refine wpAnyH_take (i := 0) (v := ?vR5x1) rfl (by kernel_rfl) (by kernel_rfl) (by kernel_rfl) (fun _ _ _ h => h) (Or.inl ⟨by rfl, ?hyR5x1⟩) (by exact hS) ?rsR5x1
          case hyR5x1 => (intro uz hSw; (try dsimp only at hSw); go_simp; try with_reducible rfl)
          try simp only [Act.put, List.setIfInBounds_toArray, List.set_cons_zero, List.set_cons_succ]
          refine wpAnyH_take (i := 1) (v := ?vR5x2) rfl (by kernel_rfl) (by kernel_rfl) (by kernel_rfl) (fun _ _ _ h => h) (Or.inl ⟨by rfl, ?hyR5x2⟩) (by exact hS) ?rsR5x2
          case hyR5x2 => (intro uz hSw; (try dsimp only at hSw); go_simp; try with_reducible rfl)
          try simp only [Act.put, List.setIfInBounds_toArray, List.set_cons_zero, List.set_cons_succ]
          refine wpAnyH_take (i := 2) (v := ?vR5x3) rfl (by kernel_rfl) (by kernel_rfl) (by kernel_rfl) (fun _ _ _ h => h) (Or.inl ⟨by rfl, ?hyR5x3⟩) (by exact hS) ?rsR5x3
          case hyR5x3 => (intro uz hSw; (try dsimp only at hSw); go_simp; try with_reducible rfl)
          try simp only [Act.put, List.setIfInBounds_toArray, List.set_cons_zero, List.set_cons_succ]
          refine wpAnyH_take (i := 3) (v := ?vR5x4) rfl (by kernel_rfl) (by kernel_rfl) (by kernel_rfl) (fun _ _ _ h => h) (Or.inl ⟨by rfl, ?hyR5x4⟩) (by exact hS) ?rsR5x4
          case hyR5x4 => (intro uz hSw; (try dsimp only at hSw); go_simp; try with_reducible rfl)
          try simp only [Act.put, List.setIfInBounds_toArray, List.set_cons_zero, List.set_cons_succ]
          refine wpAnyH_take (i := 4) (v := ?vR5x5) rfl (by kernel_rfl) (by kernel_rfl) (by kernel_rfl) (fun _ _ _ h => h) (Or.inl ⟨by rfl, ?hyR5x5⟩) (by exact hS) ?rsR5x5
          case hyR5x5 => (intro uz hSw; (try dsimp only at hSw); go_simp; try with_reducible rfl)
          try simp only [Act.put, List.setIfInBounds_toArray, List.set_cons_zero, List.set_cons_succ]
          refine wpAnyH_take (i := 5) (v := ?vR5x6) rfl (by kernel_rfl) (by kernel_rfl) (by kernel_rfl) (fun _ _ _ h => h) (Or.inl ⟨by rfl, ?hyR5x6⟩) (by exact hS) ?rsR5x6
          case hyR5x6 => (intro uz hSw; (try dsimp only at hSw); go_simp; try with_reducible rfl)
          try simp only [Act.put, List.setIfInBounds_toArray, List.set_cons_zero, List.set_cons_succ]
          refine wpAnyH_take (i := 6) (v := ?vR5x7) rfl (by kernel_rfl) (by kernel_rfl) (by kernel_rfl) (fun _ _ _ h => h) (Or.inl ⟨by rfl, ?hyR5x7⟩) (by exact hS) ?rsR5x7
          case hyR5x7 => (intro uz hSw; (try dsimp only at hSw); go_simp; try with_reducible rfl)
          try simp only [Act.put, List.setIfInBounds_toArray, List.set_cons_zero, List.set_cons_succ]
          refine wpAnyH_take (i := 7) (v := ?vR5x8) rfl (by kernel_rfl) (by kernel_rfl) (by kernel_rfl) (fun _ _ _ h => h) (Or.inl ⟨by rfl, ?hyR5x8⟩) (by exact hS) ?rsR5x8
          case hyR5x8 => (intro uz hSw; (try dsimp only at hSw); go_simp; try with_reducible rfl)
          try simp only [Act.put, List.setIfInBounds_toArray, List.set_cons_zero, List.set_cons_succ]
          refine wpAnyH_take (i := 8) (v := ?vR5x9) rfl (by kernel_rfl) (by kernel_rfl) (by kernel_rfl) (fun _ _ _ h => h) (Or.inl ⟨by rfl, ?hyR5x9⟩) (by exact hS) ?rsR5x9
          case hyR5x9 => (intro uz hSw; (try dsimp only at hSw); go_simp; try with_reducible rfl)
          try simp only [Act.put, List.setIfInBounds_toArray, List.set_cons_zero, List.set_cons_succ]
          refine wpAnyH_done (by kernel_rfl) ?_ _
          have k1 := (HB.out.q hS).cell 1 rfl
          have HQU := Lib.hid hS
          clear hS
          go_wp2_with fail
          refine (HS1.out _ HQU.out).mono ?_
          rintro e u3 ⟨rfl, hq3⟩
          have hv : (SS ++ (⟨#[46]⟩ : ByteArray) ++ sB ([48, 48, 48].take a) ++ sB ([35, 35, 35].take b)).size ≤ 300 := by simp only [ByteArray.size_append, show (⟨#[46]⟩ : ByteArray).size = 1 from rfl]; omega
          generalize SS ++ (⟨#[46]⟩ : ByteArray) ++ sB ([48, 48, 48].take a) ++ sB ([35, 35, 35].take b) = V at *
          have hd1 : ¬ 9223372036854775807 < V.size + (sB (sgL x1)).size := by omega
          have HQ3 := Lib.hid (HQU.out.trans hq3)
          have k2 := (HB.out.q HQ3.out).cell 2 rfl
          clear hq3
          cases two with
          | false =>
            go_wp2_with fail
            clear k2
            go_ret
            exact ⟨(congrArg (fun s => Ending.returned (Value.string s)) HF.out).symm, HQY.out.trans HQ3.out⟩
          | true =>
            have hv2 : (V ++ sB (sgL x1)).size ≤ 400 := by rw [ByteArray.size_append]; omega
            go_upto_region 20 with fail
            clear k2 hd1
            generalize V ++ sB (sgL x1) = V2 at *
            have hd1 : ¬ 9223372036854775807 < V2.size + 1 := by omega
            have hd2 : ¬ 9223372036854775807 < V2.size + 1 + (sB (sgL x3)).size := by omega
            have hd3 : ¬ 9223372036854775807 < V2.size + 1 + (sB (sgL x3)).size + 1 := by omega
            have hd4 : ¬ 9223372036854775807 < V2.size + 1 + (sB (sgL x3)).size + 1 + (sB (sgL x4)).size := by omega
            refine wp_region_held_drew (S := fun u => Q y u) (by kernel_rfl) (by exact HQ3.out.drew) (fun hHeld => ?_)
            have hS : Q y u3.drew := hHeld
            clear hHeld
            have hq : Q u3 u3.drew := (Q.refl _).drew
            clear hq
            generalize u3.drew = yR4x0 at *
            refine wpAnyH_take (i := 0) (v := ?vR4x1) rfl (by kernel_rfl) (by kernel_rfl) (by kernel_rfl) (fun _ _ _ h => h) (Or.inl ⟨by rfl, ?hyR4x1⟩) (by exact hS) ?rsR4x1
            case hyR4x1 => (intro uz hSw; (try dsimp only at hSw); go_simp; try with_reducible rfl)
            try simp only [Act.put, List.setIfInBounds_toArray, List.set_cons_zero, List.set_cons_succ]
            refine wpAnyH_take (i := 1) (v := ?vR4x2) rfl (by kernel_rfl) (by kernel_rfl) (by kernel_rfl) (fun _ _ _ h => h) (Or.inl ⟨by rfl, ?hyR4x2⟩) (by exact hS) ?rsR4x2
            case hyR4x2 => (intro uz hSw; (try dsimp only at hSw); go_simp; try with_reducible rfl)
            try simp only [Act.put, List.setIfInBounds_toArray, List.set_cons_zero, List.set_cons_succ]
            refine wpAnyH_take (i := 2) (v := ?vR4x3) rfl (by kernel_rfl) (by kernel_rfl) (by kernel_rfl) (fun _ _ _ h => h) (Or.inl ⟨by rfl, ?hyR4x3⟩) (by exact hS) ?rsR4x3
            case hyR4x3 => (intro uz hSw; (try dsimp only at hSw); go_simp; try with_reducible rfl)
            try simp only [Act.put, List.setIfInBounds_toArray, List.set_cons_zero, List.set_cons_succ]
            refine wpAnyH_take (i := 3) (v := ?vR4x4) rfl (by kernel_rfl) (by kernel_rfl) (by kernel_rfl) (fun _ _ _ h => h) (Or.inl ⟨by rfl, ?hyR4x4⟩) (by exact hS) ?rsR4x4
            case hyR4x4 => (intro uz hSw; (try dsimp only at hSw); have kb := HB.out.q hSw; have k3 := kb.cell 3 rfl; have k4 := kb.cell 4 rfl; clear kb; go_simp; try with_reducible rfl)
            try simp only [Act.put, List.setIfInBounds_toArray, List.set_cons_zero, List.set_cons_succ]
            refine wpAnyH_take (i := 7) (v := ?vR4x5) rfl (by kernel_rfl) (by kernel_rfl) (by kernel_rfl) (fun _ _ _ h => h) (Or.inl ⟨by rfl, ?hyR4x5⟩) (by exact hS) ?rsR4x5
            case hyR4x5 => (intro uz hSw; (try dsimp only at hSw); go_simp; try with_reducible rfl)
            try simp only [Act.put, List.setIfInBounds_toArray, List.set_cons_zero, List.set_cons_succ]
            refine wpAnyH_take (i := 8) (v := ?vR4x6) rfl (by kernel_rfl) (by kernel_rfl) (by kernel_rfl) (fun _ _ _ h => h) (Or.inl ⟨by rfl, ?hyR4x6⟩) (by exact hS) ?rsR4x6
            case hyR4x6 => (intro uz hSw; (try dsimp only at hSw); have kb := HB.out.q hSw; have k3 := kb.cell 3 rfl; have k4 := kb.cell 4 rfl; clear kb; go_simp; try with_reducible rfl)
            try simp only [Act.put, List.setIfInBounds_toArray, List.set_cons_zero, List.set_cons_succ]
            refine wpAnyH_ready (rs := [4]) (by kernel_rfl) (by simp) ?_
            refine (AllReadyH.cons rfl (fun K hK => ?_) AllReadyH.nil)
            go_simp
            refine (HS3.out _ hS).mono ?_
            rintro e yR4x7 ⟨rfl, hq⟩
            try (go_wp2_with fail)
            have hS2 := Q.trans hS hq
            refine hK.out _ _ (by exact hS2) (fun hHeld => ?_)
            clear hK K hHeld hS hq
            have hS := hS2
            clear hS2
            try simp only [Act.put, List.setIfInBounds_toArray, List.set_cons_zero, List.set_cons_succ]
            refine wpAnyH_take (i := 5) (v := ?vR4x8) rfl (by kernel_rfl) (by kernel_rfl) (by kernel_rfl) (fun _ _ _ h => h) (Or.inl ⟨by rfl, ?hyR4x8⟩) (by exact hS) ?rsR4x8
            case hyR4x8 => (intro uz hSw; (try dsimp only at hSw); go_simp; try with_reducible rfl)
            try simp only [Act.put, List.setIfInBounds_toArray, List.set_cons_zero, List.set_cons_succ]
            refine wpAnyH_take (i := 6) (v := ?vR4x9) rfl (by kernel_rfl) (by kernel_rfl) (by kernel_rfl) (fun _ _ _ h => h) (Or.inl ⟨by rfl, ?hyR4x9⟩) (by exact hS) ?rsR4x9
            case hyR4x9 => (intro uz hSw; (try dsimp only at hSw); go_simp; try with_reducible rfl)
            try simp only [Act.put, List.setIfInBounds_toArray, List.set_cons_zero, List.set_cons_succ]
            refine wpAnyH_ready (rs := [9]) (by kernel_rfl) (by simp) ?_
            refine (AllReadyH.cons rfl (fun K hK => ?_) AllReadyH.nil)
            go_simp
            refine (HS4.out _ hS).mono ?_
            rintro e yR4x10 ⟨rfl, hq⟩
            try (go_wp2_with fail)
            have hS2 := Q.trans hS hq
            refine hK.out _ _ (by exact hS2) (fun hHeld => ?_)
            clear hK K hHeld hS hq
            have hS := hS2
            clear hS2
            try simp only [Act.put, List.setIfInBounds_toArray, List.set_cons_zero, List.set_cons_succ]
            refine wpAnyH_take (i := 10) (v := ?vR4x11) rfl (by kernel_rfl) (by kernel_rfl) (by kernel_rfl) (fun _ _ _ h => h) (Or.inl ⟨by rfl, ?hyR4x11⟩) (by exact hS) ?rsR4x11
            case hyR4x11 => (intro uz hSw; (try dsimp only at hSw); go_simp; try with_reducible rfl)
            try simp only [Act.put, List.setIfInBounds_toArray, List.set_cons_zero, List.set_cons_succ]
            refine wpAnyH_take (i := 11) (v := ?vR4x12) rfl (by kernel_rfl) (by kernel_rfl) (by kernel_rfl) (fun _ _ _ h => h) (Or.inl ⟨by rfl, ?hyR4x12⟩) (by exact hS) ?rsR4x12
            case hyR4x12 => (intro uz hSw; (try dsimp only at hSw); go_simp; try with_reducible rfl)
            try simp only [Act.put, List.setIfInBounds_toArray, List.set_cons_zero, List.set_cons_succ]
            refine wpAnyH_done (by kernel_rfl) ?_ _
            go_wp2_with fail
            go_ret
            exact ⟨(congrArg (fun s => Ending.returned (Value.string s)) HF2.out).symm, HQY.out.trans hS⟩
        · have habi : ¬ (0 : Int) < (a : Int) + (b : Int) := by omega
          rw [if_neg hab, List.append_nil] at hnm
          have HF := Lib.hid (show sB (hfT x0 x1 z p q a b ++ twoT false x3 x4) = sB (sgL x0 ++ M) ++ sB (sgL x1) by
            unfold hfT twoT; rw [hnm]; simp [sB_app])
          have HF2 := Lib.hid (show sB (hfT x0 x1 z p q a b ++ twoT true x3 x4) = sB (sgL x0 ++ M) ++ sB (sgL x1) ++ ⟨#[59]⟩ ++ sB (sgL x3) ++ ⟨#[48]⟩ ++ sB (sgL x4) by
            unfold hfT twoT; rw [hnm, ← sB_59, ← sB_48]; simp [sB_app])
          generalize sB (sgL x0 ++ M) = SS at *
          have HQU := HQ1
          clear hnm hMe hM hMl
          go_wp2_with fail
          refine (H8.out _).mono ?_
          rintro e u ⟨rfl, rfl⟩
          go_wp2_with fail
          refine (H9.out _).mono ?_
          rintro e u ⟨rfl, rfl⟩
          go_wp2_with fail
          refine (HS1.out _ HQU.out).mono ?_
          rintro e u3 ⟨rfl, hq3⟩
          have hv : SS.size ≤ 300 := by omega
          generalize SS = V at *
          have hd1 : ¬ 9223372036854775807 < V.size + (sB (sgL x1)).size := by omega
          have HQ3 := Lib.hid (HQU.out.trans hq3)
          have k2 := (HB.out.q HQ3.out).cell 2 rfl
          clear hq3
          cases two with
          | false =>
            go_wp2_with fail
            clear k2
            go_ret
            exact ⟨(congrArg (fun s => Ending.returned (Value.string s)) HF.out).symm, HQY.out.trans HQ3.out⟩
          | true =>
            have hv2 : (V ++ sB (sgL x1)).size ≤ 400 := by rw [ByteArray.size_append]; omega
            go_upto_region 20 with fail
            clear k2 hd1
            generalize V ++ sB (sgL x1) = V2 at *
            have hd1 : ¬ 9223372036854775807 < V2.size + 1 := by omega
            have hd2 : ¬ 9223372036854775807 < V2.size + 1 + (sB (sgL x3)).size := by omega
            have hd3 : ¬ 9223372036854775807 < V2.size + 1 + (sB (sgL x3)).size + 1 := by omega
            have hd4 : ¬ 9223372036854775807 < V2.size + 1 + (sB (sgL x3)).size + 1 + (sB (sgL x4)).size := by omega
            refine wp_region_held_drew (S := fun u => Q y u) (by kernel_rfl) (by exact HQ3.out.drew) (fun hHeld => ?_)
            have hS : Q y u3.drew := hHeld
            clear hHeld
            have hq : Q u3 u3.drew := (Q.refl _).drew
            clear hq
            generalize u3.drew = yR6x0 at *
            refine wpAnyH_take (i := 0) (v := ?vR6x1) rfl (by kernel_rfl) (by kernel_rfl) (by kernel_rfl) (fun _ _ _ h => h) (Or.inl ⟨by rfl, ?hyR6x1⟩) (by exact hS) ?rsR6x1
            case hyR6x1 => (intro uz hSw; (try dsimp only at hSw); go_simp; try with_reducible rfl)
            try simp only [Act.put, List.setIfInBounds_toArray, List.set_cons_zero, List.set_cons_succ]
            refine wpAnyH_take (i := 1) (v := ?vR6x2) rfl (by kernel_rfl) (by kernel_rfl) (by kernel_rfl) (fun _ _ _ h => h) (Or.inl ⟨by rfl, ?hyR6x2⟩) (by exact hS) ?rsR6x2
            case hyR6x2 => (intro uz hSw; (try dsimp only at hSw); go_simp; try with_reducible rfl)
            try simp only [Act.put, List.setIfInBounds_toArray, List.set_cons_zero, List.set_cons_succ]
            refine wpAnyH_take (i := 2) (v := ?vR6x3) rfl (by kernel_rfl) (by kernel_rfl) (by kernel_rfl) (fun _ _ _ h => h) (Or.inl ⟨by rfl, ?hyR6x3⟩) (by exact hS) ?rsR6x3
            case hyR6x3 => (intro uz hSw; (try dsimp only at hSw); go_simp; try with_reducible rfl)
            try simp only [Act.put, List.setIfInBounds_toArray, List.set_cons_zero, List.set_cons_succ]
            refine wpAnyH_take (i := 3) (v := ?vR6x4) rfl (by kernel_rfl) (by kernel_rfl) (by kernel_rfl) (fun _ _ _ h => h) (Or.inl ⟨by rfl, ?hyR6x4⟩) (by exact hS) ?rsR6x4
            case hyR6x4 => (intro uz hSw; (try dsimp only at hSw); have kb := HB.out.q hSw; have k3 := kb.cell 3 rfl; have k4 := kb.cell 4 rfl; clear kb; go_simp; try with_reducible rfl)
            try simp only [Act.put, List.setIfInBounds_toArray, List.set_cons_zero, List.set_cons_succ]
            refine wpAnyH_take (i := 7) (v := ?vR6x5) rfl (by kernel_rfl) (by kernel_rfl) (by kernel_rfl) (fun _ _ _ h => h) (Or.inl ⟨by rfl, ?hyR6x5⟩) (by exact hS) ?rsR6x5
            case hyR6x5 => (intro uz hSw; (try dsimp only at hSw); go_simp; try with_reducible rfl)
            try simp only [Act.put, List.setIfInBounds_toArray, List.set_cons_zero, List.set_cons_succ]
            refine wpAnyH_take (i := 8) (v := ?vR6x6) rfl (by kernel_rfl) (by kernel_rfl) (by kernel_rfl) (fun _ _ _ h => h) (Or.inl ⟨by rfl, ?hyR6x6⟩) (by exact hS) ?rsR6x6
            case hyR6x6 => (intro uz hSw; (try dsimp only at hSw); have kb := HB.out.q hSw; have k3 := kb.cell 3 rfl; have k4 := kb.cell 4 rfl; clear kb; go_simp; try with_reducible rfl)
            try simp only [Act.put, List.setIfInBounds_toArray, List.set_cons_zero, List.set_cons_succ]
            refine wpAnyH_ready (rs := [4]) (by kernel_rfl) (by simp) ?_
            refine (AllReadyH.cons rfl (fun K hK => ?_) AllReadyH.nil)
            go_simp
            refine (HS3.out _ hS).mono ?_
            rintro e yR6x7 ⟨rfl, hq⟩
            try (go_wp2_with fail)
            have hS2 := Q.trans hS hq
            refine hK.out _ _ (by exact hS2) (fun hHeld => ?_)
            clear hK K hHeld hS hq
            have hS := hS2
            clear hS2
            try simp only [Act.put, List.setIfInBounds_toArray, List.set_cons_zero, List.set_cons_succ]
            refine wpAnyH_take (i := 5) (v := ?vR6x8) rfl (by kernel_rfl) (by kernel_rfl) (by kernel_rfl) (fun _ _ _ h => h) (Or.inl ⟨by rfl, ?hyR6x8⟩) (by exact hS) ?rsR6x8
            case hyR6x8 => (intro uz hSw; (try dsimp only at hSw); go_simp; try with_reducible rfl)
            try simp only [Act.put, List.setIfInBounds_toArray, List.set_cons_zero, List.set_cons_succ]
            refine wpAnyH_take (i := 6) (v := ?vR6x9) rfl (by kernel_rfl) (by kernel_rfl) (by kernel_rfl) (fun _ _ _ h => h) (Or.inl ⟨by rfl, ?hyR6x9⟩) (by exact hS) ?rsR6x9
            case hyR6x9 => (intro uz hSw; (try dsimp only at hSw); go_simp; try with_reducible rfl)
            try simp only [Act.put, List.setIfInBounds_toArray, List.set_cons_zero, List.set_cons_succ]
            refine wpAnyH_ready (rs := [9]) (by kernel_rfl) (by simp) ?_
            refine (AllReadyH.cons rfl (fun K hK => ?_) AllReadyH.nil)
            go_simp
            refine (HS4.out _ hS).mono ?_
            rintro e yR6x10 ⟨rfl, hq⟩
            try (go_wp2_with fail)
            have hS2 := Q.trans hS hq
            refine hK.out _ _ (by exact hS2) (fun hHeld => ?_)
            clear hK K hHeld hS hq
            have hS := hS2
            clear hS2
            try simp only [Act.put, List.setIfInBounds_toArray, List.set_cons_zero, List.set_cons_succ]
            refine wpAnyH_take (i := 10) (v := ?vR6x11) rfl (by kernel_rfl) (by kernel_rfl) (by kernel_rfl) (fun _ _ _ h => h) (Or.inl ⟨by rfl, ?hyR6x11⟩) (by exact hS) ?rsR6x11
            case hyR6x11 => (intro uz hSw; (try dsimp only at hSw); go_simp; try with_reducible rfl)
            try simp only [Act.put, List.setIfInBounds_toArray, List.set_cons_zero, List.set_cons_succ]
            refine wpAnyH_take (i := 11) (v := ?vR6x12) rfl (by kernel_rfl) (by kernel_rfl) (by kernel_rfl) (fun _ _ _ h => h) (Or.inl ⟨by rfl, ?hyR6x12⟩) (by exact hS) ?rsR6x12
            case hyR6x12 => (intro uz hSw; (try dsimp only at hSw); go_simp; try with_reducible rfl)
            try simp only [Act.put, List.setIfInBounds_toArray, List.set_cons_zero, List.set_cons_succ]
            refine wpAnyH_done (by kernel_rfl) ?_ _
            go_wp2_with fail
            go_ret
            exact ⟨(congrArg (fun s => Ending.returned (Value.string s)) HF2.out).symm, HQY.out.trans hS⟩
end Tx
end Go.Proofs.YtjloibgjnnknnaaDoor
