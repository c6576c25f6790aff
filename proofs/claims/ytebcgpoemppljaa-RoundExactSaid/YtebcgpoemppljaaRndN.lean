/- Rounding, mathematics: it keeps the order, changes by less than one of the last place (in the half modes by no more than half of one), its mirror, rounded again. -/
import Derived.Test.YtebcgpoemppljaaRows
import Derived.Test.YtebcgpoemppljaaDigL
import Derived.Test.YtebcgpoemppljaaDecM
import Derived.Test.YtebcgpoemppljaaDecA
import Derived.Test.YtebcgpoemppljaaDecY
import Derived.Test.YtebcgpoemppljaaRndM
set_option linter.unusedVariables false
set_option linter.unusedSimpArgs false
namespace Go.Proofs.Ytebcgpoemppljaa
open Go.RowKit
namespace Rm
open Ep (sv sv_mul cmpD_at ad_sv sv_cg sv_inj sv_not)
/-- A number X, rounded to so many times P. -/
def rr (g : Bool) (X P : Nat) (m : Int) : Nat := if X % P = 0 then X / P else if up g (X / P) (X % P) P m = true then X / P + 1 else X / P
theorem up_scale (g : Bool) (K r B p : Nat) (m : Int) (hp : 0 < p) : up g K (r * p) (B * p) m = up g K r B m := by
  unfold up
  rw [show B * p - r * p = (B - r) * p from (Nat.sub_mul _ _ _).symm, cmpZ_scale _ _ _ hp]
/-- Rounding speaks of the number alone. -/
theorem rk_at (g : Bool) (M s n N : Nat) (m : Int) (h1 : n ≤ N) (h2 : s ≤ N) : rk g (Dm.st M s).1 (Dm.st M s).2 n m = rr g (M * 10 ^ (N - s)) (10 ^ (N - n)) m := by
  have e := st_scale M s N h2
  have hl := st_last M s
  have hz := Dm.st_le M s
  rw [← e]
  generalize (Dm.st M s).1 = A at *
  generalize (Dm.st M s).2 = sa at *
  have hP : 0 < 10 ^ (N - n) := Nat.pow_pos (by omega)
  by_cases h : sa ≤ n
  · have h3 := at_exact (A := A) (N := N) h h1
    unfold rk rr
    rw [if_pos h, ← h3, Nat.mul_mod_left, if_pos rfl, Nat.mul_div_cancel _ hP]
  · have h3 := (at_scale (A := A) (sa := sa) (n := n) (N := N) (by omega) (by omega)).1
    have h4 := (at_scale (A := A) (sa := sa) (n := n) (N := N) (by omega) (by omega)).2
    have h5 := rs_pos (A := A) (sa := sa) (n := n) (by omega) (hl (by omega))
    have h6 := rs_lt (A := A) (sa := sa) (n := n) (by omega)
    have hp : 0 < 10 ^ (N - sa) := Nat.pow_pos (by omega)
    unfold rk rr
    rw [if_neg h, ← h3]
    generalize lo A sa n = K at *
    generalize rs A sa n = r at *
    generalize un sa n = B at *
    generalize 10 ^ (N - sa) = p at *
    generalize 10 ^ (N - n) = P at *
    have h7 : r * p < P := by rw [h4]; exact Nat.mul_lt_mul_of_pos_right h6 hp
    have h8 : 0 < r * p := Nat.mul_pos h5 hp
    have h9 : (K * P + r * p) % P = r * p := by rw [Nat.mul_comm, Nat.mul_add_mod, Nat.mod_eq_of_lt h7]
    have h10 : (K * P + r * p) / P = K := by rw [Nat.mul_comm, Nat.mul_add_div hP, Nat.div_eq_of_lt h7, Nat.add_zero]
    rw [h9, h10, if_neg (Nat.ne_of_gt h8), h4, up_scale _ _ _ _ _ _ hp]
theorem up_mono (g : Bool) (K r r' B : Nat) (m : Int) (h : r ≤ r') (hu : up g K r B m = true) : up g K r' B m = true := by
  have c1 := Dm.cmpZ_three (r : Int) ((B - r : Nat) : Int)
  have c2 := Dm.cmpZ_three (r' : Int) ((B - r' : Nat) : Int)
  have hc : Dm.cmpZ (r : Int) ((B - r : Nat) : Int) ≤ Dm.cmpZ (r' : Int) ((B - r' : Nat) : Int) := by
    unfold Dm.cmpZ
    split <;> split <;> (try split) <;> (try split) <;> omega
  unfold up at hu ⊢
  generalize Dm.cmpZ (r : Int) ((B - r : Nat) : Int) = a at *
  generalize Dm.cmpZ (r' : Int) ((B - r' : Nat) : Int) = b at *
  by_cases m1 : m = 1
  · rw [if_pos m1]
  · by_cases m2 : m = 2
    · rw [if_neg m1, if_pos m2] at hu ⊢; exact hu
    · by_cases m3 : m = 3
      · rw [if_neg m1, if_neg m2, if_pos m3] at hu ⊢; exact hu
      · by_cases m4 : m = 4
        · rw [if_neg m1, if_neg m2, if_neg m3, if_pos m4] at hu ⊢
          simp only [decide_eq_true_eq] at hu ⊢
          omega
        · by_cases m5 : m = 5
          · rw [if_neg m1, if_neg m2, if_neg m3, if_neg m4, if_pos m5] at hu ⊢
            simp only [decide_eq_true_eq] at hu ⊢
            omega
          · by_cases m6 : m = 6
            · rw [if_neg m1, if_neg m2, if_neg m3, if_neg m4, if_neg m5, if_pos m6] at hu ⊢
              simp only [Bool.or_eq_true, Bool.and_eq_true, decide_eq_true_eq] at hu ⊢
              omega
            · rw [if_neg m1, if_neg m2, if_neg m3, if_neg m4, if_neg m5, if_neg m6] at hu
              cases hu
theorem rr_two (g : Bool) (X P : Nat) (m : Int) : rr g X P m = X / P ∨ rr g X P m = X / P + 1 := by
  unfold rr
  split
  · exact .inl rfl
  · split
    · exact .inr rfl
    · exact .inl rfl
theorem rr_mono (g : Bool) (X Y P : Nat) (m : Int) (hP : 0 < P) (h : X ≤ Y) : rr g X P m ≤ rr g Y P m := by
  have hq : X / P ≤ Y / P := Nat.div_le_div_right h
  rcases Nat.lt_or_eq_of_le hq with h1 | h1
  · have a := rr_two g X P m
    have b := rr_two g Y P m
    omega
  · have e1 := Nat.div_add_mod X P
    have e2 := Nat.div_add_mod Y P
    rw [h1] at e1
    have hr : X % P ≤ Y % P := by omega
    by_cases h0 : X % P = 0
    · have a : rr g X P m = X / P := by unfold rr; rw [if_pos h0]
      have b := rr_two g Y P m
      omega
    · cases hu : up g (X / P) (X % P) P m
      · have a : rr g X P m = X / P := by unfold rr; rw [if_neg h0, hu, if_neg (by decide)]
        have b := rr_two g Y P m
        omega
      · have hu2 := up_mono g (X / P) (X % P) (Y % P) P m hr hu
        rw [h1] at hu2
        have a : rr g Y P m = Y / P + 1 := by unfold rr; rw [if_neg (by omega), hu2, if_pos rfl]
        have b := rr_two g X P m
        omega
/-- How far what is rounded lies from the number. -/
def gap (a b : Nat) : Nat := if a ≤ b then b - a else a - b
theorem rr_far (g : Bool) (X P : Nat) (m : Int) (hP : 0 < P) : gap (rr g X P m * P) X < P := by
  have e1 := Nat.div_add_mod X P
  have e2 := Nat.mod_lt X hP
  rw [Nat.mul_comm] at e1
  unfold gap rr
  split
  · split <;> omega
  · split
    · rw [Nat.add_mul, Nat.one_mul]
      split <;> omega
    · split <;> omega
theorem rr_half (g : Bool) (X P : Nat) (m : Int) (hP : 0 < P) (hm : 4 ≤ m ∧ m ≤ 6) : gap (rr g X P m * P) X * 2 ≤ P := by
  have e1 := Nat.div_add_mod X P
  have e2 := Nat.mod_lt X hP
  rw [Nat.mul_comm] at e1
  have c1 : (0 < Dm.cmpZ ((X % P : Nat) : Int) ((P - X % P : Nat) : Int) → P < 2 * (X % P)) ∧ (0 ≤ Dm.cmpZ ((X % P : Nat) : Int) ((P - X % P : Nat) : Int) → P ≤ 2 * (X % P)) ∧ (¬ 0 < Dm.cmpZ ((X % P : Nat) : Int) ((P - X % P : Nat) : Int) → 2 * (X % P) ≤ P) ∧ (¬ 0 ≤ Dm.cmpZ ((X % P : Nat) : Int) ((P - X % P : Nat) : Int) → 2 * (X % P) < P) ∧ (Dm.cmpZ ((X % P : Nat) : Int) ((P - X % P : Nat) : Int) = 0 → 2 * (X % P) = P) := by
    unfold Dm.cmpZ
    refine ⟨?_, ?_, ?_, ?_, ?_⟩ <;> (split <;> (try split) <;> omega)
  obtain ⟨c1, c2, c3, c4, c5⟩ := c1
  have key : (rr g X P m = X / P ∧ 2 * (X % P) ≤ P) ∨ (rr g X P m = X / P + 1 ∧ P ≤ 2 * (X % P)) := by
    unfold rr
    by_cases h0 : X % P = 0
    · rw [if_pos h0]
      exact .inl ⟨rfl, by omega⟩
    · rw [if_neg h0]
      have hu : (up g (X / P) (X % P) P m = true ∧ P ≤ 2 * (X % P)) ∨ (up g (X / P) (X % P) P m = false ∧ 2 * (X % P) ≤ P) := by
        unfold up
        generalize Dm.cmpZ ((X % P : Nat) : Int) ((P - X % P : Nat) : Int) = c at *
        rw [if_neg (show ¬ m = 1 by omega), if_neg (show ¬ m = 2 by omega), if_neg (show ¬ m = 3 by omega)]
        rcases (show m = 4 ∨ m = 5 ∨ m = 6 from by omega) with rfl | rfl | rfl
        · rw [if_pos rfl]
          by_cases hc : 0 < c
          · have := c1 hc
            exact .inl ⟨decide_eq_true hc, by omega⟩
          · exact .inr ⟨decide_eq_false hc, c3 hc⟩
        · rw [if_neg (by decide), if_pos rfl]
          by_cases hc : 0 ≤ c
          · exact .inl ⟨decide_eq_true hc, c2 hc⟩
          · have := c4 hc
            exact .inr ⟨decide_eq_false hc, by omega⟩
        · rw [if_neg (by decide), if_neg (by decide), if_pos rfl]
          cases hu : (decide (0 < c) || (decide (c = 0) && decide (X / P % 2 = 1)))
          · simp only [Bool.or_eq_false_iff, decide_eq_false_iff_not] at hu
            exact .inr ⟨rfl, c3 hu.1⟩
          · simp only [Bool.or_eq_true, Bool.and_eq_true, decide_eq_true_eq] at hu
            rcases hu with hu | hu
            · have := c1 hu
              exact .inl ⟨rfl, by omega⟩
            · have := c5 hu.1
              exact .inl ⟨rfl, by omega⟩
      rcases hu with ⟨hu, h2⟩ | ⟨hu, h2⟩
      · rw [hu, if_pos rfl]; exact .inr ⟨rfl, h2⟩
      · rw [hu, if_neg (by decide)]; exact .inl ⟨rfl, h2⟩
  unfold gap
  rcases key with ⟨h1, h2⟩ | ⟨h1, h2⟩
  · rw [h1]
    split <;> omega
  · rw [h1, Nat.add_mul, Nat.one_mul]
    split <;> omega
/-- Below 0 as above it, Floor and Ceil exchanged. -/
theorem up_mirror (g : Bool) (K r B : Nat) (m k : Int) (hk : (m = 2 ∧ k = 3) ∨ (m = 3 ∧ k = 2) ∨ (m ≠ 2 ∧ m ≠ 3 ∧ k = m)) : up (!g) K r B k = up g K r B m := by
  unfold up
  rcases hk with ⟨rfl, rfl⟩ | ⟨rfl, rfl⟩ | ⟨h1, h2, rfl⟩
  · rw [if_neg (by decide), if_neg (by decide), if_pos rfl, if_neg (by decide), if_pos rfl]
    cases g <;> rfl
  · rw [if_neg (by decide), if_pos rfl, if_neg (by decide), if_neg (by decide), if_pos rfl]
  · rw [if_neg h1, if_neg h2, if_neg h1, if_neg h2]
theorem rk_mirror (g : Bool) (A sa n : Nat) (m k : Int) (hk : (m = 2 ∧ k = 3) ∨ (m = 3 ∧ k = 2) ∨ (m ≠ 2 ∧ m ≠ 3 ∧ k = m)) : rk (!g) A sa n k = rk g A sa n m := by
  unfold rk
  rw [up_mirror _ _ _ _ _ _ hk]
/-- What is rounded stays, whatever the mode. -/
theorem rk_again (g : Bool) (R n : Nat) (m : Int) : (Dm.st R n).2 ≤ n ∧ rk g (Dm.st R n).1 (Dm.st R n).2 n m = R := by
  have h := Dm.st_le R n
  refine ⟨h, ?_⟩
  unfold rk lo
  rw [if_pos h, if_pos h]
  exact Dm.st_num R n
/-- What has no more digits than the scale is the same number. -/
theorem rk_exact (g : Bool) (M s n : Nat) (m : Int) (h : (Dm.st M s).2 ≤ n) : Dm.cmpD (Dm.cg g (rk g (Dm.st M s).1 (Dm.st M s).2 n m)) (rk g (Dm.st M s).1 (Dm.st M s).2 n m) n g M s = 0 := by
  have e : rk g (Dm.st M s).1 (Dm.st M s).2 n m = lo (Dm.st M s).1 (Dm.st M s).2 n := by unfold rk; rw [if_pos h]
  rw [e]
  exact (near_cmp g M s n).2 h
theorem rr_zero (g : Bool) (P : Nat) (m : Int) : rr g 0 P m = 0 := by
  unfold rr
  rw [Nat.zero_mod, if_pos rfl, Nat.zero_div]
theorem cmpZ_le {x y : Int} : Dm.cmpZ x y ≤ 0 ↔ x ≤ y := by
  unfold Dm.cmpZ
  split
  · constructor <;> intro <;> omega
  · split
    · constructor <;> intro <;> omega
    · constructor <;> intro <;> omega
theorem cmpZ_lt {x y : Int} : Dm.cmpZ x y < 0 ↔ x < y := by
  unfold Dm.cmpZ
  split
  · constructor <;> intro <;> omega
  · split
    · constructor <;> intro <;> omega
    · constructor <;> intro <;> omega
/-- Signed numbers, rounded, are in their row. -/
theorem rr_row (g h : Bool) (X Y P : Nat) (m : Int) (hP : 0 < P) (hle : sv g X ≤ sv h Y) : sv g (rr g X P m) ≤ sv h (rr h Y P m) := by
  cases g <;> cases h
  · have h1 : X ≤ Y := by unfold sv at hle; simp at hle; exact hle
    have := rr_mono false X Y P m hP h1
    unfold sv; simp <;> omega
  · have h1 : X = 0 ∧ Y = 0 := by unfold sv at hle; simp at hle; omega
    rw [h1.1, h1.2, rr_zero, rr_zero]
    unfold sv; simp
  · unfold sv; simp <;> omega
  · have h1 : Y ≤ X := by unfold sv at hle; simp at hle; exact hle
    have := rr_mono true Y X P m hP h1
    unfold sv; simp <;> omega
/-- Rounding keeps the order. -/
theorem rk_row (g h : Bool) (M s M2 s2 n : Nat) (m : Int) (hc : Dm.cmpD g M s h M2 s2 ≤ 0) :
    Dm.cmpD (Dm.cg g (rk g (Dm.st M s).1 (Dm.st M s).2 n m)) (rk g (Dm.st M s).1 (Dm.st M s).2 n m) n (Dm.cg h (rk h (Dm.st M2 s2).1 (Dm.st M2 s2).2 n m)) (rk h (Dm.st M2 s2).1 (Dm.st M2 s2).2 n m) n ≤ 0 := by
  obtain ⟨N, hN⟩ : ∃ N, N = max n (max s s2) := ⟨_, rfl⟩
  rw [cmpD_at g M s h M2 s2 N (by omega) (by omega), cmpZ_le] at hc
  rw [rk_at g M s n N m (by omega) (by omega), rk_at h M2 s2 n N m (by omega) (by omega)]
  have hr := rr_row g h _ _ (10 ^ (N - n)) m (Nat.pow_pos (by omega)) hc
  rw [cmpD_at _ _ _ _ _ _ n (by omega) (by omega), cmpZ_le, Nat.sub_self, Nat.pow_zero, Nat.mul_one, Nat.mul_one, sv_cg, sv_cg]
  exact hr
/-- What is rounded, less the number: how much, its sign aside. -/
theorem far_eq (g : Bool) (R X Q : Nat) (hQ : 0 < Q) : Dm.adM (Dm.cg g R) (R * Q) (!g) X = gap (R * Q) X := by
  unfold gap
  by_cases h0 : R = 0
  · subst h0
    rw [Nat.zero_mul, if_pos (Nat.zero_le _)]
    unfold Dm.adM Dm.cg
    cases g
    · simp <;> omega
    · simp
  · rw [Dm.cg_pos h0]
    unfold Dm.adM
    rw [if_neg (by cases g <;> simp)]
    split <;> split <;> omega
/-- Less than one of the last place. -/
theorem far_lt (D n N Q : Nat) (hn : n ≤ N) (hQ : Q = 10 ^ (N - n)) (h : D < Q) : Dm.cmpD false (Dm.st D N).1 (Dm.st D N).2 false 1 n < 0 := by
  rw [cmpD_at _ _ _ _ _ _ N (Dm.st_le _ _) hn, cmpZ_lt, Dm.st_num, ← hQ, Nat.one_mul]
  unfold sv
  simp
  exact h
theorem half_le (D n N Q : Nat) (hn : n ≤ N) (hQ : Q = 10 ^ (N - n)) (h : D * 2 ≤ Q) : Dm.cmpD false (Dm.st ((Dm.st D N).1 * 2) (Dm.st D N).2).1 (Dm.st ((Dm.st D N).1 * 2) (Dm.st D N).2).2 false 1 n ≤ 0 := by
  have h1 := Dm.st_le D N
  have h2 := st_scale ((Dm.st D N).1 * 2) (Dm.st D N).2 N h1
  have h3 := Dm.st_le ((Dm.st D N).1 * 2) (Dm.st D N).2
  rw [cmpD_at _ _ _ _ _ _ N (by omega) hn, cmpZ_le, h2, ← hQ, Nat.one_mul, Nat.mul_assoc, Nat.mul_comm 2, ← Nat.mul_assoc, Dm.st_num]
  unfold sv
  simp
  exact_mod_cast h
/-- The modes' names. -/
def nms : List ByteArray := [⟨#[100, 111, 119, 110]⟩, ⟨#[117, 112]⟩, ⟨#[102, 108, 111, 111, 114]⟩, ⟨#[99, 101, 105, 108]⟩, ⟨#[104, 97, 108, 102, 100, 111, 119, 110]⟩, ⟨#[104, 97, 108, 102, 117, 112]⟩, ⟨#[104, 97, 108, 102, 101, 118, 101, 110]⟩]
def nm (k : Int) : ByteArray := if 0 ≤ k then nms.getD k.toNat ⟨#[]⟩ else ⟨#[]⟩
/-- The last of the first so many modes that has the name; -1: there is none. -/
def fnd (s : ByteArray) : Nat → Int
  | 0 => -1
  | i + 1 => if nms.getD i ⟨#[]⟩ = s then (i : Int) else fnd s i
def wn (s : ByteArray) : Int := fnd s 7
theorem fnd_bd (s : ByteArray) (j : Nat) : -1 ≤ fnd s j ∧ fnd s j < j ∨ j = 0 ∧ fnd s j = -1 := by
  induction j with
  | zero => exact .inr ⟨rfl, rfl⟩
  | succ j ih =>
    rw [fnd]
    split
    · exact .inl (by omega)
    · exact .inl (by omega)
theorem wn_bd (s : ByteArray) : -1 ≤ wn s ∧ wn s ≤ 6 := by
  have := fnd_bd s 7
  unfold wn
  omega
theorem wn_nm (m : Nat) (h : m < 7) : wn (nms.getD m ⟨#[]⟩) = m := by
  rcases (show m = 0 ∨ m = 1 ∨ m = 2 ∨ m = 3 ∨ m = 4 ∨ m = 5 ∨ m = 6 from by omega) with rfl | rfl | rfl | rfl | rfl | rfl | rfl <;> decide +kernel
theorem nm_in (k : Nat) : nm (k : Int) = nms.getD k ⟨#[]⟩ := by
  unfold nm
  rw [if_pos (by omega), Int.toNat_natCast]
theorem nm_out (k : Int) (h : k < 0 ∨ 7 ≤ k) : nm k = ⟨#[]⟩ := by
  unfold nm
  split
  · rw [List.getD_eq_getElem?_getD, List.getElem?_eq_none (show nms.length ≤ k.toNat from by show 7 ≤ k.toNat; omega)]
    rfl
  · rfl
theorem nm_ne (k : Nat) (h : k < 7) : (nms.getD k ⟨#[]⟩).toList.isEmpty = false := by
  rcases (show k = 0 ∨ k = 1 ∨ k = 2 ∨ k = 3 ∨ k = 4 ∨ k = 5 ∨ k = 6 from by omega) with rfl | rfl | rfl | rfl | rfl | rfl | rfl <;> decide +kernel
end Rm
end Go.Proofs.Ytebcgpoemppljaa
