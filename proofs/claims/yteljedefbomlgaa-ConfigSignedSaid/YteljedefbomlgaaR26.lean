/- Rounding, mathematics: the two next numbers of a scale, which of them is nearer, which is taken. (and more) -/
import Derived.Test.YteljedefbomlgaaR00
import Derived.Test.YteljedefbomlgaaR14
import Derived.Test.YteljedefbomlgaaR01
import Derived.Test.YteljedefbomlgaaR23
import Derived.Test.YteljedefbomlgaaRows
import Derived.Test.YteljedefbomlgaaR12
import Derived.Test.YteljedefbomlgaaR17
import Derived.Test.YteljedefbomlgaaR08
import Derived.Test.YteljedefbomlgaaR10
import Derived.Test.YteljedefbomlgaaR06
import Derived.Test.YteljedefbomlgaaR03
import Derived.Test.YteljedefbomlgaaR05
import Derived.Deep.QuietTactic
import Derived.Deep.RegionWith
import Derived.Deep.RegionHeld3
import Derived.BigQuiet
import Derived.Laws.ResultCell
set_option linter.unusedVariables false
set_option linter.unusedSimpArgs false
namespace Go.Proofs.Yteljedefbomlgaa
open Go.RowKit
namespace Rm
open Ep (sv sv_mul cmpD_at ad_sv sv_cg sv_inj)
theorem st_last (M s : Nat) (h : (Dm.st M s).2 ≠ 0) : (Dm.st M s).1 % 10 ≠ 0 := by
  induction s generalizing M with
  | zero =>
    have := Dm.st_le M 0
    omega
  | succ s ih =>
    by_cases h0 : M % 10 = 0
    · rw [Dm.st_on M s h0] at h ⊢
      exact ih _ h
    · rw [Dm.st_end M s h0]; exact h0
def lo (A sa n : Nat) : Nat := if sa ≤ n then A * 10 ^ (n - sa) else A / 10 ^ (sa - n)
def rs (A sa n : Nat) : Nat := if sa ≤ n then 0 else A % 10 ^ (sa - n)
def un (sa n : Nat) : Nat := 10 ^ (sa - n)
def up (g : Bool) (K r B : Nat) (m : Int) : Bool :=
  if m = 1 then true else if m = 2 then g else if m = 3 then !g else if m = 4 then decide (0 < Dm.cmpZ (r : Int) ((B - r : Nat) : Int)) else if m = 5 then decide (0 ≤ Dm.cmpZ (r : Int) ((B - r : Nat) : Int)) else if m = 6 then decide (0 < Dm.cmpZ (r : Int) ((B - r : Nat) : Int)) || (decide (Dm.cmpZ (r : Int) ((B - r : Nat) : Int) = 0) && decide (K % 2 = 1)) else false
def rk (g : Bool) (A sa n : Nat) (m : Int) : Nat := if sa ≤ n then lo A sa n else if up g (lo A sa n) (rs A sa n) (un sa n) m = true then lo A sa n + 1 else lo A sa n
theorem rs_pos {A sa n : Nat} (h : n < sa) (hA : A % 10 ≠ 0) : 0 < rs A sa n := by
  unfold rs
  rw [if_neg (by omega)]
  obtain ⟨k, hk⟩ : ∃ k, sa - n = k + 1 := ⟨sa - n - 1, by omega⟩
  rw [hk]
  by_cases h0 : A % 10 ^ (k + 1) = 0
  · exfalso
    have h1 : 10 ∣ 10 ^ (k + 1) := ⟨10 ^ k, by rw [Nat.pow_succ, Nat.mul_comm]⟩
    have h2 : 10 ∣ A := Nat.dvd_trans h1 (Nat.dvd_of_mod_eq_zero h0)
    exact hA (Nat.mod_eq_zero_of_dvd h2)
  · omega
theorem rs_lt {A sa n : Nat} (h : n < sa) : rs A sa n < un sa n := by
  unfold rs un
  rw [if_neg (by omega)]
  exact Nat.mod_lt _ (Nat.pow_pos (by omega))
theorem lo_rs {A sa n : Nat} (h : n < sa) : lo A sa n * un sa n + rs A sa n = A := by
  unfold lo rs un
  rw [if_neg (by omega), if_neg (by omega), Nat.mul_comm]
  exact Nat.div_add_mod _ _
theorem at_scale {A sa n N : Nat} (h : n < sa) (hN : sa ≤ N) : lo A sa n * 10 ^ (N - n) + rs A sa n * 10 ^ (N - sa) = A * 10 ^ (N - sa) ∧ 10 ^ (N - n) = un sa n * 10 ^ (N - sa) := by
  have h1 : 10 ^ (N - n) = un sa n * 10 ^ (N - sa) := by
    unfold un
    rw [← Nat.pow_add, show sa - n + (N - sa) = N - n from by omega]
  refine ⟨?_, h1⟩
  have h2 := lo_rs (A := A) h
  rw [h1, ← Nat.mul_assoc, ← Nat.add_mul, h2]
theorem at_exact {A sa n N : Nat} (h : sa ≤ n) (hN : n ≤ N) : lo A sa n * 10 ^ (N - n) = A * 10 ^ (N - sa) := by
  unfold lo
  rw [if_pos h, Nat.mul_assoc, ← Nat.pow_add, show n - sa + (N - n) = N - sa from by omega]
theorem cmpZ_zero {x y : Int} : Dm.cmpZ x y = 0 ↔ x = y := by
  unfold Dm.cmpZ
  constructor
  · intro h
    split at h
    · omega
    · split at h <;> omega
  · rintro rfl
    exact Dm.cmpZ_eq rfl
theorem st_scale (M s N : Nat) (h : s ≤ N) : (Dm.st M s).1 * 10 ^ (N - (Dm.st M s).2) = M * 10 ^ (N - s) := by
  have h1 := Dm.st_num M s
  have h2 := Dm.st_le M s
  calc (Dm.st M s).1 * 10 ^ (N - (Dm.st M s).2) = (Dm.st M s).1 * (10 ^ (s - (Dm.st M s).2) * 10 ^ (N - s)) := by rw [← Nat.pow_add, show s - (Dm.st M s).2 + (N - s) = N - (Dm.st M s).2 from by omega]
    _ = M * 10 ^ (N - s) := by rw [← Nat.mul_assoc, h1]
theorem near_cmp (g : Bool) (M s n : Nat) : Dm.cmpD (Dm.cg g (lo (Dm.st M s).1 (Dm.st M s).2 n)) (lo (Dm.st M s).1 (Dm.st M s).2 n) n g M s = 0 ↔ (Dm.st M s).2 ≤ n := by
  rw [cmpD_at _ _ _ _ _ _ (max n s) (by omega) (by omega), cmpZ_zero]
  have e := st_scale M s (max n s) (by omega)
  have hl := st_last M s
  have hz := Dm.st_le M s
  rw [← e]
  generalize (Dm.st M s).1 = A at *
  generalize (Dm.st M s).2 = sa at *
  by_cases h : sa ≤ n
  · have h1 := at_exact (A := A) (N := max n s) h (by omega)
    refine ⟨fun _ => h, fun _ => ?_⟩
    rw [← sv_mul, sv_cg, sv_mul, h1]
  · refine ⟨fun e1 => ?_, fun h2 => absurd h2 h⟩
    exfalso
    have h1 := (at_scale (A := A) (sa := sa) (n := n) (N := max n s) (by omega) (by omega)).1
    have h2 := rs_pos (A := A) (sa := sa) (n := n) (by omega) (hl (by omega))
    have h3 : 0 < rs A sa n * 10 ^ (max n s - sa) := Nat.mul_pos h2 (Nat.pow_pos (by omega))
    rw [← sv_mul, sv_cg, sv_mul] at e1
    have := (sv_inj e1).1
    omega
theorem sum_eq (g : Bool) (K : Nat) : Dm.adM (Dm.cg g K) K g 1 = K + 1 ∧ Dm.cg (Dm.adG (Dm.cg g K) K g 1) (Dm.adM (Dm.cg g K) K g 1) = g := by
  have e := ad_sv (Dm.cg g K) K g 1
  rw [sv_cg] at e
  have e2 : sv g K + sv g 1 = sv g (K + 1) := by unfold sv; cases g <;> simp <;> omega
  rw [e2] at e
  obtain ⟨h1, h2⟩ := sv_inj e
  refine ⟨h1, ?_⟩
  rw [h2]
  exact Dm.cg_pos (by omega)
theorem align_eq (M n : Nat) : (Dm.st (Dm.st M n).1 (Dm.st M n).2).1 * 10 ^ (n - (Dm.st (Dm.st M n).1 (Dm.st M n).2).2) = M := by
  rw [Dm.st_trim]
  exact Dm.st_num M n
theorem from_eq {g : Bool} {X Y : Nat} (h : Y ≤ X) : Dm.adM g X (!(Dm.cg g Y)) Y = X - Y := by
  by_cases h0 : Y = 0
  · subst h0
    unfold Dm.adM Dm.cg
    cases g <;> simp
  · rw [Dm.cg_pos h0]
    unfold Dm.adM
    rw [if_neg (by cases g <;> simp), if_neg (by omega)]
theorem to_eq {g : Bool} {X Y : Nat} (h : Y ≤ X) : Dm.adM g X (!g) Y = X - Y := by
  unfold Dm.adM
  rw [if_neg (by cases g <;> simp), if_neg (by omega)]
theorem half_eq (F T N : Nat) : Dm.cmpD false (Dm.st F N).1 (Dm.st F N).2 false (Dm.st T N).1 (Dm.st T N).2 = Dm.cmpZ (F : Int) (T : Int) := by
  rw [cmpD_at _ _ _ _ _ _ N (Dm.st_le _ _) (Dm.st_le _ _), Dm.st_num, Dm.st_num]
  rfl
theorem cmpZ_scale (x y p : Nat) (hp : 0 < p) : Dm.cmpZ ((x * p : Nat) : Int) ((y * p : Nat) : Int) = Dm.cmpZ (x : Int) (y : Int) := Dm.cmpZ_mul x y p hp
theorem num_cut (l : List Int) (h : Dm.okD l) (k : Nat) : Dm.num (Dm.shl l (-(k : Int))) = Dm.num l / 10 ^ k ∧ Dm.okD (Dm.shl l (-(k : Int))) := by
  have e : Dm.shl l (-(k : Int)) = l.take (l.length - k) := by
    unfold Dm.shl
    rw [show (-(k : Int)).toNat = 0 from by omega, List.replicate_zero, List.append_nil]
    congr 1
    omega
  rw [e]
  refine ⟨?_, Dm.okD_take h _⟩
  have h1 := Dm.num_append (l.take (l.length - k)) (l.drop (l.length - k))
  rw [List.take_append_drop] at h1
  have h2 := Dm.num_lt _ (Dm.okD_drop h (l.length - k))
  have h3 : (l.drop (l.length - k)).length = min k l.length := by rw [List.length_drop]; omega
  rw [h3] at h1 h2
  by_cases hk : k ≤ l.length
  · rw [show min k l.length = k from by omega] at h1 h2
    rw [h1]
    have hp : 0 < 10 ^ k := Nat.pow_pos (by omega)
    rw [Nat.mul_comm, Nat.mul_add_div hp, Nat.div_eq_of_lt h2, Nat.add_zero]
  · have h4 := Dm.num_lt l h
    have h5 : 10 ^ l.length ≤ 10 ^ k := Nat.pow_le_pow_right (by omega) (by omega)
    rw [show l.length - k = 0 from by omega, List.take_zero, Nat.div_eq_of_lt (by omega)]
    rfl
theorem num_to (A sa n : Nat) : Dm.num (Dm.shl (Dm.dg A) ((n : Int) - (sa : Int))) = lo A sa n ∧ Dm.okD (Dm.shl (Dm.dg A) ((n : Int) - (sa : Int))) := by
  unfold lo
  by_cases h : sa ≤ n
  · rw [if_pos h, show (n : Int) - (sa : Int) = ((n - sa : Nat) : Int) from by omega, Dm.shl_pos]
    refine ⟨by rw [Dm.num_zeros, Dm.num_dg], Dm.okD_append.2 ⟨Dm.okD_dg _, fun d hd => by have := List.eq_of_mem_replicate hd; omega⟩⟩
  · rw [if_neg h, show (n : Int) - (sa : Int) = -((sa - n : Nat) : Int) from by omega]
    have := num_cut (Dm.dg A) (Dm.okD_dg _) (sa - n)
    rwa [Dm.num_dg] at this
theorem lo_zero (sa n : Nat) : lo 0 sa n = 0 := by
  unfold lo
  split
  · rw [Nat.zero_mul]
  · rw [Nat.zero_div]
end Rm
end Go.Proofs.Yteljedefbomlgaa
namespace Go.Proofs.Yteljedefbomlgaa
open Go.RowKit
namespace Rm
open Ep (sv sv_mul cmpD_at ad_sv sv_cg sv_inj)
def rr (g : Bool) (X P : Nat) (m : Int) : Nat := if X % P = 0 then X / P else if up g (X / P) (X % P) P m = true then X / P + 1 else X / P
theorem up_scale (g : Bool) (K r B p : Nat) (m : Int) (hp : 0 < p) : up g K (r * p) (B * p) m = up g K r B m := by
  unfold up
  rw [show B * p - r * p = (B - r) * p from (Nat.sub_mul _ _ _).symm, cmpZ_scale _ _ _ hp]
theorem rk_at (g : Bool) (M s n N : Nat) (m : Int) (h1 : n ≤ N) (h2 : s ≤ N) : rk g (Dm.st M s).1 (Dm.st M s).2 n m = rr g (M * 10 ^ (N - s)) (10 ^ (N - n)) m := by
  have e := st_scale M s N h2
  have hl := st_last M s
  have hz := Dm.st_le M s
  rw [← e]
  generalize (Dm.st M s).1 = A at *
  generalize (Dm.st M s).2 = sa at *
  have hP : 0 < 10 ^ (N - n) := Nat.pow_pos (by omega)
  by_cases h : sa ≤ n
  · have h3 := at_exact (A := A) (N := N) h h1
    unfold rk rr
    rw [if_pos h, ← h3, Nat.mul_mod_left, if_pos rfl, Nat.mul_div_cancel _ hP]
  · have h3 := (at_scale (A := A) (sa := sa) (n := n) (N := N) (by omega) (by omega)).1
    have h4 := (at_scale (A := A) (sa := sa) (n := n) (N := N) (by omega) (by omega)).2
    have h5 := rs_pos (A := A) (sa := sa) (n := n) (by omega) (hl (by omega))
    have h6 := rs_lt (A := A) (sa := sa) (n := n) (by omega)
    have hp : 0 < 10 ^ (N - sa) := Nat.pow_pos (by omega)
    unfold rk rr
    rw [if_neg h, ← h3]
    generalize lo A sa n = K at *
    generalize rs A sa n = r at *
    generalize un sa n = B at *
    generalize 10 ^ (N - sa) = p at *
    generalize 10 ^ (N - n) = P at *
    have h7 : r * p < P := by rw [h4]; exact Nat.mul_lt_mul_of_pos_right h6 hp
    have h8 : 0 < r * p := Nat.mul_pos h5 hp
    have h9 : (K * P + r * p) % P = r * p := by rw [Nat.mul_comm, Nat.mul_add_mod, Nat.mod_eq_of_lt h7]
    have h10 : (K * P + r * p) / P = K := by rw [Nat.mul_comm, Nat.mul_add_div hP, Nat.div_eq_of_lt h7, Nat.add_zero]
    rw [h9, h10, if_neg (Nat.ne_of_gt h8), h4, up_scale _ _ _ _ _ _ hp]
theorem up_mono (g : Bool) (K r r' B : Nat) (m : Int) (h : r ≤ r') (hu : up g K r B m = true) : up g K r' B m = true := by
  have c1 := Dm.cmpZ_three (r : Int) ((B - r : Nat) : Int)
  have c2 := Dm.cmpZ_three (r' : Int) ((B - r' : Nat) : Int)
  have hc : Dm.cmpZ (r : Int) ((B - r : Nat) : Int) ≤ Dm.cmpZ (r' : Int) ((B - r' : Nat) : Int) := by
    unfold Dm.cmpZ
    split <;> split <;> (try split) <;> (try split) <;> omega
  unfold up at hu ⊢
  generalize Dm.cmpZ (r : Int) ((B - r : Nat) : Int) = a at *
  generalize Dm.cmpZ (r' : Int) ((B - r' : Nat) : Int) = b at *
  by_cases m1 : m = 1
  · rw [if_pos m1]
  · by_cases m2 : m = 2
    · rw [if_neg m1, if_pos m2] at hu ⊢; exact hu
    · by_cases m3 : m = 3
      · rw [if_neg m1, if_neg m2, if_pos m3] at hu ⊢; exact hu
      · by_cases m4 : m = 4
        · rw [if_neg m1, if_neg m2, if_neg m3, if_pos m4] at hu ⊢
          simp only [decide_eq_true_eq] at hu ⊢
          omega
        · by_cases m5 : m = 5
          · rw [if_neg m1, if_neg m2, if_neg m3, if_neg m4, if_pos m5] at hu ⊢
            simp only [decide_eq_true_eq] at hu ⊢
            omega
          · by_cases m6 : m = 6
            · rw [if_neg m1, if_neg m2, if_neg m3, if_neg m4, if_neg m5, if_pos m6] at hu ⊢
              simp only [Bool.or_eq_true, Bool.and_eq_true, decide_eq_true_eq] at hu ⊢
              omega
            · rw [if_neg m1, if_neg m2, if_neg m3, if_neg m4, if_neg m5, if_neg m6] at hu
              cases hu
theorem rr_two (g : Bool) (X P : Nat) (m : Int) : rr g X P m = X / P ∨ rr g X P m = X / P + 1 := by
  unfold rr
  split
  · exact .inl rfl
  · split
    · exact .inr rfl
    · exact .inl rfl
theorem rr_mono (g : Bool) (X Y P : Nat) (m : Int) (hP : 0 < P) (h : X ≤ Y) : rr g X P m ≤ rr g Y P m := by
  have hq : X / P ≤ Y / P := Nat.div_le_div_right h
  rcases Nat.lt_or_eq_of_le hq with h1 | h1
  · have a := rr_two g X P m
    have b := rr_two g Y P m
    omega
  · have e1 := Nat.div_add_mod X P
    have e2 := Nat.div_add_mod Y P
    rw [h1] at e1
    have hr : X % P ≤ Y % P := by omega
    by_cases h0 : X % P = 0
    · have a : rr g X P m = X / P := by unfold rr; rw [if_pos h0]
      have b := rr_two g Y P m
      omega
    · cases hu : up g (X / P) (X % P) P m
      · have a : rr g X P m = X / P := by unfold rr; rw [if_neg h0, hu, if_neg (by decide)]
        have b := rr_two g Y P m
        omega
      · have hu2 := up_mono g (X / P) (X % P) (Y % P) P m hr hu
        rw [h1] at hu2
        have a : rr g Y P m = Y / P + 1 := by unfold rr; rw [if_neg (by omega), hu2, if_pos rfl]
        have b := rr_two g X P m
        omega
def gap (a b : Nat) : Nat := if a ≤ b then b - a else a - b
theorem rr_zero (g : Bool) (P : Nat) (m : Int) : rr g 0 P m = 0 := by
  unfold rr
  rw [Nat.zero_mod, if_pos rfl, Nat.zero_div]
theorem cmpZ_le {x y : Int} : Dm.cmpZ x y ≤ 0 ↔ x ≤ y := by
  unfold Dm.cmpZ
  split
  · constructor <;> intro <;> omega
  · split
    · constructor <;> intro <;> omega
    · constructor <;> intro <;> omega
theorem cmpZ_lt {x y : Int} : Dm.cmpZ x y < 0 ↔ x < y := by
  unfold Dm.cmpZ
  split
  · constructor <;> intro <;> omega
  · split
    · constructor <;> intro <;> omega
    · constructor <;> intro <;> omega
theorem rr_row (g h : Bool) (X Y P : Nat) (m : Int) (hP : 0 < P) (hle : sv g X ≤ sv h Y) : sv g (rr g X P m) ≤ sv h (rr h Y P m) := by
  cases g <;> cases h
  · have h1 : X ≤ Y := by unfold sv at hle; simp at hle; exact hle
    have := rr_mono false X Y P m hP h1
    unfold sv; simp <;> omega
  · have h1 : X = 0 ∧ Y = 0 := by unfold sv at hle; simp at hle; omega
    rw [h1.1, h1.2, rr_zero, rr_zero]
    unfold sv; simp
  · unfold sv; simp <;> omega
  · have h1 : Y ≤ X := by unfold sv at hle; simp at hle; exact hle
    have := rr_mono true Y X P m hP h1
    unfold sv; simp <;> omega
theorem rk_row (g h : Bool) (M s M2 s2 n : Nat) (m : Int) (hc : Dm.cmpD g M s h M2 s2 ≤ 0) :
    Dm.cmpD (Dm.cg g (rk g (Dm.st M s).1 (Dm.st M s).2 n m)) (rk g (Dm.st M s).1 (Dm.st M s).2 n m) n (Dm.cg h (rk h (Dm.st M2 s2).1 (Dm.st M2 s2).2 n m)) (rk h (Dm.st M2 s2).1 (Dm.st M2 s2).2 n m) n ≤ 0 := by
  obtain ⟨N, hN⟩ : ∃ N, N = max n (max s s2) := ⟨_, rfl⟩
  rw [cmpD_at g M s h M2 s2 N (by omega) (by omega), cmpZ_le] at hc
  rw [rk_at g M s n N m (by omega) (by omega), rk_at h M2 s2 n N m (by omega) (by omega)]
  have hr := rr_row g h _ _ (10 ^ (N - n)) m (Nat.pow_pos (by omega)) hc
  rw [cmpD_at _ _ _ _ _ _ n (by omega) (by omega), cmpZ_le, Nat.sub_self, Nat.pow_zero, Nat.mul_one, Nat.mul_one, sv_cg, sv_cg]
  exact hr
def nms : List ByteArray := [⟨#[100, 111, 119, 110]⟩, ⟨#[117, 112]⟩, ⟨#[102, 108, 111, 111, 114]⟩, ⟨#[99, 101, 105, 108]⟩, ⟨#[104, 97, 108, 102, 100, 111, 119, 110]⟩, ⟨#[104, 97, 108, 102, 117, 112]⟩, ⟨#[104, 97, 108, 102, 101, 118, 101, 110]⟩]
def nm (k : Int) : ByteArray := if 0 ≤ k then nms.getD k.toNat ⟨#[]⟩ else ⟨#[]⟩
def fnd (s : ByteArray) : Nat → Int
  | 0 => -1
  | i + 1 => if nms.getD i ⟨#[]⟩ = s then (i : Int) else fnd s i
def wn (s : ByteArray) : Int := fnd s 7
theorem wn_nm (m : Nat) (h : m < 7) : wn (nms.getD m ⟨#[]⟩) = m := by
  rcases (show m = 0 ∨ m = 1 ∨ m = 2 ∨ m = 3 ∨ m = 4 ∨ m = 5 ∨ m = 6 from by omega) with rfl | rfl | rfl | rfl | rfl | rfl | rfl <;> decide +kernel
theorem nm_in (k : Nat) : nm (k : Int) = nms.getD k ⟨#[]⟩ := by
  unfold nm
  rw [if_pos (by omega), Int.toNat_natCast]
theorem nm_out (k : Int) (h : k < 0 ∨ 7 ≤ k) : nm k = ⟨#[]⟩ := by
  unfold nm
  split
  · rw [List.getD_eq_getElem?_getD, List.getElem?_eq_none (show nms.length ≤ k.toNat from by show 7 ≤ k.toNat; omega)]
    rfl
  · rfl
theorem nm_ne (k : Nat) (h : k < 7) : (nms.getD k ⟨#[]⟩).toList.isEmpty = false := by
  rcases (show k = 0 ∨ k = 1 ∨ k = 2 ∨ k = 3 ∨ k = 4 ∨ k = 5 ∨ k = 6 from by omega) with rfl | rfl | rfl | rfl | rfl | rfl | rfl <;> decide +kernel
end Rm
end Go.Proofs.Yteljedefbomlgaa
namespace Go.Proofs.Yteljedefbomlgaa
namespace Km
structure De where
  g : Bool
  m : Nat
  s : Nat
def tr (d : De) : De := ⟨Dm.cg d.g d.m, (Dm.st d.m d.s).1, (Dm.st d.m d.s).2⟩
def cmp (a b : De) : Int := Dm.cmpD a.g a.m a.s b.g b.m b.s
def clp (x lo hi : De) : De := if cmp x lo < 0 then tr lo else if 0 < cmp x hi then tr hi else tr x
def rnd (x : De) (n : Nat) (k : Int) : De := ⟨Dm.cg x.g (Rm.rk x.g (Dm.st x.m x.s).1 (Dm.st x.m x.s).2 n k), Rm.rk x.g (Dm.st x.m x.s).1 (Dm.st x.m x.s).2 n k, n⟩
def val (lo hi : De) (n : Nat) (k : Int) (x : De) : De := clp (rnd x n k) lo hi
def tms (d : De) (k : Int) : De := ⟨Dm.cg (if k < 0 then !d.g else d.g) (d.m * k.natAbs), (Dm.st (d.m * k.natAbs) d.s).1, (Dm.st (d.m * k.natAbs) d.s).2⟩
def adN (a b : De) : Nat := Dm.adM a.g (a.m * 10 ^ (max a.s b.s - a.s)) b.g (b.m * 10 ^ (max a.s b.s - b.s))
def add (a b : De) : De := ⟨Dm.cg (Dm.adG a.g (a.m * 10 ^ (max a.s b.s - a.s)) b.g (b.m * 10 ^ (max a.s b.s - b.s))) (adN a b), (Dm.st (adN a b) (max a.s b.s)).1, (Dm.st (adN a b) (max a.s b.s)).2⟩
def mov (lo hi st : De) (n : Nat) (m : Int) (x : De) (k : Int) : De := val lo hi n m (add x (tms st k))
def ah (L : List Int) (s : Nat) : Nat := (Dm.dg (Dm.num ((List.replicate (s - L.length) 0 ++ L).take (L.length - s)))).length
def fit (ic sc : Int) (M s : Nat) : Bool := decide ((ah (Dm.dg (Dm.st M s).1) (Dm.st M s).2 : Int) ≤ ic) && decide (((Dm.st M s).2 : Int) ≤ sc)
theorem bhd_len (L : List Int) (s : Nat) : ((List.replicate (s - L.length) 0 ++ L).drop (L.length - s)).length = s := by
  rw [List.length_drop, List.length_append, List.length_replicate]
  omega
end Km
end Go.Proofs.Yteljedefbomlgaa
namespace Go.Proofs.Yteljedefbomlgaa
open Go.RowKit
namespace Rr
open Er (dv cellV LF LF.of LF.nil LF.mono LF.q LF.put LF.shape LF.lst block_cells some_cells block_set wrapI SD SD.q SD.put SD.start SA SA.start SA.q SA.put ret_dv ret_dv2 trim_sh)
set_option maxHeartbeats 3200000 in
theorem near_any (g : Bool) (v : Value) (s n : Nat) (L : List Int) (w : World) (hv : Lst w v L) (hl : L.length < 10000) (hd : Dm.okD L) (hs : s ≤ 1000) (hn : n ≤ 1000) :
    Calls Try.prog 68 #[dv g v s, .int .i64 n] w fun e w' => ∃ u, e = .returned (dv (Dm.cg g (Rm.lo (Dm.st (Dm.num L) s).1 (Dm.st (Dm.num L) s).2 n)) u n) ∧ LF w' (w.heap.size + 2) u (Dm.dg (Rm.lo (Dm.st (Dm.num L) s).1 (Dm.st (Dm.num L) s).2 n)) ∧ Q w w' := by
  obtain ⟨a, c, rfl⟩ := hv.shape
  have R := Lib.hid (fun u (h : SD w g (.slice a L.length c) s u) => (by
    refine (trim_sh g (.slice a L.length c) s L u (hv.q h.2.2.2.2.2.2.2.2.2.2.2) (by omega) hd (by omega)).mono ?_
    rintro e w' ⟨ya, yc, rfl, ho, hq⟩
    exact ⟨ya, yc, rfl, ho.lst, h.q hq⟩ : Calls Try.prog 51 #[.agg #[.bool g, .slice a L.length c, .int .i64 s]] u fun e w' => ∃ ya yc, e = .returned (.agg #[.bool (Dm.cg g (Dm.num L)), .slice ya (Dm.dg (Dm.st (Dm.num L) s).1).length yc, .int .i64 ((Dm.st (Dm.num L) s).2 : Nat)]) ∧ Lst w' (.slice ya (Dm.dg (Dm.st (Dm.num L) s).1).length yc) (Dm.dg (Dm.st (Dm.num L) s).1) ∧ SD w g (.slice a L.length c) s w'))
  have HS := Lib.hid (SD.start w g (.slice a L.length c) s)
  have hzs := Dm.st_le (Dm.num L) s
  have hb1 : (Dm.dg (Dm.st (Dm.num L) s).1).length ≤ L.length := by
    refine Nat.le_trans (Dm.dg_len_le _ _ ?_) (Dm.dg_len L hd)
    have h1 := Dm.st_num (Dm.num L) s
    have h2 : 0 < 10 ^ (s - (Dm.st (Dm.num L) s).2) := Nat.pow_pos (by omega)
    calc (Dm.st (Dm.num L) s).1 = (Dm.st (Dm.num L) s).1 * 1 := by rw [Nat.mul_one]
      _ ≤ (Dm.st (Dm.num L) s).1 * 10 ^ (s - (Dm.st (Dm.num L) s).2) := Nat.mul_le_mul_left _ h2
      _ = Dm.num L := h1
  have hz0 := Dm.st_eq0 (Dm.num L) s
  have hcg : Dm.cg g (Dm.num L) = Dm.cg g (Dm.st (Dm.num L) s).1 := (Dm.cg_st g (Dm.num L) s).symm
  rw [hcg] at R
  clear hcg hz0
  generalize (Dm.st (Dm.num L) s).2 = zs at *
  generalize (Dm.st (Dm.num L) s).1 = A at *
  have hnt := Rm.num_to A zs n
  have hlz : Rm.lo 0 zs n = 0 := Rm.lo_zero zs n
  obtain ⟨k, hk⟩ : ∃ k : Int, k = (n : Int) - (zs : Int) := ⟨_, rfl⟩
  rw [← hk] at hnt
  have hsl := Dm.shl_len (Dm.dg A) k
  have SH := Lib.hid (fun v T g0 v0 s0 u (h : Lst u v (Dm.dg A)) (q : SA w T g0 v0 s0 u) => (by
    refine (Dr.shift_any v (Dm.dg A) k u h (by omega) (by omega)).mono ?_
    rintro e w' ⟨x, rfl, ho, hq⟩
    obtain ⟨e1, e2, rfl⟩ := ho.shape
    exact ⟨e1, e2, rfl, ho.lst, q.q hq⟩ : Calls Try.prog 53 #[v, .int .i64 k] u fun e w' => ∃ e1 e2, e = .returned (.slice e1 (Dm.shl (Dm.dg A) k).length e2) ∧ Lst w' (.slice e1 (Dm.shl (Dm.dg A) k).length e2) (Dm.shl (Dm.dg A) k) ∧ SA w T g0 v0 s0 w'))
  have TR := Lib.hid (fun v T g0 v0 s0 u (h : Lst u v (Dm.shl (Dm.dg A) k)) (q : SA w T g0 v0 s0 u) => (by
    have htr := Dm.trim_eq (Dm.shl (Dm.dg A) k) hnt.2
    rw [hnt.1] at htr
    refine (Dr.trim_any v _ u h (by omega)).mono ?_
    rintro e w' ⟨x, rfl, ho, hq⟩
    rw [htr] at ho
    obtain ⟨e1, e2, rfl⟩ := ho.shape
    exact ⟨e1, e2, rfl, LF.of (ho.mono q.room), q.q hq⟩ : Calls Try.prog 82 #[v] u fun e w' => ∃ e1 e2, e = .returned (.slice e1 (Dm.dg (Rm.lo A zs n)).length e2) ∧ LF w' (w.heap.size + 2) (.slice e1 (Dm.dg (Rm.lo A zs n)).length e2) (Dm.dg (Rm.lo A zs n)) ∧ SA w T g0 v0 s0 w'))
  have hY : (Dm.dg (Rm.lo A zs n)).length = 0 ↔ Rm.lo A zs n = 0 := by
    rw [List.length_eq_zero_iff]
    exact Dm.dg_nil _
  have hfl : ∃ f : Bool, f = Dm.cg g (Rm.lo A zs n) ∧ ((Dm.cg g A = false ∧ f = false) ∨ (Dm.cg g A = true ∧ 0 < (Dm.dg (Rm.lo A zs n)).length ∧ f = true) ∨ (Dm.cg g A = true ∧ (Dm.dg (Rm.lo A zs n)).length = 0 ∧ f = false)) := by
    refine ⟨_, rfl, ?_⟩
    by_cases h0 : Rm.lo A zs n = 0
    · rw [h0, Dm.cg_zero]
      cases hc : Dm.cg g A
      · exact .inl ⟨rfl, rfl⟩
      · exact .inr (.inr ⟨rfl, by rw [Dm.dg_zero]; rfl, rfl⟩)
    · have hA : A ≠ 0 := by rintro rfl; exact h0 hlz
      rw [Dm.cg_pos h0, Dm.cg_pos hA]
      cases g
      · exact .inl ⟨rfl, rfl⟩
      · exact .inr (.inl ⟨rfl, by have := mt hY.1 h0; omega, rfl⟩)
  obtain ⟨f, hf, hfl⟩ := hfl
  rw [← hf]
  generalize Dm.dg (Rm.lo A zs n) = Y at *
  generalize Dm.shl (Dm.dg A) k = PX at *
  generalize Dm.cg g A = cs at *
  generalize Dm.dg A = Z at *
  obtain ⟨r, hr⟩ : ∃ r, Y.length = r := ⟨_, rfl⟩
  rw [hr] at hfl TR
  have HR := Lib.hid hr
  generalize PX.length = m at *
  generalize Z.length = p at *
  clear hb1 hsl hnt hlz hY hf hr
  generalize L.length = l at *
  clear hv hd
  go_enter Try.func68, Try.ntmps68
  unfold dv
  go_wp2_with fail
  refine (R.out _ HS.out).mono ?_
  rintro e z1 ⟨xa, xc, rfl, hlx, hS⟩
  have HA := Lib.hid (SA.start hS cs (.slice xa p xc) zs)
  have HLX := Lib.hid (hlx.q ((Q.refl z1).alloc (.cells #[.bool cs, .slice xa p xc, .int .i64 zs] 24)))
  clear hS hlx
  have hA := HA.out
  unfold SA at hA
  obtain ⟨a0, a1, a2, b0, b1, b2, b3, b4, b5, _, _, _, _⟩ := hA
  have hw1 : IntKind.i64.wrap ((n : Int) - (zs : Int)) = k := by rw [wrapI (by omega) (by omega)]; exact hk.symm
  have hw2 : (n : Int) - (zs : Int) = k := hk.symm
  have HK := Lib.hid hk
  clear hk
  go_wp2_with fail
  refine (SH.out _ _ _ _ _ _ HLX.out HA.out).mono ?_
  rintro e z2 ⟨ya, yc, rfl, hlst, hS⟩
  have hT := TR.out _ _ _ _ _ _ hlst hS
  clear hlst hS a0 a1 a2 b0 b1 b2 b3 b4 b5
  go_wp2_with fail
  refine hT.mono ?_
  rintro e z3 ⟨ua, uc, rfl, hlf, hS⟩
  have hfin := hS.put (.bool f) (.slice ua r uc) (.int .i64 n)
  have hlf2 := hlf.put (r := w.heap.size + 1) (Nat.lt_succ_self _) (.bool f) (.slice ua r uc) (.int .i64 n)
  have hqf : Q w _ := hfin.1.2.2.2.2.2.2.2.2.2.2.2.2
  have HF := Lib.hid hfin.2
  have HO := Lib.hid hlf2
  have HQ := Lib.hid hqf
  clear hfin hlf2 hqf hlf hT
  unfold SA at hS
  obtain ⟨a0, a1, a2, b0, b1, b2, b3, b4, b5, _, _, _, _⟩ := hS
  rcases hfl with ⟨rfl, rfl⟩ | ⟨rfl, hr0, rfl⟩ | ⟨rfl, rfl, rfl⟩
  · go_wp2_with fail
    exact ret_dv rfl rfl HF.out rfl ⟨_, rfl, HO.out, HQ.out⟩
  · have hr1 : (0 : Int) < (r : Int) := by omega
    go_wp2_with fail
    exact ret_dv rfl rfl HF.out rfl ⟨_, rfl, HO.out, HQ.out⟩
  · go_wp2_with fail
    exact ret_dv rfl rfl HF.out rfl ⟨_, rfl, HO.out, HQ.out⟩
theorem one_any (g : Bool) (n : Nat) (w : World) :
    Calls Try.prog 69 #[.bool g, .int .i64 n] w fun e w' => ∃ a c, e = .returned (.agg #[.bool g, .slice a 1 c, .int .i64 n]) ∧ Lst w' (.slice a 1 c) [1] ∧ Q w w' := by
  go_enter Try.func69, Try.ntmps69
  go_wp2_with fail
  refine ret_dv rfl rfl (heap_alloc2_old _ _ _) rfl ⟨_, _, rfl, .inr ⟨w.heap.size + 1, 0, 1, rfl, by simp, by simp, by unfold maxLen; omega, fun i hi => ?_⟩, ((Q.refl w).alloc _).alloc _⟩
  have hi0 : i = 0 := by simp at hi; omega
  subst hi0
  have hb := heap_alloc2_new w (.cells #[.bool g, .slice (some ⟨w.heap.size + 1, 0, none⟩) 1 1, .int .i64 n] 24) (.cells #[.int .i64 1] 3)
  unfold World.cell?
  dsimp only
  rw [hb]
  rfl
end Rr
end Go.Proofs.Yteljedefbomlgaa
