/- Texts made of any: their bytes and lengths. Our own work. -/
import Derived.Deep.Cut
import Derived.Deep.DeepCutAuto
import Derived.Test.YtjloibgjnnknnaaDoorRows
import Derived.Test.YtjloibgjnnknnaaDoorInts
import Derived.Test.YtjloibgjnnknnaaDoorUtfM
import Derived.Test.YtjloibgjnnknnaaDoorUtfG
import Derived.Test.YtjloibgjnnknnaaDoorUtfR
import Derived.Test.YtjloibgjnnknnaaDoorBlk
import Derived.Test.YtjloibgjnnknnaaDoorPcs
import Derived.Test.YtjloibgjnnknnaaDoorPatM
import Derived.Test.YtjloibgjnnknnaaDoorPatN
import Derived.Test.YtjloibgjnnknnaaDoorPatO
import Derived.Deep.QuietTactic
import Derived.BigQuiet
import Derived.Deep.RegionHeld3
set_option linter.unusedVariables false
set_option linter.unusedSimpArgs false
namespace Go.Proofs.YtjloibgjnnknnaaDoor
open Go.RowKit
namespace Tx
open Pt Um Pr

def sB (L : List Int) : ByteArray := ⟨(L.flatMap encL).toArray⟩
theorem sB_app (a b : List Int) : sB a ++ sB b = sB (a ++ b) := by
  unfold sB; apply ba_ext; simp [ByteArray.toList_data_append]
theorem sB_44 : sB [44] = ⟨#[44]⟩ := by decide +kernel
theorem sB_48 : sB [48] = ⟨#[48]⟩ := by decide +kernel
theorem sB_35 : sB [35] = ⟨#[35]⟩ := by decide +kernel
theorem sB_46 : sB [46] = ⟨#[46]⟩ := by decide +kernel
theorem sB_59 : sB [59] = ⟨#[59]⟩ := by decide +kernel
theorem encL_len4 (c : Int) : (encL c).length ≤ 4 := by unfold encL; rw [size_list]; exact encB_size c
theorem sB_size (L : List Int) : (sB L).size ≤ 4 * L.length := by
  have h : ∀ L : List Int, (L.flatMap encL).length ≤ 4 * L.length := by
    intro L
    induction L with
    | nil => simp
    | cons c r ih => rw [List.flatMap_cons, List.length_append, List.length_cons]; have := encL_len4 c; omega
  rw [← size_list]; exact h L
theorem sgn_len : ∀ x, (sgn.getD x []).length ≤ 4 := by
  intro x
  by_cases h : x < 10
  · revert x; decide +kernel
  · rw [List.getD_eq_getElem?_getD, List.getElem?_eq_none (by show 10 ≤ x; omega)]; simp
theorem sgL_len (l : List Int) : (sgL l).length ≤ 20 := by
  unfold sgL
  have h : ∀ m : List Int, (m.flatMap fun n => sgn.getD (around n 10).toNat []).length ≤ 4 * m.length := by
    intro m
    induction m with
    | nil => simp
    | cons c r ih => rw [List.flatMap_cons, List.length_append, List.length_cons]; have := sgn_len (around c 10).toNat; omega
  have := h (l.take 5)
  rw [List.length_take] at this
  omega
/-- A second half's text. -/
def twoT (two : Bool) (np ns : List Int) : List Int := if two = true then 59 :: (sgL np ++ [48] ++ sgL ns) else []
theorem cut48 (a : Nat) (h : a < 4) : (⟨#[48, 48, 48]⟩ : ByteArray).extract 0 a = sB ([48, 48, 48].take a) := by
  match a, h with
  | 0, _ => decide +kernel
  | 1, _ => decide +kernel
  | 2, _ => decide +kernel
  | 3, _ => decide +kernel
theorem cut35 (a : Nat) (h : a < 4) : (⟨#[35, 35, 35]⟩ : ByteArray).extract 0 a = sB ([35, 35, 35].take a) := by
  match a, h with
  | 0, _ => decide +kernel
  | 1, _ => decide +kernel
  | 2, _ => decide +kernel
  | 3, _ => decide +kernel
theorem whl_succ (n z p q : Int) (m : Nat) : whl n z p q (m + 1) = (if ((m + 1 : Nat) : Int) < n ∧ (((m + 1 : Nat) : Int) = p ∨ (0 < p ∧ 0 < q ∧ ((m + 1 : Nat) : Int) = p + q)) then [44] else []) ++ (if ((m + 1 : Nat) : Int) ≤ z then 48 else 35) :: whl n z p q m := rfl
theorem whl_len (n z p q : Int) (m : Nat) : (whl n z p q m).length ≤ 2 * m := by
  induction m with
  | zero => simp [whl]
  | succ m ih => rw [whl_succ, List.length_append, List.length_cons]; split <;> simp <;> omega
theorem nmT_len (z p q a b : Nat) : (nmT z p q a b).length ≤ 2 * max z (p + q + 1) + 7 := by
  unfold nmT
  have := whl_len ((max z (p + q + 1) : Nat) : Int) z p q (max z (p + q + 1))
  simp only [List.length_append]
  split
  · simp only [List.length_cons, List.length_append, List.length_take, List.length_nil]; omega
  · simp only [List.length_nil]; omega
end Tx
end Go.Proofs.YtjloibgjnnknnaaDoor
