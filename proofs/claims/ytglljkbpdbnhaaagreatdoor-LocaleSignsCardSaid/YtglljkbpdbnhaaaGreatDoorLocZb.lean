/- A digit's text is empty just where there is none. -/
import Derived.Test.YtglljkbpdbnhaaaGreatDoorRows
import Derived.Test.YtglljkbpdbnhaaaGreatDoorMA
import Derived.Test.YtglljkbpdbnhaaaGreatDoorMB
import Derived.Test.YtglljkbpdbnhaaaGreatDoorME
import Derived.Test.YtglljkbpdbnhaaaGreatDoorMBP
import Derived.Test.YtglljkbpdbnhaaaGreatDoorMBS
import Derived.Test.YtglljkbpdbnhaaaGreatDoorMH
import Derived.Test.YtglljkbpdbnhaaaGreatDoorLocM
import Derived.Test.YtglljkbpdbnhaaaGreatDoorLocB
import Derived.Test.YtglljkbpdbnhaaaGreatDoorLocU
import Derived.Test.YtglljkbpdbnhaaaGreatDoorLocW
import Derived.Test.YtglljkbpdbnhaaaGreatDoorLocX
set_option linter.unusedVariables false
set_option linter.unusedSimpArgs false
namespace Go.Proofs.YtglljkbpdbnhaaaGreatDoor
open Go.RowKit
namespace Ro
open Um Cm Gm Lo


theorem dgt_ne {r : Lm.Rec} {X : Pt.Pat} (h : IsMk r X) (m : Nat) (hm : m < 10) : (Lm.dgt r m).toList.isEmpty = false := by
  obtain ⟨x, hx, _, _⟩ := sym_fact h m (by omega)
  have hz := (ok_of h).ne m x hx (by omega)
  have h2 : (Lm.syms r)[m]? = some (Lm.dgt r m) := by
    match m, hm with
    | 0, _ => rfl
    | 1, _ => rfl
    | 2, _ => rfl
    | 3, _ => rfl
    | 4, _ => rfl
    | 5, _ => rfl
    | 6, _ => rfl
    | 7, _ => rfl
    | 8, _ => rfl
    | 9, _ => rfl
  rw [h2] at hx
  rw [Option.some.inj hx, emp_eq]
  have hl := size_list x
  cases hxl : x.data.toList with
  | nil => rw [hxl] at hl; simp at hl; omega
  | cons _ _ => rfl
theorem emp_emp : (⟨#[]⟩ : ByteArray).toList.isEmpty = true := by decide +kernel
theorem digit_yes {r : Lm.Rec} {X : Pt.Pat} (h : IsMk r X) (g : Nat) (a b c d cl : Value) (d0 : Int) (w : World) (hB : LB w g r X a b c d cl) (h0 : 0 ≤ d0) (h9 : d0 ≤ 9) :
    Calls Tryz.prog 16 #[.pointer (some ⟨g, 0, none⟩), .int .i64 d0] w fun e w' => (∃ s, e = .returned (.string s) ∧ s.toList.isEmpty = false) ∧ Q w w' := by
  obtain ⟨m, rfl⟩ : ∃ m : Nat, d0 = m := ⟨d0.toNat, by omega⟩
  exact (digit_in g r X a b c d cl m w hB (by omega)).mono fun e w' ⟨h1, h2⟩ => ⟨⟨_, h1, dgt_ne h m (by omega)⟩, h2⟩
theorem digit_not (g : Nat) (d0 : Int) (w : World) (h : d0 < 0 ∨ 10 ≤ d0) :
    Calls Tryz.prog 16 #[.pointer (some ⟨g, 0, none⟩), .int .i64 d0] w fun e w' => (∃ s, e = .returned (.string s) ∧ s.toList.isEmpty = true) ∧ Q w w' :=
  (digit_out g d0 w h).mono fun e w' ⟨h1, h2⟩ => ⟨⟨_, h1, emp_emp⟩, h2⟩
theorem rdigit_mk {r : Lm.Rec} {X : Pt.Pat} (h : IsMk r X) (k : Nat) (hk : k < 10) (w : World) :
    Calls Tryz.prog 17 #[.string (Lm.bs r.sys), .int .i64 (k : Int)] w fun e w' => e = .returned (.string (Lm.dgt r k)) ∧ Q w w' := by
  have hs := (ok_of h).sys
  have h2 := Sr.digit_any (Lm.bs r.sys) (k : Int) w (by omega) (by omega)
  rw [Lm.bs_list] at h2
  rw [show Lm.dgt r k = encB (Sm.nz r.sys + k) by unfold Lm.dgt Sm.dgS; rw [if_neg (by omega), if_pos (by omega)]]
  exact h2

end Ro
end Go.Proofs.YtglljkbpdbnhaaaGreatDoor
