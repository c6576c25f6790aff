/- The document's own answers on patterns: in, kind, tokens. -/
import Derived.Test.YtjloibgjnnknnaaDoorRows
import Derived.Test.YtjloibgjnnknnaaDoorInts
import Derived.Test.YtjloibgjnnknnaaDoorUtfM
import Derived.Test.YtjloibgjnnknnaaDoorUtfG
import Derived.Test.YtjloibgjnnknnaaDoorUtfR
import Derived.Test.YtjloibgjnnknnaaDoorPcs
import Derived.Test.YtjloibgjnnknnaaDoorPatM
import Derived.Deep.QuietTactic
import Derived.BigQuiet
set_option linter.unusedVariables false
set_option linter.unusedSimpArgs false
namespace Go.Proofs.YtjloibgjnnknnaaDoor
open Go.RowKit
namespace Pr
open Pt Um

/-- Does a character stand in a text of few signs? -/
def inS (c : Int) (l : List UInt8) : Bool := l.any fun b => c == ((b.toNat : Nat) : Int)
theorem inS_at {c : Int} {s : ByteArray} {k : Nat} (hk : k < s.size) (h : c = (((s[k]'hk).toNat : Nat) : Int)) : inS c s.data.toList = true := by
  unfold inS
  rw [List.any_eq_true]
  refine ⟨s[k], ?_, by rw [h]; simp⟩
  exact List.getElem_mem (l := s.data.toList) (n := k) (by rw [size_list]; exact hk)
theorem inS_no {c : Int} {s : ByteArray} (h : ∀ k (hk : k < s.size), c ≠ (((s[k]'hk).toNat : Nat) : Int)) : inS c s.data.toList = false := by
  unfold inS
  rw [List.any_eq_false]
  intro b hb
  obtain ⟨k, hk, he⟩ := List.mem_iff_getElem.1 hb
  rw [size_list] at hk
  have := h k hk
  intro hb
  rw [beq_iff_eq] at hb
  refine this ?_
  rw [hb, ← he]; rfl
theorem in_four (c : Int) : inS c [35, 48, 44, 46] = (c == 35 || (c == 48 || (c == 44 || c == 46))) := by simp [inS]
theorem in_bad (c : Int) : inS c [49, 50, 51, 52, 53, 54, 55, 56, 57, 64, 42, 43, 69] = true ↔ ((49 ≤ c ∧ c ≤ 57) ∨ c = 64 ∨ c = 42 ∨ c = 43 ∨ c = 69) := by
  simp [inS]; omega
end Pr
end Go.Proofs.YtjloibgjnnknnaaDoor
