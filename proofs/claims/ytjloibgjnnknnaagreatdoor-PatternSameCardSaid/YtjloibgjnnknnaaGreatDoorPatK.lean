/- The document's own answers on patterns: Parse of any text. -/
import Derived.Test.YtjloibgjnnknnaaGreatDoorRows
import Derived.Test.YtjloibgjnnknnaaGreatDoorInts
import Derived.Test.YtjloibgjnnknnaaGreatDoorSto
import Derived.Test.YtjloibgjnnknnaaGreatDoorUtfM
import Derived.Test.YtjloibgjnnknnaaGreatDoorPcs
import Derived.Test.YtjloibgjnnknnaaGreatDoorPatM
import Derived.Test.YtjloibgjnnknnaaGreatDoorPatS
import Derived.Test.YtjloibgjnnknnaaGreatDoorPatU
import Derived.Test.YtjloibgjnnknnaaGreatDoorPatW
import Derived.Test.YtjloibgjnnknnaaGreatDoorPatY
import Derived.Test.YtjloibgjnnknnaaGreatDoorPatX
set_option linter.unusedVariables false
set_option linter.unusedSimpArgs false
namespace Go.Proofs.YtjloibgjnnknnaaGreatDoor
open Go.RowKit
namespace Pr
open Pt Um

theorem kind4 {c : Int} (h : kindC c = 4) : ∃ b : UInt8, encL c = [b] ∧ ((b.toNat : Nat) : Int) = c := by
  have hc : c = 35 ∨ c = 48 ∨ c = 44 ∨ c = 46 := by
    unfold kindC at h
    split at h
    · cases h
    · split at h
      · cases h
      · split at h
        · cases h
        · split at h
          · assumption
          · split at h
            · cases h
            · split at h <;> cases h
  rcases hc with rfl | rfl | rfl | rfl
  · exact ⟨35, by decide +kernel, by decide⟩
  · exact ⟨48, by decide +kernel, by decide⟩
  · exact ⟨44, by decide +kernel, by decide⟩
  · exact ⟨46, by decide +kernel, by decide⟩
theorem sgnOk_cons {x : Int × Int} {l : List (Int × Int)} (h : x.1 = 4 → ∃ b : UInt8, encL x.2 = [b] ∧ ((b.toNat : Nat) : Int) = x.2) (hl : sgnOk l) : sgnOk (x :: l) := by
  intro y hy
  rcases List.mem_cons.1 hy with rfl | hy
  · exact h
  · exact hl y hy
theorem tok_ok (cs : List Int) : ∀ (q p : Bool) (l : List (Int × Int)), tokS q p cs = some l → sgnOk l ∧ l.length ≤ cs.length := by
  induction cs with
  | nil =>
    intro q p l h
    simp only [tokS] at h
    split at h
    · cases h
    · cases h; exact ⟨fun x hx => absurd hx List.not_mem_nil, Nat.le_refl _⟩
  | cons c r ih =>
    intro q p l h
    rw [tokS_cons] at h
    split at h
    · split at h
      · obtain ⟨m, hm, rfl⟩ := Option.map_eq_some_iff.1 h
        obtain ⟨h1, h2⟩ := ih _ _ _ hm
        exact ⟨sgnOk_cons (fun h => by cases h) h1, by simp; omega⟩
      · obtain ⟨h1, h2⟩ := ih _ _ _ h
        exact ⟨h1, by simp; omega⟩
    · split at h
      · obtain ⟨m, hm, rfl⟩ := Option.map_eq_some_iff.1 h
        obtain ⟨h1, h2⟩ := ih _ _ _ hm
        exact ⟨sgnOk_cons (fun h => by cases h) h1, by simp; omega⟩
      · split at h
        · cases h
        · obtain ⟨m, hm, rfl⟩ := Option.map_eq_some_iff.1 h
          obtain ⟨h1, h2⟩ := ih _ _ _ hm
          exact ⟨sgnOk_cons kind4 h1, by simp; omega⟩
/-- Parse of whatever text. -/
theorem Parse_all (s : ByteArray) (w : World) (hs : s.size ≤ 100000) :
    Calls Tryz.prog 6 #[.string s] w fun e w' => ∃ v, e = .returned (.tuple #[v, .int .i64 (parseC (allL s.data.toList)).2]) ∧ PV w' v (parseC (allL s.data.toList)).1 ∧ Q w w' := by
  cases h : tkn (allL s.data.toList) with
  | none =>
    have e : parseC (allL s.data.toList) = (pat0, 2) := by unfold parseC; rw [h]
    rw [e]
    exact Parse_no s w hs h
  | some l =>
    have e : parseC (allL s.data.toList) = parseT l := by unfold parseC; rw [h]
    rw [e]
    obtain ⟨h1, h2⟩ := tok_ok _ _ _ _ h
    have hml := marks_length s.data.toList
    rw [size_list] at hml
    have hcl : (allL s.data.toList).length ≤ 100000 := by unfold allL; simp; omega
    exact Parse_any s l w hs h (Nat.le_trans h2 hcl) h1

end Pr
end Go.Proofs.YtjloibgjnnknnaaGreatDoor
