/- What package digit's settle comes to, which writes in place, by a walk through it. -/
import Derived.Test.YtagpofhencpliaaRows
import Derived.Test.YtagpofhencpliaaDigL
import Derived.Test.YtagpofhencpliaaInts
import Derived.Test.YtagpofhencpliaaSto
import Derived.Test.YtagpofhencpliaaDigW
import Derived.Test.YtagpofhencpliaaDigU
import Derived.Deep.QuietTactic
import Derived.Deep.RegionWith
import Derived.BigQuiet
set_option linter.unusedVariables false
set_option linter.unusedSimpArgs false
namespace Go.Proofs.Ytagpofhencpliaa
open Go.RowKit
namespace Dw

/-- A list lies in a block that is not older than B. -/
def New (B : Nat) (u : Value) : Prop := ∀ (ad : Addr) (n c : Nat), u = .slice (some ad) n c → n ≠ 0 → B ≤ ad.block
theorem New.here {B : Nat} {g : Nat} (h : B ≤ g) (o n c : Nat) : New B (.slice (some ⟨g, o, none⟩) n c) := fun ad m d e _ => by cases e; exact h
theorem New.nil (B : Nat) (a : Option Addr) (c : Nat) : New B (.slice a 0 c) := fun ad m d e hm => by cases e; exact absurd rfl hm
theorem New.mono {B C : Nat} {u : Value} (h : New B u) (hC : C ≤ B) : New C u := fun ad n c e hn => Nat.le_trans hC (h ad n c e hn)
theorem New.own {w : World} {B : Nat} {v : Value} {zs : List Int} (h : Own w B v zs) : New B v := by
  intro ad n c e hn
  rcases h.2 with ⟨hv, _⟩ | ⟨g, cap, cur, hv, hg, _⟩
  · rw [hv] at e; cases e
  · rw [hv] at e; cases e; exact hg
theorem New.ne {B b : Nat} {u : Value} (h : New B u) (hb : b < B) : ∀ (a : Addr) (n c : Nat), u = .slice (some a) n c → n ≠ 0 → a.block ≠ b := fun a n c e hn => by
  have := h a n c e hn
  omega
end Dw
end Go.Proofs.Ytagpofhencpliaa
