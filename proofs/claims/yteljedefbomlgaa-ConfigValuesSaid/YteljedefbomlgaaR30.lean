/- Times of decimals: the program's and the document's own are one, whatever the arguments; what is so many times and as many times less is none together. (and more) -/
import Derived.Test.YteljedefbomlgaaR00
import Derived.Test.YteljedefbomlgaaR12
import Derived.Test.YteljedefbomlgaaR23
import Derived.Test.YteljedefbomlgaaR19
import Derived.Test.YteljedefbomlgaaR24
import Derived.Test.YteljedefbomlgaaR29
import Derived.Test.YteljedefbomlgaaR01
import Derived.Test.YteljedefbomlgaaR13
import Derived.Test.YteljedefbomlgaaR15
import Derived.Test.YteljedefbomlgaaR08
import Derived.Test.YteljedefbomlgaaR10
import Derived.Test.YteljedefbomlgaaR11
import Derived.Test.YteljedefbomlgaaR04
import Derived.Test.YteljedefbomlgaaR02
import Derived.Test.YteljedefbomlgaaR07
import Derived.Test.YteljedefbomlgaaRows
import Derived.Deep.QuietTactic
import Derived.Deep.RegionWith
import Derived.Deep.RegionHeld3
import Derived.BigQuiet
import Derived.Laws.ResultCell
set_option linter.unusedVariables false
set_option linter.unusedSimpArgs false
namespace Go.Proofs.Yteljedefbomlgaa
open Go.RowKit
namespace Ep
open Er (dv cellV LF LF.of LF.nil LF.mono LF.q LF.put LF.shape LF.lst block_cells some_cells block_set wrapI num_shl okD_shl)
def R1 (f : FuncId) (g : Bool) (v : Value) (s k : Int) (L : List Int) (gr : Bool) (Z : List Int) (sr er : Int) : Prop :=
  ∀ u, Lst u v L → Calls Try.prog f #[.agg #[.bool g, v, .int .i64 s], .int .i64 k] u fun e w' => ∃ a c, e = .returned (.tuple #[.agg #[.bool gr, .slice a Z.length c, .int .i64 sr], .int .i64 er]) ∧ Lst w' (.slice a Z.length c) Z ∧ Q u w'
theorem shut {e : Ending} {u w' : World} {B : Nat} {gr : Bool} {Z : List Int} {sr er : Int} (h : ∃ x, e = .returned (.tuple #[dv gr x sr, .int .i64 er]) ∧ LF w' B x Z ∧ Q u w') : ∃ a c, e = .returned (.tuple #[.agg #[.bool gr, .slice a Z.length c, .int .i64 sr], .int .i64 er]) ∧ Lst w' (.slice a Z.length c) Z ∧ Q u w' := by
  obtain ⟨x, rfl, hx, hq⟩ := h
  obtain ⟨a, c, rfl⟩ := hx.shape
  exact ⟨a, c, rfl, hx.lst, hq⟩
def tg (g : Bool) (k : Int) (M : Nat) : Bool := if k < 0 then Dm.cg (!g) (M * k.natAbs) else Dm.cg g (M * k.natAbs)
theorem few_sh (u : World) (g : Bool) (a : Option Addr) (n c : Nat) (s : Int) (m q : Nat) (hn : n ≤ c) (hc : c ≤ maxLen) (hm : m < 1000000) (hq : min n m = q) : Calls Try.prog 13 #[.agg #[.bool g, .slice a n c, .int .i64 s], .int .i64 m] u fun e w' => e = .returned (.agg #[.bool g, .slice a q c, .int .i64 s]) ∧ Q u w' := by
  subst hq
  exact Er.few_any g a n c s m u hn hc hm
end Ep
end Go.Proofs.Yteljedefbomlgaa
