/- Times of decimals: the program's and the document's own are one, whatever the arguments; what is so many times and as many times less is none together. -/
import Derived.Test.YtebcgpoemppljaaRows
import Derived.Test.YtebcgpoemppljaaDigL
import Derived.Test.YtebcgpoemppljaaDecM
import Derived.Test.YtebcgpoemppljaaInts
import Derived.Test.YtebcgpoemppljaaSto
import Derived.Test.YtebcgpoemppljaaStoB
import Derived.Test.YtebcgpoemppljaaDigW
import Derived.Test.YtebcgpoemppljaaDigV
import Derived.Test.YtebcgpoemppljaaDigX
import Derived.Test.YtebcgpoemppljaaDigQ
import Derived.Test.YtebcgpoemppljaaDecR
import Derived.Test.YtebcgpoemppljaaDecS
import Derived.Test.YtebcgpoemppljaaDecC
import Derived.Test.YtebcgpoemppljaaDecP
import Derived.Test.YtebcgpoemppljaaDecQ
import Derived.Test.YtebcgpoemppljaaDecE
import Derived.Test.YtebcgpoemppljaaDecH
import Derived.Test.YtebcgpoemppljaaDecI
import Derived.Test.YtebcgpoemppljaaDecJ
import Derived.Test.YtebcgpoemppljaaDecZ
import Derived.Deep.QuietTactic
import Derived.Deep.RegionWith
import Derived.Deep.RegionHeld3
import Derived.BigQuiet
import Derived.Laws.ResultCell
set_option linter.unusedVariables false
set_option linter.unusedSimpArgs false
namespace Go.Proofs.Ytebcgpoemppljaa
open Go.RowKit
namespace Ep
open Er (dv cellV LF LF.of LF.nil LF.mono LF.q LF.put LF.shape LF.lst block_cells some_cells block_set wrapI num_shl okD_shl)
/-- What a call of a function on one decimal and a number comes to: a decimal, and an error. -/
def R1 (f : FuncId) (g : Bool) (v : Value) (s k : Int) (L : List Int) (gr : Bool) (Z : List Int) (sr er : Int) : Prop :=
  ∀ u, Lst u v L → Calls Try.prog f #[.agg #[.bool g, v, .int .i64 s], .int .i64 k] u fun e w' => ∃ a c, e = .returned (.tuple #[.agg #[.bool gr, .slice a Z.length c, .int .i64 sr], .int .i64 er]) ∧ Lst w' (.slice a Z.length c) Z ∧ Q u w'
/-- .. of a function on two decimals. -/
def R2 (f : FuncId) (g : Bool) (v : Value) (s : Int) (L : List Int) (h : Bool) (x : Value) (t : Int) (N : List Int) (gr : Bool) (Z : List Int) (sr er : Int) : Prop :=
  ∀ u, Lst u v L → Lst u x N → Calls Try.prog f #[.agg #[.bool g, v, .int .i64 s], .agg #[.bool h, x, .int .i64 t]] u fun e w' => ∃ a c, e = .returned (.tuple #[.agg #[.bool gr, .slice a Z.length c, .int .i64 sr], .int .i64 er]) ∧ Lst w' (.slice a Z.length c) Z ∧ Q u w'
theorem shut {e : Ending} {u w' : World} {B : Nat} {gr : Bool} {Z : List Int} {sr er : Int} (h : ∃ x, e = .returned (.tuple #[dv gr x sr, .int .i64 er]) ∧ LF w' B x Z ∧ Q u w') : ∃ a c, e = .returned (.tuple #[.agg #[.bool gr, .slice a Z.length c, .int .i64 sr], .int .i64 er]) ∧ Lst w' (.slice a Z.length c) Z ∧ Q u w' := by
  obtain ⟨x, rfl, hx, hq⟩ := h
  obtain ⟨a, c, rfl⟩ := hx.shape
  exact ⟨a, c, rfl, hx.lst, hq⟩
theorem shut0 {e : Ending} {u w' : World} {gr : Bool} {sr er : Int} (h : e = .returned (.tuple #[dv gr (.slice none 0 0) sr, .int .i64 er]) ∧ Q u w') : ∃ a c, e = .returned (.tuple #[.agg #[.bool gr, .slice a 0 c, .int .i64 sr], .int .i64 er]) ∧ Lst w' (.slice a 0 c) [] ∧ Q u w' := by
  obtain ⟨rfl, hq⟩ := h
  exact ⟨none, 0, rfl, (LF.nil _ 0).lst, hq⟩
def tg (g : Bool) (k : Int) (M : Nat) : Bool := if k < 0 then Dm.cg (!g) (M * k.natAbs) else Dm.cg g (M * k.natAbs)
theorem times_len (s : Nat) (k : Int) (L : List Int) (hd : Dm.okD L) (hk : -1000 ≤ k ∧ k ≤ 1000) : (Dm.dg (Dm.st (Dm.num L * k.natAbs) s).1).length ≤ L.length + 4 := by
  have h1 : (Dm.dg (Dm.num L * k.natAbs)).length ≤ L.length + 4 := by
    refine Dm.dg_len_lt _ _ ?_
    have h1 := Dm.num_lt L hd
    have h2 : Dm.num L * k.natAbs < 10 ^ L.length * 10 ^ 4 := by
      have h3 : Dm.num L * k.natAbs ≤ Dm.num L * 1000 := Nat.mul_le_mul_left _ (by omega)
      omega
    rwa [← Nat.pow_add] at h2
  have h2 := Dm.dg_len_le (Dm.st (Dm.num L * k.natAbs) s).1 (Dm.num L * k.natAbs) (by
    have h1 := Dm.st_num (Dm.num L * k.natAbs) s
    have h2 : 0 < 10 ^ (s - (Dm.st (Dm.num L * k.natAbs) s).2) := Nat.pow_pos (by omega)
    calc (Dm.st (Dm.num L * k.natAbs) s).1 = (Dm.st (Dm.num L * k.natAbs) s).1 * 1 := by rw [Nat.mul_one]
      _ ≤ (Dm.st (Dm.num L * k.natAbs) s).1 * 10 ^ (s - (Dm.st (Dm.num L * k.natAbs) s).2) := Nat.mul_le_mul_left _ h2
      _ = Dm.num L * k.natAbs := h1)
  omega
theorem few_sh (u : World) (g : Bool) (a : Option Addr) (n c : Nat) (s : Int) (m q : Nat) (hn : n ≤ c) (hc : c ≤ maxLen) (hm : m < 1000000) (hq : min n m = q) : Calls Try.prog 11 #[.agg #[.bool g, .slice a n c, .int .i64 s], .int .i64 m] u fun e w' => e = .returned (.agg #[.bool g, .slice a q c, .int .i64 s]) ∧ Q u w' := by
  subst hq
  exact Er.few_any g a n c s m u hn hc hm
end Ep
end Go.Proofs.Ytebcgpoemppljaa
