/- Printing decimals: the program's and the document's own are one, whatever the decimal. -/
import Derived.Test.YtilbefdeanhnpaaRows
import Derived.Test.YtilbefdeanhnpaaDigL
import Derived.Test.YtilbefdeanhnpaaDecM
import Derived.Test.YtilbefdeanhnpaaInts
import Derived.Test.YtilbefdeanhnpaaSto
import Derived.Test.YtilbefdeanhnpaaStoB
import Derived.Test.YtilbefdeanhnpaaDigW
import Derived.Test.YtilbefdeanhnpaaDigV
import Derived.Test.YtilbefdeanhnpaaDigX
import Derived.Test.YtilbefdeanhnpaaDigQ
import Derived.Test.YtilbefdeanhnpaaDecR
import Derived.Test.YtilbefdeanhnpaaDecS
import Derived.Test.YtilbefdeanhnpaaDecC
import Derived.Test.YtilbefdeanhnpaaDecP
import Derived.Test.YtilbefdeanhnpaaDecQ
import Derived.Test.YtilbefdeanhnpaaDecL
import Derived.Test.YtilbefdeanhnpaaDecN
import Derived.Test.YtilbefdeanhnpaaDecZ
import Derived.Deep.QuietTactic
import Derived.Deep.RegionWith
import Derived.Deep.RegionHeld3
import Derived.BigQuiet
import Derived.Laws.ResultCell
set_option linter.unusedVariables false
set_option linter.unusedSimpArgs false
namespace Go.Proofs.Ytilbefdeanhnpaa
open Go.RowKit
namespace Ep
open Er (dv cellV LF LF.of LF.nil LF.mono LF.q LF.put LF.shape LF.lst block_cells some_cells block_set wrapI num_shl okD_shl)
/-- Of whatever decimal the program's and the document's own Print are one. -/
theorem print_both (g : Bool) (s : Int) (L : List Int) (hl : L.length < 10000) (hs : -9223372036854775808 ≤ s ∧ s ≤ 9223372036854775807) :
    ∃ t : ByteArray, (∀ u v, Lst u v L → Calls Try.prog 21 #[.agg #[.bool g, v, .int .i64 s]] u fun e w' => e = .returned (.string t) ∧ Q u w') ∧ (∀ u v, Lst u v L → Calls Try.prog 11 #[.agg #[.bool g, v, .int .i64 s]] u fun e w' => e = .returned (.string t) ∧ Q u w') := by
  cases hb : (Dm.okB L && decide (0 ≤ s) && decide (s ≤ 1000))
  · exact ⟨⟨#[]⟩, fun u v hv => print_bad g v s L u hv (by omega) hs hb, fun u v hv => Er.print_bad g v s L u hv (by omega) hs hb⟩
  · simp only [Bool.and_eq_true, decide_eq_true_eq] at hb
    obtain ⟨⟨h1, h2⟩, h3⟩ := hb
    obtain ⟨t, rfl⟩ : ∃ t : Nat, s = (t : Int) := ⟨s.toNat, by omega⟩
    exact ⟨Dm.prt g L t, fun u v hv => print_any g v t L u hv hl ((Dm.okB_iff L).1 h1) (by omega), fun u v hv => Er.print_any g v t L u hv hl ((Dm.okB_iff L).1 h1) (by omega)⟩
theorem may_both (g : Bool) (s : Int) (L : List Int) (hl : L.length < 10000) (hs : -9223372036854775808 ≤ s ∧ s ≤ 9223372036854775807) :
    ∃ b : Bool, (∀ u v, Lst u v L → Calls Try.prog 23 #[.agg #[.bool g, v, .int .i64 s]] u fun e w' => e = .returned (.bool b) ∧ Q u w') ∧ (∀ u v, Lst u v L → Calls Try.prog 24 #[.agg #[.bool g, v, .int .i64 s]] u fun e w' => e = .returned (.bool b) ∧ Q u w') :=
  ⟨_, fun u v hv => may_any g v s L u hv (by omega) hs, fun u v hv => Er.may_any g v s L u hv (by omega) hs⟩
theorem may_own (g : Bool) (v : Value) (s : Nat) (L : List Int) (u : World) (hv : Lst u v L) (hl : L.length < 10000) (hd : Dm.okD L) (hs : s ≤ 1000) : Calls Try.prog 23 #[.agg #[.bool g, v, .int .i64 (s : Int)]] u fun e w' => e = .returned (.bool true) ∧ Q u w' := by
  have e := may_any g v s L u hv (by omega) (by omega)
  rw [(Dm.okB_iff L).2 hd, show decide (0 ≤ (s : Int)) = true from by simp, show decide ((s : Int) ≤ 1000) = true from by simp; omega] at e
  exact e
end Ep
end Go.Proofs.Ytilbefdeanhnpaa
