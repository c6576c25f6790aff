/- The statements' own small functions: a decimal as the document, and as the program, has it; the document's example. -/
import Derived.Test.YtebcgpoemppljaaRows
import Derived.Test.YtebcgpoemppljaaDigL
import Derived.Test.YtebcgpoemppljaaDecM
import Derived.Test.YtebcgpoemppljaaInts
import Derived.Test.YtebcgpoemppljaaSto
import Derived.Test.YtebcgpoemppljaaStoB
import Derived.Test.YtebcgpoemppljaaDigW
import Derived.Test.YtebcgpoemppljaaDigV
import Derived.Test.YtebcgpoemppljaaDigX
import Derived.Test.YtebcgpoemppljaaDigQ
import Derived.Test.YtebcgpoemppljaaDecR
import Derived.Test.YtebcgpoemppljaaDecS
import Derived.Test.YtebcgpoemppljaaDecC
import Derived.Test.YtebcgpoemppljaaDecP
import Derived.Test.YtebcgpoemppljaaDecQ
import Derived.Test.YtebcgpoemppljaaDecI
import Derived.Test.YtebcgpoemppljaaDecL
import Derived.Deep.QuietTactic
import Derived.Deep.RegionWith
import Derived.Deep.RegionHeld3
import Derived.BigQuiet
import Derived.Laws.ResultCell
set_option linter.unusedVariables false
set_option linter.unusedSimpArgs false
namespace Go.Proofs.Ytebcgpoemppljaa
open Go.RowKit
namespace Ep
open Er (dv cellV LF LF.of LF.nil LF.mono LF.q LF.put LF.shape LF.lst block_cells some_cells block_set wrapI num_shl okD_shl)
theorem l75 : Dm.adG false (Dm.num [5] * 10 ^ (max 1 2 - 1)) true (Dm.num [1, 2, 5] * 10 ^ (max 1 2 - 2)) = true ∧ Dm.adM false (Dm.num [5] * 10 ^ (max 1 2 - 1)) true (Dm.num [1, 2, 5] * 10 ^ (max 1 2 - 2)) = 75 ∧ Dm.st 75 (max 1 2) = (75, 2) ∧ Dm.dg 75 = [7, 5] := by decide +kernel
theorem p75 : Dm.prt true [7, 5] 2 = ⟨#[45, 48, 46, 55, 53]⟩ := by decide +kernel
theorem p07 : Dm.prt false [7] 2 = ⟨#[48, 46, 48, 55]⟩ := by decide +kernel
theorem ok1 : Dm.okD [5] := by intro d hd; simp at hd; omega
theorem ok2 : Dm.okD [1, 2, 5] := by intro d hd; simp at hd; omega
theorem ok3 : Dm.okD [7, 5] := by intro d hd; simp at hd; omega
theorem ok4 : Dm.okD [7] := by intro d hd; simp at hd; omega
end Ep
end Go.Proofs.Ytebcgpoemppljaa
