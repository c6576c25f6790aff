/- What the program's Times of decimals comes to, what it refuses, and Sub, by a walk through each. -/
import Derived.Test.YtagpofhencpliaaRows
import Derived.Test.YtagpofhencpliaaDigL
import Derived.Test.YtagpofhencpliaaDecM
import Derived.Test.YtagpofhencpliaaInts
import Derived.Test.YtagpofhencpliaaSto
import Derived.Test.YtagpofhencpliaaStoB
import Derived.Test.YtagpofhencpliaaDigW
import Derived.Test.YtagpofhencpliaaDigV
import Derived.Test.YtagpofhencpliaaDigX
import Derived.Test.YtagpofhencpliaaDigQ
import Derived.Test.YtagpofhencpliaaDecR
import Derived.Test.YtagpofhencpliaaDecS
import Derived.Test.YtagpofhencpliaaDecC
import Derived.Test.YtagpofhencpliaaDecP
import Derived.Test.YtagpofhencpliaaDecQ
import Derived.Test.YtagpofhencpliaaDecI
import Derived.Deep.QuietTactic
import Derived.Deep.RegionWith
import Derived.Deep.RegionHeld3
import Derived.BigQuiet
import Derived.Laws.ResultCell
set_option linter.unusedVariables false
set_option linter.unusedSimpArgs false
namespace Go.Proofs.Ytagpofhencpliaa
open Go.RowKit
namespace Ep
open Er (dv cellV LF LF.of LF.nil LF.mono LF.q LF.put LF.shape LF.lst block_cells some_cells block_set wrapI num_shl okD_shl)
theorem SD.here {w u : World} {g : Bool} {v : Value} {s : Int} (k : SD w g v s u) : Q w u := by
  obtain ⟨_, _, _, _, _, _, _, _, _, _, _, hq⟩ := k
  exact hq
end Ep
end Go.Proofs.Ytagpofhencpliaa
