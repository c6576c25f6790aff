/- What the program's Print of decimals comes to, by a walk through it. -/
import Derived.Test.YtebcgpoemppljaaRows
import Derived.Test.YtebcgpoemppljaaDigL
import Derived.Test.YtebcgpoemppljaaDecM
import Derived.Test.YtebcgpoemppljaaInts
import Derived.Test.YtebcgpoemppljaaSto
import Derived.Test.YtebcgpoemppljaaStoB
import Derived.Test.YtebcgpoemppljaaDigW
import Derived.Test.YtebcgpoemppljaaDigV
import Derived.Test.YtebcgpoemppljaaDigX
import Derived.Test.YtebcgpoemppljaaDigQ
import Derived.Test.YtebcgpoemppljaaDecR
import Derived.Test.YtebcgpoemppljaaDecS
import Derived.Test.YtebcgpoemppljaaDecC
import Derived.Test.YtebcgpoemppljaaDecP
import Derived.Test.YtebcgpoemppljaaDecQ
import Derived.Test.YtebcgpoemppljaaDecD
import Derived.Test.YtebcgpoemppljaaDigA
import Derived.Deep.QuietTactic
import Derived.Deep.RegionWith
import Derived.Deep.RegionHeld3
import Derived.BigQuiet
import Derived.Laws.ResultCell
set_option linter.unusedVariables false
set_option linter.unusedSimpArgs false
namespace Go.Proofs.Ytebcgpoemppljaa
open Go.RowKit
namespace Ep
open Er (dv cellV LF LF.of LF.nil LF.mono LF.q LF.put LF.shape LF.lst block_cells some_cells block_set wrapI num_shl okD_shl)
end Ep
end Go.Proofs.Ytebcgpoemppljaa
