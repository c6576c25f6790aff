/- Words and symbols, as the statement asks. -/
import Derived.Test.YtoojfpkmgiemoaaGreatDoorRows
import Derived.Test.YtoojfpkmgiemoaaGreatDoorMA
import Derived.Test.YtoojfpkmgiemoaaGreatDoorMB
import Derived.Test.YtoojfpkmgiemoaaGreatDoorMC
import Derived.Test.YtoojfpkmgiemoaaGreatDoorUtfL
import Derived.Test.YtoojfpkmgiemoaaGreatDoorMF
import Derived.Test.YtoojfpkmgiemoaaGreatDoorLocM
import Derived.Test.YtoojfpkmgiemoaaGreatDoorLocA
import Derived.Test.YtoojfpkmgiemoaaGreatDoorLocL
import Derived.Deep.QuietTactic
import Derived.BigQuiet
set_option linter.unusedVariables false
set_option linter.unusedSimpArgs false
namespace Go.Proofs.YtoojfpkmgiemoaaGreatDoor
open Go.RowKit
namespace Lo
open Um Cm Gm


/-- A letter or a mark, made of any number. -/
def chW (x : Int) : Int := if 25 < around x 60 then 768 + around x 60 else 65 + around x 60
theorem symB_eq (s : ByteArray) : Lm.symB s.data.toList = (Lm.wordB s.data.toList && decide ((pcs s).length = 1)) := by unfold Lm.symB; rw [oneB_eq, pcs_length]
theorem few_le (s : ByteArray) : (Ur.few s 20).size ≤ 20 := Ur.few_size s 20
theorem joinL_le (l : List Int) : (joinL l).length ≤ 4 * l.length := by have := joinL_length l; omega

end Lo
end Go.Proofs.YtoojfpkmgiemoaaGreatDoor
