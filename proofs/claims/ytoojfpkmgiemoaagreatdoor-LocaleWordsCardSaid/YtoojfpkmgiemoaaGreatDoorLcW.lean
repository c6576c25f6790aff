/- Words and symbols, as the statement asks. -/
import Derived.Test.YtoojfpkmgiemoaaGreatDoorRows
import Derived.Test.YtoojfpkmgiemoaaGreatDoorMA
import Derived.Test.YtoojfpkmgiemoaaGreatDoorMB
import Derived.Test.YtoojfpkmgiemoaaGreatDoorMC
import Derived.Test.YtoojfpkmgiemoaaGreatDoorUtfL
import Derived.Test.YtoojfpkmgiemoaaGreatDoorMF
import Derived.Test.YtoojfpkmgiemoaaGreatDoorLocM
import Derived.Test.YtoojfpkmgiemoaaGreatDoorLocA
import Derived.Test.YtoojfpkmgiemoaaGreatDoorLocL
import Derived.Test.YtoojfpkmgiemoaaGreatDoorLcW0
import Derived.Test.YtoojfpkmgiemoaaGreatDoorLcWa
import Derived.Test.YtoojfpkmgiemoaaGreatDoorLcWb
import Derived.Deep.QuietTactic
import Derived.BigQuiet
set_option linter.unusedVariables false
set_option linter.unusedSimpArgs false
namespace Go.Proofs.YtoojfpkmgiemoaaGreatDoor
open Go.RowKit
namespace Lo
open Um Cm Gm


theorem law_words (s : ByteArray) (v : Value) (xs : List Int) (w : World) (hs : s.size ≤ maxLen) (hv : Lst w v xs) (hb : ∀ n ∈ xs, -9223372036854775808 ≤ n ∧ n ≤ 9223372036854775807) :
    Calls Tryz.prog 6 #[.string s, v] w fun e w' => e = .returned (.bool true) ∧ Q w w' := by
  by_cases h : xs.length ≤ 9
  · exact law_words_a s v xs w hs hv hb h
  · exact law_words_b s v xs w hs hv hb (by omega)

end Lo
end Go.Proofs.YtoojfpkmgiemoaaGreatDoor
