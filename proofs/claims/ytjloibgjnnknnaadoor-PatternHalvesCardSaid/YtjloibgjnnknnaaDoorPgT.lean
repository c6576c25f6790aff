/- The numbers made of any: the document's are the program's. Our own work. -/
import Derived.Test.YtjloibgjnnknnaaDoorRows
import Derived.Test.YtjloibgjnnknnaaDoorUtfM
import Derived.Test.YtjloibgjnnknnaaDoorPatM
import Derived.Test.YtjloibgjnnknnaaDoorPatN
import Derived.Test.YtjloibgjnnknnaaDoorPgF
import Derived.Test.YtjloibgjnnknnaaDoorPgS
namespace Go.Proofs.YtjloibgjnnknnaaDoor
namespace Pg
open Pt Um
set_option maxRecDepth 100000 in
theorem nmT_pr : ∀ z, z < 7 → ∀ p, p < 5 → ∀ q, q < 5 → ∀ a, a < 4 → ∀ b, b < 4 → okPr (nmT z p q a b) = true := by decide +kernel
theorem pr_one : okPr [35] = true := by decide +kernel
theorem pr_zero : okPr [48] = true := by decide +kernel
theorem nmT_okPr {z p q a b : Nat} (hz : z < 7) (hp : p < 5) (hq : q < 5) (ha : a < 4) (hb : b < 4) : okPr (nmT z p q a b) = true := nmT_pr z hz p hp q hq a ha b hb
end Pg
end Go.Proofs.YtjloibgjnnknnaaDoor
