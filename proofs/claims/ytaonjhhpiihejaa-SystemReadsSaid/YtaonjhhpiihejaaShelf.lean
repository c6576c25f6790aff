/- What the library's HasPrefix answers here, laid out of its contract. -/
import Derived.Shelf.Strings.Prefix
import Derived.Test.YtaonjhhpiihejaaProg
namespace Go.Proofs.Ytaonjhhpiihejaa
open Go.Shelf
end Go.Proofs.Ytaonjhhpiihejaa
