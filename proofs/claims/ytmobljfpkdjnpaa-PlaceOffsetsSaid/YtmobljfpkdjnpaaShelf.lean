/- What the library's HasPrefix answers here, laid out of its contract. -/
import Derived.Shelf.Strings.Prefix
import Derived.Test.YtmobljfpkdjnpaaProg
namespace Go.Proofs.Ytmobljfpkdjnpaa
open Go.Shelf
def shelfPrefixRen : Go.Shelf.Ren := ⟨fun | 99 => 66 | 206 => 71 | n => n, fun | 9 => 9 | 4 => 4 | 3 => 3 | n => n, fun | n => n⟩
theorem shelfPrefix : Go.Proofs.Lays.n99 Try.prog shelfPrefixRen := {
  mixed := by kernel_rfl
  f99 := Try.func66.trans (congrArg some (by kernel_rfl))
  f206 := Try.func71.trans (congrArg some (by kernel_rfl))
  t3 := Try.underlying3
  a3 := Try.isAgg3
  z3 := Try.sizeOf3
  v3 := Try.zeroValue3
  t4 := Try.underlying4
  a4 := Try.isAgg4
  z4 := Try.sizeOf4
  v4 := Try.zeroValue4
  t9 := Try.underlying9
  a9 := Try.isAgg9
  z9 := Try.sizeOf9
  v9 := Try.zeroValue9 }
theorem hasPrefix_any (s p : ByteArray) (w : World) :
    Calls Try.prog 66 #[.string s, .string p] w fun e w' => e = .returned (.bool (Lib.hasPrefix s.data.toList p.data.toList)) ∧ w' = w := Any.strings_HasPrefix shelfPrefix s p w
end Go.Proofs.Ytmobljfpkdjnpaa
