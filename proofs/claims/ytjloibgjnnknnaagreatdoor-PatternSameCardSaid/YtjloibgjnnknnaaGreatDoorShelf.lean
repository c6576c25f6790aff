/- What the library's HasPrefix answers here, laid out of its contract. -/
import Derived.Shelf.Strings.Prefix
import Derived.Test.YtjloibgjnnknnaaGreatDoorProg
namespace Go.Proofs.YtjloibgjnnknnaaGreatDoor
open Go.Shelf
def shelfPrefixRen : Go.Shelf.Ren := ⟨fun | 99 => 69 | 206 => 82 | n => n, fun | 9 => 9 | 4 => 4 | 3 => 3 | n => n, fun | n => n⟩
theorem shelfPrefix : Go.Proofs.Lays.n99 Tryz.prog shelfPrefixRen := {
  mixed := by kernel_rfl
  f99 := Tryz.func69.trans (congrArg some (by kernel_rfl))
  f206 := Tryz.func82.trans (congrArg some (by kernel_rfl))
  t3 := Tryz.underlying3
  a3 := Tryz.isAgg3
  z3 := Tryz.sizeOf3
  v3 := Tryz.zeroValue3
  t4 := Tryz.underlying4
  a4 := Tryz.isAgg4
  z4 := Tryz.sizeOf4
  v4 := Tryz.zeroValue4
  t9 := Tryz.underlying9
  a9 := Tryz.isAgg9
  z9 := Tryz.sizeOf9
  v9 := Tryz.zeroValue9 }
theorem hasPrefix_any (s p : ByteArray) (w : World) :
    Calls Tryz.prog 69 #[.string s, .string p] w fun e w' => e = .returned (.bool (Lib.hasPrefix s.data.toList p.data.toList)) ∧ w' = w := Any.strings_HasPrefix shelfPrefix s p w
end Go.Proofs.YtjloibgjnnknnaaGreatDoor
