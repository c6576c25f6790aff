/- What the library's Builder.grow answers at a fresh builder here, laid out of its contract. -/
import Derived.Shelf.Strings.Builder2
import Derived.Test.YtjloibgjnnknnaaGreatDoorProg
import Derived.Test.YtjloibgjnnknnaaGreatDoorShelfB
namespace Go.Proofs.YtjloibgjnnknnaaGreatDoor
open Go.Shelf
def shelfGrowRen : Go.Shelf.Ren := ⟨fun | 241 => 85 | 277 => 99 | n => n, fun | 0 => 0 | 3 => 3 | 37 => 91 | 70 => 92 | 72 => 94 | 5 => 5 | n => n, fun | n => n⟩
theorem shelfGrow : Go.Proofs.Lays.n241 Tryz.prog shelfGrowRen := {
  mixed := by kernel_rfl
  f241 := Tryz.func85.trans (congrArg some (by kernel_rfl))
  f277 := Tryz.func99.trans (congrArg some (by kernel_rfl))
  t0 := Tryz.underlying0
  a0 := Tryz.isAgg0
  z0 := Tryz.sizeOf0
  v0 := Tryz.zeroValue0
  t3 := Tryz.underlying3
  a3 := Tryz.isAgg3
  z3 := Tryz.sizeOf3
  v3 := Tryz.zeroValue3
  t37 := Tryz.underlying91
  a37 := Tryz.isAgg91
  z37 := Tryz.sizeOf91
  v37 := Tryz.zeroValue91
  t70 := Tryz.underlying92
  a70 := Tryz.isAgg92
  z70 := Tryz.sizeOf92
  v70 := Tryz.zeroValue92
  t72 := Tryz.underlying94
  a72 := Tryz.isAgg94
  z72 := Tryz.sizeOf94
  v72 := Tryz.zeroValue94 }
theorem shelfGrowX : Builder.Extra Tryz.prog shelfGrowRen := {
  sizeBuilder := by kernel_rfl
  liesBuilder := by kernel_rfl
  t5 := Tryz.underlying5
  a5 := Tryz.isAgg5
  z5 := Tryz.sizeOf5
  v5 := Tryz.zeroValue5
  infoByte := by kernel_rfl
  cellsByte := by kernel_rfl
  sizeByte := by kernel_rfl
  neB5 := by decide }
open Go.RowKit in
theorem grow_any (B b n : Nat) (w : World) (hB : B ≤ b) (hbk : w.heap[b]? = some (.cells #[.pointer (some ⟨b, 0, none⟩), .slice none 0 0] 94 (0, 0))) (hBw : B ≤ w.heap.size) (hn : n ≤ 281474976710656) :
    Calls Tryz.prog 85 #[.pointer (some ⟨b, 0, none⟩), .int .i64 n] w fun e w' => e = .returned (.tuple #[]) ∧ (Lib.BuilderAt 94 5 B b (.pointer (some ⟨b, 0, none⟩)) [] w' ∧ Below B w w') := Any.Builder_grow_fresh shelfGrow shelfGrowX B b n w hB hbk hBw hn
end Go.Proofs.YtjloibgjnnknnaaGreatDoor
