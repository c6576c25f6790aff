/- What the library's Builder.grow answers at a fresh builder here, laid out of its contract. -/
import Derived.Shelf.Strings.Builder2
import Derived.Test.YtfnojkcklgmoiaaDoorProg
import Derived.Test.YtfnojkcklgmoiaaDoorShelfB
namespace Go.Proofs.YtfnojkcklgmoiaaDoor
open Go.Shelf
def shelfGrowRen : Go.Shelf.Ren := ⟨fun | 241 => 46 | 277 => 49 | n => n, fun | 0 => 0 | 3 => 3 | 37 => 75 | 70 => 74 | 72 => 77 | 5 => 5 | n => n, fun | n => n⟩
theorem shelfGrow : Go.Proofs.Lays.n241 Tryd.prog shelfGrowRen := {
  mixed := by kernel_rfl
  f241 := Tryd.func46.trans (congrArg some (by kernel_rfl))
  f277 := Tryd.func49.trans (congrArg some (by kernel_rfl))
  t0 := Tryd.underlying0
  a0 := Tryd.isAgg0
  z0 := Tryd.sizeOf0
  v0 := Tryd.zeroValue0
  t3 := Tryd.underlying3
  a3 := Tryd.isAgg3
  z3 := Tryd.sizeOf3
  v3 := Tryd.zeroValue3
  t37 := Tryd.underlying75
  a37 := Tryd.isAgg75
  z37 := Tryd.sizeOf75
  v37 := Tryd.zeroValue75
  t70 := Tryd.underlying74
  a70 := Tryd.isAgg74
  z70 := Tryd.sizeOf74
  v70 := Tryd.zeroValue74
  t72 := Tryd.underlying77
  a72 := Tryd.isAgg77
  z72 := Tryd.sizeOf77
  v72 := Tryd.zeroValue77 }
theorem shelfGrowX : Builder.Extra Tryd.prog shelfGrowRen := {
  sizeBuilder := by kernel_rfl
  liesBuilder := by kernel_rfl
  t5 := Tryd.underlying5
  a5 := Tryd.isAgg5
  z5 := Tryd.sizeOf5
  v5 := Tryd.zeroValue5
  infoByte := by kernel_rfl
  cellsByte := by kernel_rfl
  sizeByte := by kernel_rfl
  neB5 := by decide }
open Go.RowKit in
theorem grow_any (B b n : Nat) (w : World) (hB : B ≤ b) (hbk : w.heap[b]? = some (.cells #[.pointer (some ⟨b, 0, none⟩), .slice none 0 0] 77 (0, 0))) (hBw : B ≤ w.heap.size) (hn : n ≤ 281474976710656) :
    Calls Tryd.prog 46 #[.pointer (some ⟨b, 0, none⟩), .int .i64 n] w fun e w' => e = .returned (.tuple #[]) ∧ (Lib.BuilderAt 77 5 B b (.pointer (some ⟨b, 0, none⟩)) [] w' ∧ Below B w w') := Any.Builder_grow_fresh shelfGrow shelfGrowX B b n w hB hbk hBw hn
end Go.Proofs.YtfnojkcklgmoiaaDoor
