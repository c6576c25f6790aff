/- What the library's Builder.grow answers at a fresh builder here, laid out of its contract. -/
import Derived.Shelf.Strings.Builder2
import Derived.Test.YtjloibgjnnknnaaDoorProg
import Derived.Test.YtjloibgjnnknnaaDoorShelfB
namespace Go.Proofs.YtjloibgjnnknnaaDoor
open Go.Shelf
def shelfGrowRen : Go.Shelf.Ren := ⟨fun | 241 => 91 | 277 => 100 | n => n, fun | 0 => 0 | 3 => 3 | 37 => 53 | 70 => 52 | 72 => 55 | 5 => 5 | n => n, fun | n => n⟩
theorem shelfGrow : Go.Proofs.Lays.n241 Tryd.prog shelfGrowRen := {
  mixed := by kernel_rfl
  f241 := Tryd.func91.trans (congrArg some (by kernel_rfl))
  f277 := Tryd.func100.trans (congrArg some (by kernel_rfl))
  t0 := Tryd.underlying0
  a0 := Tryd.isAgg0
  z0 := Tryd.sizeOf0
  v0 := Tryd.zeroValue0
  t3 := Tryd.underlying3
  a3 := Tryd.isAgg3
  z3 := Tryd.sizeOf3
  v3 := Tryd.zeroValue3
  t37 := Tryd.underlying53
  a37 := Tryd.isAgg53
  z37 := Tryd.sizeOf53
  v37 := Tryd.zeroValue53
  t70 := Tryd.underlying52
  a70 := Tryd.isAgg52
  z70 := Tryd.sizeOf52
  v70 := Tryd.zeroValue52
  t72 := Tryd.underlying55
  a72 := Tryd.isAgg55
  z72 := Tryd.sizeOf55
  v72 := Tryd.zeroValue55 }
theorem shelfGrowX : Builder.Extra Tryd.prog shelfGrowRen := {
  sizeBuilder := by kernel_rfl
  liesBuilder := by kernel_rfl
  t5 := Tryd.underlying5
  a5 := Tryd.isAgg5
  z5 := Tryd.sizeOf5
  v5 := Tryd.zeroValue5
  infoByte := by kernel_rfl
  cellsByte := by kernel_rfl
  sizeByte := by kernel_rfl
  neB5 := by decide }
open Go.RowKit in
theorem grow_any (B b n : Nat) (w : World) (hB : B ≤ b) (hbk : w.heap[b]? = some (.cells #[.pointer (some ⟨b, 0, none⟩), .slice none 0 0] 55 (0, 0))) (hBw : B ≤ w.heap.size) (hn : n ≤ 281474976710656) :
    Calls Tryd.prog 91 #[.pointer (some ⟨b, 0, none⟩), .int .i64 n] w fun e w' => e = .returned (.tuple #[]) ∧ (Lib.BuilderAt 55 5 B b (.pointer (some ⟨b, 0, none⟩)) [] w' ∧ Below B w w') := Any.Builder_grow_fresh shelfGrow shelfGrowX B b n w hB hbk hBw hn
end Go.Proofs.YtjloibgjnnknnaaDoor
