/- What the library's Builder.grow answers at a fresh builder here, laid out of its contract. -/
import Derived.Shelf.Strings.Builder2
import Derived.Test.YtmobljfpkdjnpaaProg
import Derived.Test.YtmobljfpkdjnpaaShelfB
namespace Go.Proofs.Ytmobljfpkdjnpaa
open Go.Shelf
def shelfGrowRen : Go.Shelf.Ren := ⟨fun | 241 => 57 | 277 => 65 | n => n, fun | 0 => 0 | 3 => 3 | 37 => 64 | 70 => 63 | 72 => 66 | 5 => 5 | n => n, fun | n => n⟩
theorem shelfGrow : Go.Proofs.Lays.n241 Try.prog shelfGrowRen := {
  mixed := by kernel_rfl
  f241 := Try.func57.trans (congrArg some (by kernel_rfl))
  f277 := Try.func65.trans (congrArg some (by kernel_rfl))
  t0 := Try.underlying0
  a0 := Try.isAgg0
  z0 := Try.sizeOf0
  v0 := Try.zeroValue0
  t3 := Try.underlying3
  a3 := Try.isAgg3
  z3 := Try.sizeOf3
  v3 := Try.zeroValue3
  t37 := Try.underlying64
  a37 := Try.isAgg64
  z37 := Try.sizeOf64
  v37 := Try.zeroValue64
  t70 := Try.underlying63
  a70 := Try.isAgg63
  z70 := Try.sizeOf63
  v70 := Try.zeroValue63
  t72 := Try.underlying66
  a72 := Try.isAgg66
  z72 := Try.sizeOf66
  v72 := Try.zeroValue66 }
theorem shelfGrowX : Builder.Extra Try.prog shelfGrowRen := {
  sizeBuilder := by kernel_rfl
  liesBuilder := by kernel_rfl
  t5 := Try.underlying5
  a5 := Try.isAgg5
  z5 := Try.sizeOf5
  v5 := Try.zeroValue5
  infoByte := by kernel_rfl
  cellsByte := by kernel_rfl
  sizeByte := by kernel_rfl
  neB5 := by decide }
open Go.RowKit in
theorem grow_any (B b n : Nat) (w : World) (hB : B ≤ b) (hbk : w.heap[b]? = some (.cells #[.pointer (some ⟨b, 0, none⟩), .slice none 0 0] 66 (0, 0))) (hBw : B ≤ w.heap.size) (hn : n ≤ 281474976710656) :
    Calls Try.prog 57 #[.pointer (some ⟨b, 0, none⟩), .int .i64 n] w fun e w' => e = .returned (.tuple #[]) ∧ (Lib.BuilderAt 66 5 B b (.pointer (some ⟨b, 0, none⟩)) [] w' ∧ Below B w w') := Any.Builder_grow_fresh shelfGrow shelfGrowX B b n w hB hbk hBw hn
end Go.Proofs.Ytmobljfpkdjnpaa
