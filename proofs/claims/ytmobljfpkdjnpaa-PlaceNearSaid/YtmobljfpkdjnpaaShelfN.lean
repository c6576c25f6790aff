/- What the library's BinarySearch of numbers answers here, laid out of its contract. -/
import Derived.Shelf.Slices.SearchI
import Derived.Test.YtmobljfpkdjnpaaProg
namespace Go.Proofs.Ytmobljfpkdjnpaa
open Go.Shelf
def shelfSearchRen : Go.Shelf.Ren := ⟨fun | 25 => 29 | 31 => 42 | 32 => 43 | 37 => 55 | n => n, fun | 0 => 0 | 3 => 3 | 4 => 4 | 22 => 23 | 40 => 61 | n => n, fun | n => n⟩
theorem shelfSearch : Go.Proofs.Lays2.n25 Try.prog shelfSearchRen := {
  mixed := by kernel_rfl
  f25 := Try.func29.trans (congrArg some (by kernel_rfl))
  f31 := Try.func42.trans (congrArg some (by kernel_rfl))
  f32 := Try.func43.trans (congrArg some (by kernel_rfl))
  f37 := Try.func55.trans (congrArg some (by kernel_rfl))
  t0 := Try.underlying0
  a0 := Try.isAgg0
  z0 := Try.sizeOf0
  v0 := Try.zeroValue0
  t3 := Try.underlying3
  a3 := Try.isAgg3
  z3 := Try.sizeOf3
  v3 := Try.zeroValue3
  t4 := Try.underlying4
  a4 := Try.isAgg4
  z4 := Try.sizeOf4
  v4 := Try.zeroValue4
  t22 := Try.underlying23
  a22 := Try.isAgg23
  z22 := Try.sizeOf23
  v22 := Try.zeroValue23
  t40 := Try.underlying61
  a40 := Try.isAgg61
  z40 := Try.sizeOf61
  v40 := Try.zeroValue61 }
theorem search_any (b off n c : Nat) (zs : List Int) (x : Int) (w : World) (hz : n ≤ zs.length) (hbig : n < 4611686018427387904) (hc : ∀ j, j < zs.length → w.cell? ⟨b, off + j, none⟩ = some (.int .i64 (zs.getD j 0))) (hs : (zs.take n).Pairwise (· ≤ ·)) :
    Calls Try.prog 29 #[.slice (some ⟨b, off, none⟩) n c, .int .i64 x] w fun e w' => e = .returned (.tuple #[.int .i64 ((zs.take n).countP (· < x) : Nat), .bool ((zs.take n).contains x)]) ∧ ∃ q, w' = w.drewN q := Any.slices_BinarySearch_int shelfSearch b off n c zs x w hz hbig hc hs
end Go.Proofs.Ytmobljfpkdjnpaa
