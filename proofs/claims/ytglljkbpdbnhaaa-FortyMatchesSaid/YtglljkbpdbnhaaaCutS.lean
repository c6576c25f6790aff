/- What the library's Cut answers at a separator of one byte. -/
import Derived.Shelf.Strings.Cut
import Derived.Lib.IndexLaws
import Derived.Test.YtglljkbpdbnhaaaRows
import Derived.Test.YtglljkbpdbnhaaaInts
import Derived.Test.YtglljkbpdbnhaaaFtM
set_option linter.unusedVariables false
set_option linter.unusedSimpArgs false
namespace Go.Proofs.Ytglljkbpdbnhaaa
open Go.Shelf
namespace Sc
def shelfIndexLRen : Go.Shelf.Ren := ⟨fun | 217 => 25 | 219 => 24 | 224 => 27 | 225 => 26 | 266 => 29 | 267 => 28 | 314 => 30 | n => n, fun | 3 => 3 | 4 => 4 | 5 => 5 | 9 => 9 | 46 => 56 | 51 => 57 | 146 => 58 | n => n, fun | 1 => 0 | n => n⟩
theorem shelfIndexL : Go.Proofs.Lays.n219 Try.prog shelfIndexLRen := {
  mixed := by kernel_rfl
  f217 := Try.func25.trans (congrArg some (by kernel_rfl))
  f219 := Try.func24.trans (congrArg some (by kernel_rfl))
  f224 := Try.func27.trans (congrArg some (by kernel_rfl))
  f225 := Try.func26.trans (congrArg some (by kernel_rfl))
  f266 := Try.func29.trans (congrArg some (by kernel_rfl))
  f267 := Try.func28.trans (congrArg some (by kernel_rfl))
  f314 := Try.func30.trans (congrArg some (by kernel_rfl))
  t3 := Try.underlying3
  a3 := Try.isAgg3
  z3 := Try.sizeOf3
  v3 := Try.zeroValue3
  t4 := Try.underlying4
  a4 := Try.isAgg4
  z4 := Try.sizeOf4
  v4 := Try.zeroValue4
  t5 := Try.underlying5
  a5 := Try.isAgg5
  z5 := Try.sizeOf5
  v5 := Try.zeroValue5
  t9 := Try.underlying9
  a9 := Try.isAgg9
  z9 := Try.sizeOf9
  v9 := Try.zeroValue9
  t46 := Try.underlying56
  a46 := Try.isAgg56
  z46 := Try.sizeOf56
  v46 := Try.zeroValue56
  t51 := Try.underlying57
  a51 := Try.isAgg57
  z51 := Try.sizeOf57
  v51 := Try.zeroValue57
  t146 := Try.underlying58
  a146 := Try.isAgg58
  z146 := Try.sizeOf58
  v146 := Try.zeroValue58
  g1 := by kernel_rfl }

open Go.RowKit Go.Lib in
open Go.RowKit Go.Lib in
theorem indexL_any (s : ByteArray) (c : UInt8) (w : World) : Calls Try.prog 24 #[.string s, .string ⟨#[c]⟩] w fun e w' => e = .returned (.int .i64 (Lib.indexByte s.data.toList c)) ∧ w' = w := Any.stringslite_Index_one shelfIndexL s c w

open Go.RowKit in
set_option maxHeartbeats 1000000 in
theorem cutL_any (s : ByteArray) (c : UInt8) (w : World) (hs : s.size ≤ 1000000) :
    Calls Try.prog 23 #[.string s, .string ⟨#[c]⟩] w fun e w' => e = .returned (.tuple #[.string ⟨(Lib.cut s.data.toList [c]).1.toArray⟩, .string ⟨(Lib.cut s.data.toList [c]).2.1.toArray⟩, .bool (Lib.cut s.data.toList [c]).2.2]) ∧ Q w w' := by
  have hI := fun w => indexL_any s c w
  have e0 : Lib.indexB s ⟨#[c]⟩ = Lib.indexByte s.data.toList c := Lib.index_one _ _
  rw [← e0] at hI
  rcases Lib.indexB_cases s ⟨#[c]⟩ with hix | ⟨i, hix, hroom⟩
  · obtain ⟨e1, e2, e3⟩ := Lib.cutB_miss s ⟨#[c]⟩ hix
    have e1 : (⟨(Lib.cut s.data.toList [c]).1.toArray⟩ : ByteArray) = s := e1
    have e2 : (⟨(Lib.cut s.data.toList [c]).2.1.toArray⟩ : ByteArray) = ByteArray.empty := e2
    have e3 : (Lib.cut s.data.toList [c]).2.2 = false := e3
    rw [hix] at hI
    have HI := Lib.hid hI
    have HE := Lib.hid (And.intro e1 (And.intro e2 e3))
    clear hI e0 hix e1 e2 e3
    go_enter Try.func23, Try.ntmps23
    go_wp2_with fail
    refine (HI.out _).mono ?_
    rintro e w1 ⟨rfl, rfl⟩
    go_wp2_with fail
    go_ret3
    rw [HE.out.1, HE.out.2.1, HE.out.2.2]
    exact ⟨rfl, Q.refl _⟩
  · obtain ⟨e1, e2, e3⟩ := Lib.cutB_hit s ⟨#[c]⟩ i hix
    rw [hix] at hI
    have hroom : i + 1 ≤ s.size := hroom
    have e1 : (⟨(Lib.cut s.data.toList [c]).1.toArray⟩ : ByteArray) = s.extract 0 i := e1
    have e2 : (⟨(Lib.cut s.data.toList [c]).2.1.toArray⟩ : ByteArray) = s.extract (i + 1) s.size := e2
    have e3 : (Lib.cut s.data.toList [c]).2.2 = true := e3
    have HI := Lib.hid hI
    have HE := Lib.hid (And.intro e1 (And.intro e2 e3))
    clear hI e0 hix e1 e2 e3
    have c1 : (0 : Int) ≤ (i : Int) := by omega
    have c2 : (i : Int) ≤ (s.size : Int) := by omega
    have c4 : (i : Int) + 1 ≤ (s.size : Int) := by omega
    go_enter Try.func23, Try.ntmps23
    go_wp2_with fail
    refine (HI.out _).mono ?_
    rintro e w1 ⟨rfl, rfl⟩
    go_wp2_with fail
    go_region
    go_wp2_with fail
    go_ret3
    rw [HE.out.1, HE.out.2.1, HE.out.2.2]
    exact ⟨rfl, (Q.refl _).drew⟩
open Go.RowKit in
theorem cut_any (s : ByteArray) (c : UInt8) (w : World) (hs : s.size ≤ 1000000) :
    Calls Try.prog 22 #[.string s, .string ⟨#[c]⟩] w fun e w' => e = .returned (.tuple #[.string ⟨(Lib.cut s.data.toList [c]).1.toArray⟩, .string ⟨(Lib.cut s.data.toList [c]).2.1.toArray⟩, .bool (Lib.cut s.data.toList [c]).2.2]) ∧ Q w w' := by
  have hC := fun w => cutL_any s c w hs
  generalize Lib.cut s.data.toList [c] = R at *
  obtain ⟨r1, r2, r3⟩ := R
  go_enter Try.func22, Try.ntmps22
  go_wp2_with fail
  refine (hC _).mono ?_
  rintro e w1 ⟨rfl, hq⟩
  go_wp2_with fail
  go_ret3
  exact ⟨rfl, hq⟩

/-- What stands ahead of the first minus. -/
theorem cut_lng (s : ByteArray) : (⟨(Lib.cut s.data.toList [45]).1.toArray⟩ : ByteArray) = Lm.bs (Fm.lng s.data.toList) := by
  have e0 : Lib.indexB s ⟨#[45]⟩ = Lib.indexByte s.data.toList 45 := Lib.index_one _ _
  rcases Lib.indexB_cases s ⟨#[45]⟩ with hix | ⟨i, hix, hroom⟩
  · obtain ⟨e1, _, _⟩ := Lib.cutB_miss s ⟨#[45]⟩ hix
    have e1 : (⟨(Lib.cut s.data.toList [45]).1.toArray⟩ : ByteArray) = s := e1
    rw [e1, Fm.lng_all (l := s.data.toList) (fun j _ => Lib.indexByte_none (by rw [← e0]; exact hix) j)]
    rfl
  · obtain ⟨e1, _, _⟩ := Lib.cutB_hit s ⟨#[45]⟩ i hix
    have e1 : (⟨(Lib.cut s.data.toList [45]).1.toArray⟩ : ByteArray) = s.extract 0 i := e1
    obtain ⟨h1, h2⟩ := Lib.indexByte_some (l := s.data.toList) (c := 45) (o := i) (by rw [← e0]; exact hix)
    rw [e1, Fm.lng_hit h2 h1]
    apply ByteArray.ext
    apply Array.toList_inj.1
    rw [Lm.bs_list]
    simp [ByteArray.data_extract, Array.toList_extract, List.extract_eq_take_drop]
open Go.RowKit in
set_option maxHeartbeats 1000000 in
theorem language_any (s : ByteArray) (w : World) (hs : s.size ≤ 1000000) :
    Calls Try.prog 17 #[.string s] w fun e w' => e = .returned (.string (Lm.bs (Fm.lng s.data.toList))) ∧ Q w w' := by
  have hC := fun w => cut_any s 45 w hs
  rw [cut_lng] at hC
  generalize Lm.bs (Fm.lng s.data.toList) = t at *
  generalize Lib.cut s.data.toList [45] = R at *
  obtain ⟨r1, r2, r3⟩ := R
  have HC := Lib.hid hC
  clear hC
  go_enter Try.func17, Try.ntmps17
  go_wp2_with fail
  refine (HC.out _).mono ?_
  rintro e w1 ⟨rfl, hq⟩
  go_wp2_with fail
  go_ret
  exact ⟨rfl, hq⟩
end Sc
end Go.Proofs.Ytglljkbpdbnhaaa
