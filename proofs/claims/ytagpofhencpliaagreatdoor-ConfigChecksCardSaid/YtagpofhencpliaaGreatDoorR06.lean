/- The statement ConfigChecks: a configuration with one of its limits, or texts, another one. (and more) -/
import Derived.Test.YtagpofhencpliaaGreatDoorR00
import Derived.Test.YtagpofhencpliaaGreatDoorR04
import Derived.Test.YtagpofhencpliaaGreatDoorR05
import Derived.Test.YtagpofhencpliaaGreatDoorR03
import Derived.Test.YtagpofhencpliaaGreatDoorRows
import Derived.Test.YtagpofhencpliaaGreatDoorR02
import Derived.Deep.Cut
import Derived.Deep.QuietTactic
import Derived.Deep.RegionWith
import Derived.BigQuiet
set_option linter.unusedVariables false
set_option linter.unusedSimpArgs false
namespace Go.Proofs.YtagpofhencpliaaGreatDoor
open Go.RowKit
namespace Kc
theorem infoC : (Tryz.prog.info? 25).map (·.size) = some 10 := by kernel_rfl
def In64 (n : Int) : Prop := -9223372036854775808 ≤ n ∧ n ≤ 9223372036854775807
set_option maxRecDepth 100000 in
set_option maxHeartbeats 8000000 in
theorem changed_any (t0 t1 t2 s : ByteArray) (i0 i1 i2 i3 i4 i5 i6 which n : Int) (w : World) (h0 : t0.size ≤ 100) (h1 : t1.size ≤ 100) (h2 : t2.size ≤ 100) (hs : s.size ≤ 100) (hw : In64 which) (hn : In64 n) (h5 : In64 i5) :
    Calls Tryz.prog 6 #[.agg #[.string t0, .string t1, .string t2, .int .i64 i0, .int .i64 i1, .int .i64 i2, .int .i64 i3, .int .i64 i4, .int .i64 i5, .int .i64 i6], .int .i64 which, .int .i64 n, .string s] w fun e w' => (∃ (a b c : ByteArray) (j0 j1 j2 j3 j4 j5 j6 : Int), e = .returned (.agg #[.string a, .string b, .string c, .int .i64 j0, .int .i64 j1, .int .i64 j2, .int .i64 j3, .int .i64 j4, .int .i64 j5, .int .i64 j6]) ∧ a.size ≤ 100 ∧ b.size ≤ 100 ∧ c.size ≤ 100 ∧ In64 j5) ∧ Q w w' := by
  have HA := Lib.hid (fun u => Ur.around_any which 10 u hw.1 hw.2 (by omega) (by omega))
  have hab := Um.around_bd which 10 (by omega)
  generalize Um.around which 10 = kk at *
  have HS := Lib.hid (⟨h0, h1, h2, hs, hn, h5⟩ : _ ∧ _ ∧ _ ∧ _ ∧ _ ∧ _)
  clear h0 h1 h2 hs hw hn h5
  obtain ⟨y1, hy1⟩ : ∃ y, y = w.alloc (.cells #[.string t0, .string t1, .string t2, .int .i64 i0, .int .i64 i1, .int .i64 i2, .int .i64 i3, .int .i64 i4, .int .i64 i5, .int .i64 i6] 25) := ⟨_, rfl⟩
  have hQ1 : Q w y1 := by rw [hy1]; exact (Q.refl w).alloc _
  have hb1 : Bk y1 w.heap.size 25 [.string t0, .string t1, .string t2, .int .i64 i0, .int .i64 i1, .int .i64 i2, .int .i64 i3, .int .i64 i4, .int .i64 i5, .int .i64 i6] := by rw [hy1]; exact Bk.new _ _ _
  have hs1 : y1.heap.size = w.heap.size + 1 := by rw [hy1]; simp
  obtain ⟨z, hz⟩ : ∃ y, y = y1.alloc (.cells #[.string ⟨#[]⟩, .string ⟨#[]⟩, .string ⟨#[]⟩, .int .i64 0, .int .i64 0, .int .i64 0, .int .i64 0, .int .i64 0, .int .i64 0, .int .i64 0] 25) := ⟨_, rfl⟩
  have hq2 : Q y1 z := by rw [hz]; exact (Q.refl y1).alloc _
  have HQ := Lib.hid (show Q w z from hQ1.trans hq2)
  have HC := Lib.hid (hb1.q hq2)
  have HB := Lib.hid (show Bk z (w.heap.size + 1) 25 [.string ⟨#[]⟩, .string ⟨#[]⟩, .string ⟨#[]⟩, .int .i64 0, .int .i64 0, .int .i64 0, .int .i64 0, .int .i64 0, .int .i64 0, .int .i64 0] by rw [hz, ← hs1]; exact Bk.new _ _ _)
  go_enter Tryz.func6, Tryz.ntmps6
  go_upto_region 1 with fail
  first | rw [← hy1, ← hz] | (rw [hy1] at hz; rw [← hz])
  clear hQ1 hb1 hy1 hs1 hq2 hz
  go_wp2_with fail
  refine (HA.out _).mono ?_
  rintro e u ⟨rfl, rfl⟩
  rcases (show kk = 0 ∨ kk = 1 ∨ kk = 2 ∨ kk = 3 ∨ kk = 4 ∨ kk = 5 ∨ kk = 6 ∨ kk = 7 ∨ kk = 8 ∨ kk = 9 by omega) with rfl | rfl | rfl | rfl | rfl | rfl | rfl | rfl | rfl | rfl
  · have k3 := HC.out.cell 3 rfl
    have f3 := HC.out.free 3
    obtain ⟨U, hU⟩ : ∃ y, y = z.setCell ⟨w.heap.size, 3, none⟩ (.int .i64 n) := ⟨_, rfl⟩
    have HC2 := Lib.hid (show Bk U w.heap.size 25 [.string t0, .string t1, .string t2, .int .i64 n, .int .i64 i1, .int .i64 i2, .int .i64 i3, .int .i64 i4, .int .i64 i5, .int .i64 i6] by rw [hU]; exact HC.out.set 3 _)
    have HB2 := Lib.hid (show Bk U (w.heap.size + 1) 25 [.string ⟨#[]⟩, .string ⟨#[]⟩, .string ⟨#[]⟩, .int .i64 0, .int .i64 0, .int .i64 0, .int .i64 0, .int .i64 0, .int .i64 0, .int .i64 0] by rw [hU]; exact HB.out.past (by omega) _)
    have HQ2 := Lib.hid (show Q w U by rw [hU]; exact HQ.out.setCell (ad := ⟨w.heap.size, 3, none⟩) (Nat.le_refl _) _)
    go_upto_region 21 with fail
    rw [← hU]
    clear hU k3 f3
    go_wp2_with (first | refine wpList_load_row (by rfl) 25 _ (by rfl) w.heap.size (by rfl) 25 #[.string t0, .string t1, .string t2, .int .i64 n, .int .i64 i1, .int .i64 i2, .int .i64 i3, .int .i64 i4, .int .i64 i5, .int .i64 i6] (0, 0) _ HC2.out Tryz.underlying25 rfl (by exact infoC) ?_ | refine wpList_store_row (by rfl) 25 _ _ (by rfl) (w.heap.size + 1) #[.string t0, .string t1, .string t2, .int .i64 n, .int .i64 i1, .int .i64 i2, .int .i64 i3, .int .i64 i4, .int .i64 i5, .int .i64 i6] (by rfl) (by rfl) 25 _ HB2.out (by exact infoC) rfl (Rw.all1 (by rfl)) ?_)
    exact ret_bk (l := [.string t0, .string t1, .string t2, .int .i64 n, .int .i64 i1, .int .i64 i2, .int .i64 i3, .int .i64 i4, .int .i64 i5, .int .i64 i6]) rfl Tryz.underlying25 (by exact infoC) rfl (Rw.Bk_row HB2.out [.string t0, .string t1, .string t2, .int .i64 n, .int .i64 i1, .int .i64 i2, .int .i64 i3, .int .i64 i4, .int .i64 i5, .int .i64 i6]) rfl ⟨⟨t0, t1, t2, n, i1, i2, i3, i4, i5, i6, rfl, HS.out.1, HS.out.2.1, HS.out.2.2.1, HS.out.2.2.2.2.2⟩, Rw.Q_row HQ2.out (Nat.le_succ _) _⟩
  · have k4 := HC.out.cell 4 rfl
    have f4 := HC.out.free 4
    obtain ⟨U, hU⟩ : ∃ y, y = z.setCell ⟨w.heap.size, 4, none⟩ (.int .i64 n) := ⟨_, rfl⟩
    have HC2 := Lib.hid (show Bk U w.heap.size 25 [.string t0, .string t1, .string t2, .int .i64 i0, .int .i64 n, .int .i64 i2, .int .i64 i3, .int .i64 i4, .int .i64 i5, .int .i64 i6] by rw [hU]; exact HC.out.set 4 _)
    have HB2 := Lib.hid (show Bk U (w.heap.size + 1) 25 [.string ⟨#[]⟩, .string ⟨#[]⟩, .string ⟨#[]⟩, .int .i64 0, .int .i64 0, .int .i64 0, .int .i64 0, .int .i64 0, .int .i64 0, .int .i64 0] by rw [hU]; exact HB.out.past (by omega) _)
    have HQ2 := Lib.hid (show Q w U by rw [hU]; exact HQ.out.setCell (ad := ⟨w.heap.size, 4, none⟩) (Nat.le_refl _) _)
    go_upto_region 21 with fail
    rw [← hU]
    clear hU k4 f4
    go_wp2_with (first | refine wpList_load_row (by rfl) 25 _ (by rfl) w.heap.size (by rfl) 25 #[.string t0, .string t1, .string t2, .int .i64 i0, .int .i64 n, .int .i64 i2, .int .i64 i3, .int .i64 i4, .int .i64 i5, .int .i64 i6] (0, 0) _ HC2.out Tryz.underlying25 rfl (by exact infoC) ?_ | refine wpList_store_row (by rfl) 25 _ _ (by rfl) (w.heap.size + 1) #[.string t0, .string t1, .string t2, .int .i64 i0, .int .i64 n, .int .i64 i2, .int .i64 i3, .int .i64 i4, .int .i64 i5, .int .i64 i6] (by rfl) (by rfl) 25 _ HB2.out (by exact infoC) rfl (Rw.all1 (by rfl)) ?_)
    exact ret_bk (l := [.string t0, .string t1, .string t2, .int .i64 i0, .int .i64 n, .int .i64 i2, .int .i64 i3, .int .i64 i4, .int .i64 i5, .int .i64 i6]) rfl Tryz.underlying25 (by exact infoC) rfl (Rw.Bk_row HB2.out [.string t0, .string t1, .string t2, .int .i64 i0, .int .i64 n, .int .i64 i2, .int .i64 i3, .int .i64 i4, .int .i64 i5, .int .i64 i6]) rfl ⟨⟨t0, t1, t2, i0, n, i2, i3, i4, i5, i6, rfl, HS.out.1, HS.out.2.1, HS.out.2.2.1, HS.out.2.2.2.2.2⟩, Rw.Q_row HQ2.out (Nat.le_succ _) _⟩
  · have k5 := HC.out.cell 5 rfl
    have f5 := HC.out.free 5
    obtain ⟨U, hU⟩ : ∃ y, y = z.setCell ⟨w.heap.size, 5, none⟩ (.int .i64 n) := ⟨_, rfl⟩
    have HC2 := Lib.hid (show Bk U w.heap.size 25 [.string t0, .string t1, .string t2, .int .i64 i0, .int .i64 i1, .int .i64 n, .int .i64 i3, .int .i64 i4, .int .i64 i5, .int .i64 i6] by rw [hU]; exact HC.out.set 5 _)
    have HB2 := Lib.hid (show Bk U (w.heap.size + 1) 25 [.string ⟨#[]⟩, .string ⟨#[]⟩, .string ⟨#[]⟩, .int .i64 0, .int .i64 0, .int .i64 0, .int .i64 0, .int .i64 0, .int .i64 0, .int .i64 0] by rw [hU]; exact HB.out.past (by omega) _)
    have HQ2 := Lib.hid (show Q w U by rw [hU]; exact HQ.out.setCell (ad := ⟨w.heap.size, 5, none⟩) (Nat.le_refl _) _)
    go_upto_region 21 with fail
    rw [← hU]
    clear hU k5 f5
    go_wp2_with (first | refine wpList_load_row (by rfl) 25 _ (by rfl) w.heap.size (by rfl) 25 #[.string t0, .string t1, .string t2, .int .i64 i0, .int .i64 i1, .int .i64 n, .int .i64 i3, .int .i64 i4, .int .i64 i5, .int .i64 i6] (0, 0) _ HC2.out Tryz.underlying25 rfl (by exact infoC) ?_ | refine wpList_store_row (by rfl) 25 _ _ (by rfl) (w.heap.size + 1) #[.string t0, .string t1, .string t2, .int .i64 i0, .int .i64 i1, .int .i64 n, .int .i64 i3, .int .i64 i4, .int .i64 i5, .int .i64 i6] (by rfl) (by rfl) 25 _ HB2.out (by exact infoC) rfl (Rw.all1 (by rfl)) ?_)
    exact ret_bk (l := [.string t0, .string t1, .string t2, .int .i64 i0, .int .i64 i1, .int .i64 n, .int .i64 i3, .int .i64 i4, .int .i64 i5, .int .i64 i6]) rfl Tryz.underlying25 (by exact infoC) rfl (Rw.Bk_row HB2.out [.string t0, .string t1, .string t2, .int .i64 i0, .int .i64 i1, .int .i64 n, .int .i64 i3, .int .i64 i4, .int .i64 i5, .int .i64 i6]) rfl ⟨⟨t0, t1, t2, i0, i1, n, i3, i4, i5, i6, rfl, HS.out.1, HS.out.2.1, HS.out.2.2.1, HS.out.2.2.2.2.2⟩, Rw.Q_row HQ2.out (Nat.le_succ _) _⟩
  · have k6 := HC.out.cell 6 rfl
    have f6 := HC.out.free 6
    obtain ⟨U, hU⟩ : ∃ y, y = z.setCell ⟨w.heap.size, 6, none⟩ (.int .i64 n) := ⟨_, rfl⟩
    have HC2 := Lib.hid (show Bk U w.heap.size 25 [.string t0, .string t1, .string t2, .int .i64 i0, .int .i64 i1, .int .i64 i2, .int .i64 n, .int .i64 i4, .int .i64 i5, .int .i64 i6] by rw [hU]; exact HC.out.set 6 _)
    have HB2 := Lib.hid (show Bk U (w.heap.size + 1) 25 [.string ⟨#[]⟩, .string ⟨#[]⟩, .string ⟨#[]⟩, .int .i64 0, .int .i64 0, .int .i64 0, .int .i64 0, .int .i64 0, .int .i64 0, .int .i64 0] by rw [hU]; exact HB.out.past (by omega) _)
    have HQ2 := Lib.hid (show Q w U by rw [hU]; exact HQ.out.setCell (ad := ⟨w.heap.size, 6, none⟩) (Nat.le_refl _) _)
    go_upto_region 21 with fail
    rw [← hU]
    clear hU k6 f6
    go_wp2_with (first | refine wpList_load_row (by rfl) 25 _ (by rfl) w.heap.size (by rfl) 25 #[.string t0, .string t1, .string t2, .int .i64 i0, .int .i64 i1, .int .i64 i2, .int .i64 n, .int .i64 i4, .int .i64 i5, .int .i64 i6] (0, 0) _ HC2.out Tryz.underlying25 rfl (by exact infoC) ?_ | refine wpList_store_row (by rfl) 25 _ _ (by rfl) (w.heap.size + 1) #[.string t0, .string t1, .string t2, .int .i64 i0, .int .i64 i1, .int .i64 i2, .int .i64 n, .int .i64 i4, .int .i64 i5, .int .i64 i6] (by rfl) (by rfl) 25 _ HB2.out (by exact infoC) rfl (Rw.all1 (by rfl)) ?_)
    exact ret_bk (l := [.string t0, .string t1, .string t2, .int .i64 i0, .int .i64 i1, .int .i64 i2, .int .i64 n, .int .i64 i4, .int .i64 i5, .int .i64 i6]) rfl Tryz.underlying25 (by exact infoC) rfl (Rw.Bk_row HB2.out [.string t0, .string t1, .string t2, .int .i64 i0, .int .i64 i1, .int .i64 i2, .int .i64 n, .int .i64 i4, .int .i64 i5, .int .i64 i6]) rfl ⟨⟨t0, t1, t2, i0, i1, i2, n, i4, i5, i6, rfl, HS.out.1, HS.out.2.1, HS.out.2.2.1, HS.out.2.2.2.2.2⟩, Rw.Q_row HQ2.out (Nat.le_succ _) _⟩
  · have k7 := HC.out.cell 7 rfl
    have f7 := HC.out.free 7
    obtain ⟨U, hU⟩ : ∃ y, y = z.setCell ⟨w.heap.size, 7, none⟩ (.int .i64 n) := ⟨_, rfl⟩
    have HC2 := Lib.hid (show Bk U w.heap.size 25 [.string t0, .string t1, .string t2, .int .i64 i0, .int .i64 i1, .int .i64 i2, .int .i64 i3, .int .i64 n, .int .i64 i5, .int .i64 i6] by rw [hU]; exact HC.out.set 7 _)
    have HB2 := Lib.hid (show Bk U (w.heap.size + 1) 25 [.string ⟨#[]⟩, .string ⟨#[]⟩, .string ⟨#[]⟩, .int .i64 0, .int .i64 0, .int .i64 0, .int .i64 0, .int .i64 0, .int .i64 0, .int .i64 0] by rw [hU]; exact HB.out.past (by omega) _)
    have HQ2 := Lib.hid (show Q w U by rw [hU]; exact HQ.out.setCell (ad := ⟨w.heap.size, 7, none⟩) (Nat.le_refl _) _)
    go_upto_region 21 with fail
    rw [← hU]
    clear hU k7 f7
    go_wp2_with (first | refine wpList_load_row (by rfl) 25 _ (by rfl) w.heap.size (by rfl) 25 #[.string t0, .string t1, .string t2, .int .i64 i0, .int .i64 i1, .int .i64 i2, .int .i64 i3, .int .i64 n, .int .i64 i5, .int .i64 i6] (0, 0) _ HC2.out Tryz.underlying25 rfl (by exact infoC) ?_ | refine wpList_store_row (by rfl) 25 _ _ (by rfl) (w.heap.size + 1) #[.string t0, .string t1, .string t2, .int .i64 i0, .int .i64 i1, .int .i64 i2, .int .i64 i3, .int .i64 n, .int .i64 i5, .int .i64 i6] (by rfl) (by rfl) 25 _ HB2.out (by exact infoC) rfl (Rw.all1 (by rfl)) ?_)
    exact ret_bk (l := [.string t0, .string t1, .string t2, .int .i64 i0, .int .i64 i1, .int .i64 i2, .int .i64 i3, .int .i64 n, .int .i64 i5, .int .i64 i6]) rfl Tryz.underlying25 (by exact infoC) rfl (Rw.Bk_row HB2.out [.string t0, .string t1, .string t2, .int .i64 i0, .int .i64 i1, .int .i64 i2, .int .i64 i3, .int .i64 n, .int .i64 i5, .int .i64 i6]) rfl ⟨⟨t0, t1, t2, i0, i1, i2, i3, n, i5, i6, rfl, HS.out.1, HS.out.2.1, HS.out.2.2.1, HS.out.2.2.2.2.2⟩, Rw.Q_row HQ2.out (Nat.le_succ _) _⟩
  · have k8 := HC.out.cell 8 rfl
    have f8 := HC.out.free 8
    obtain ⟨U, hU⟩ : ∃ y, y = z.setCell ⟨w.heap.size, 8, none⟩ (.int .i64 n) := ⟨_, rfl⟩
    have HC2 := Lib.hid (show Bk U w.heap.size 25 [.string t0, .string t1, .string t2, .int .i64 i0, .int .i64 i1, .int .i64 i2, .int .i64 i3, .int .i64 i4, .int .i64 n, .int .i64 i6] by rw [hU]; exact HC.out.set 8 _)
    have HB2 := Lib.hid (show Bk U (w.heap.size + 1) 25 [.string ⟨#[]⟩, .string ⟨#[]⟩, .string ⟨#[]⟩, .int .i64 0, .int .i64 0, .int .i64 0, .int .i64 0, .int .i64 0, .int .i64 0, .int .i64 0] by rw [hU]; exact HB.out.past (by omega) _)
    have HQ2 := Lib.hid (show Q w U by rw [hU]; exact HQ.out.setCell (ad := ⟨w.heap.size, 8, none⟩) (Nat.le_refl _) _)
    go_upto_region 21 with fail
    rw [← hU]
    clear hU k8 f8
    go_wp2_with (first | refine wpList_load_row (by rfl) 25 _ (by rfl) w.heap.size (by rfl) 25 #[.string t0, .string t1, .string t2, .int .i64 i0, .int .i64 i1, .int .i64 i2, .int .i64 i3, .int .i64 i4, .int .i64 n, .int .i64 i6] (0, 0) _ HC2.out Tryz.underlying25 rfl (by exact infoC) ?_ | refine wpList_store_row (by rfl) 25 _ _ (by rfl) (w.heap.size + 1) #[.string t0, .string t1, .string t2, .int .i64 i0, .int .i64 i1, .int .i64 i2, .int .i64 i3, .int .i64 i4, .int .i64 n, .int .i64 i6] (by rfl) (by rfl) 25 _ HB2.out (by exact infoC) rfl (Rw.all1 (by rfl)) ?_)
    exact ret_bk (l := [.string t0, .string t1, .string t2, .int .i64 i0, .int .i64 i1, .int .i64 i2, .int .i64 i3, .int .i64 i4, .int .i64 n, .int .i64 i6]) rfl Tryz.underlying25 (by exact infoC) rfl (Rw.Bk_row HB2.out [.string t0, .string t1, .string t2, .int .i64 i0, .int .i64 i1, .int .i64 i2, .int .i64 i3, .int .i64 i4, .int .i64 n, .int .i64 i6]) rfl ⟨⟨t0, t1, t2, i0, i1, i2, i3, i4, n, i6, rfl, HS.out.1, HS.out.2.1, HS.out.2.2.1, HS.out.2.2.2.2.1⟩, Rw.Q_row HQ2.out (Nat.le_succ _) _⟩
  · have k9 := HC.out.cell 9 rfl
    have f9 := HC.out.free 9
    obtain ⟨U, hU⟩ : ∃ y, y = z.setCell ⟨w.heap.size, 9, none⟩ (.int .i64 n) := ⟨_, rfl⟩
    have HC2 := Lib.hid (show Bk U w.heap.size 25 [.string t0, .string t1, .string t2, .int .i64 i0, .int .i64 i1, .int .i64 i2, .int .i64 i3, .int .i64 i4, .int .i64 i5, .int .i64 n] by rw [hU]; exact HC.out.set 9 _)
    have HB2 := Lib.hid (show Bk U (w.heap.size + 1) 25 [.string ⟨#[]⟩, .string ⟨#[]⟩, .string ⟨#[]⟩, .int .i64 0, .int .i64 0, .int .i64 0, .int .i64 0, .int .i64 0, .int .i64 0, .int .i64 0] by rw [hU]; exact HB.out.past (by omega) _)
    have HQ2 := Lib.hid (show Q w U by rw [hU]; exact HQ.out.setCell (ad := ⟨w.heap.size, 9, none⟩) (Nat.le_refl _) _)
    go_upto_region 21 with fail
    rw [← hU]
    clear hU k9 f9
    go_wp2_with (first | refine wpList_load_row (by rfl) 25 _ (by rfl) w.heap.size (by rfl) 25 #[.string t0, .string t1, .string t2, .int .i64 i0, .int .i64 i1, .int .i64 i2, .int .i64 i3, .int .i64 i4, .int .i64 i5, .int .i64 n] (0, 0) _ HC2.out Tryz.underlying25 rfl (by exact infoC) ?_ | refine wpList_store_row (by rfl) 25 _ _ (by rfl) (w.heap.size + 1) #[.string t0, .string t1, .string t2, .int .i64 i0, .int .i64 i1, .int .i64 i2, .int .i64 i3, .int .i64 i4, .int .i64 i5, .int .i64 n] (by rfl) (by rfl) 25 _ HB2.out (by exact infoC) rfl (Rw.all1 (by rfl)) ?_)
    exact ret_bk (l := [.string t0, .string t1, .string t2, .int .i64 i0, .int .i64 i1, .int .i64 i2, .int .i64 i3, .int .i64 i4, .int .i64 i5, .int .i64 n]) rfl Tryz.underlying25 (by exact infoC) rfl (Rw.Bk_row HB2.out [.string t0, .string t1, .string t2, .int .i64 i0, .int .i64 i1, .int .i64 i2, .int .i64 i3, .int .i64 i4, .int .i64 i5, .int .i64 n]) rfl ⟨⟨t0, t1, t2, i0, i1, i2, i3, i4, i5, n, rfl, HS.out.1, HS.out.2.1, HS.out.2.2.1, HS.out.2.2.2.2.2⟩, Rw.Q_row HQ2.out (Nat.le_succ _) _⟩
  · have k0 := HC.out.cell 0 rfl
    have f0 := HC.out.free 0
    obtain ⟨U, hU⟩ : ∃ y, y = z.setCell ⟨w.heap.size, 0, none⟩ (.string s) := ⟨_, rfl⟩
    have HC2 := Lib.hid (show Bk U w.heap.size 25 [.string s, .string t1, .string t2, .int .i64 i0, .int .i64 i1, .int .i64 i2, .int .i64 i3, .int .i64 i4, .int .i64 i5, .int .i64 i6] by rw [hU]; exact HC.out.set 0 _)
    have HB2 := Lib.hid (show Bk U (w.heap.size + 1) 25 [.string ⟨#[]⟩, .string ⟨#[]⟩, .string ⟨#[]⟩, .int .i64 0, .int .i64 0, .int .i64 0, .int .i64 0, .int .i64 0, .int .i64 0, .int .i64 0] by rw [hU]; exact HB.out.past (by omega) _)
    have HQ2 := Lib.hid (show Q w U by rw [hU]; exact HQ.out.setCell (ad := ⟨w.heap.size, 0, none⟩) (Nat.le_refl _) _)
    go_upto_region 21 with fail
    rw [← hU]
    clear hU k0 f0
    go_wp2_with (first | refine wpList_load_row (by rfl) 25 _ (by rfl) w.heap.size (by rfl) 25 #[.string s, .string t1, .string t2, .int .i64 i0, .int .i64 i1, .int .i64 i2, .int .i64 i3, .int .i64 i4, .int .i64 i5, .int .i64 i6] (0, 0) _ HC2.out Tryz.underlying25 rfl (by exact infoC) ?_ | refine wpList_store_row (by rfl) 25 _ _ (by rfl) (w.heap.size + 1) #[.string s, .string t1, .string t2, .int .i64 i0, .int .i64 i1, .int .i64 i2, .int .i64 i3, .int .i64 i4, .int .i64 i5, .int .i64 i6] (by rfl) (by rfl) 25 _ HB2.out (by exact infoC) rfl (Rw.all1 (by rfl)) ?_)
    exact ret_bk (l := [.string s, .string t1, .string t2, .int .i64 i0, .int .i64 i1, .int .i64 i2, .int .i64 i3, .int .i64 i4, .int .i64 i5, .int .i64 i6]) rfl Tryz.underlying25 (by exact infoC) rfl (Rw.Bk_row HB2.out [.string s, .string t1, .string t2, .int .i64 i0, .int .i64 i1, .int .i64 i2, .int .i64 i3, .int .i64 i4, .int .i64 i5, .int .i64 i6]) rfl ⟨⟨s, t1, t2, i0, i1, i2, i3, i4, i5, i6, rfl, HS.out.2.2.2.1, HS.out.2.1, HS.out.2.2.1, HS.out.2.2.2.2.2⟩, Rw.Q_row HQ2.out (Nat.le_succ _) _⟩
  · have k1 := HC.out.cell 1 rfl
    have f1 := HC.out.free 1
    obtain ⟨U, hU⟩ : ∃ y, y = z.setCell ⟨w.heap.size, 1, none⟩ (.string s) := ⟨_, rfl⟩
    have HC2 := Lib.hid (show Bk U w.heap.size 25 [.string t0, .string s, .string t2, .int .i64 i0, .int .i64 i1, .int .i64 i2, .int .i64 i3, .int .i64 i4, .int .i64 i5, .int .i64 i6] by rw [hU]; exact HC.out.set 1 _)
    have HB2 := Lib.hid (show Bk U (w.heap.size + 1) 25 [.string ⟨#[]⟩, .string ⟨#[]⟩, .string ⟨#[]⟩, .int .i64 0, .int .i64 0, .int .i64 0, .int .i64 0, .int .i64 0, .int .i64 0, .int .i64 0] by rw [hU]; exact HB.out.past (by omega) _)
    have HQ2 := Lib.hid (show Q w U by rw [hU]; exact HQ.out.setCell (ad := ⟨w.heap.size, 1, none⟩) (Nat.le_refl _) _)
    go_upto_region 21 with fail
    rw [← hU]
    clear hU k1 f1
    go_wp2_with (first | refine wpList_load_row (by rfl) 25 _ (by rfl) w.heap.size (by rfl) 25 #[.string t0, .string s, .string t2, .int .i64 i0, .int .i64 i1, .int .i64 i2, .int .i64 i3, .int .i64 i4, .int .i64 i5, .int .i64 i6] (0, 0) _ HC2.out Tryz.underlying25 rfl (by exact infoC) ?_ | refine wpList_store_row (by rfl) 25 _ _ (by rfl) (w.heap.size + 1) #[.string t0, .string s, .string t2, .int .i64 i0, .int .i64 i1, .int .i64 i2, .int .i64 i3, .int .i64 i4, .int .i64 i5, .int .i64 i6] (by rfl) (by rfl) 25 _ HB2.out (by exact infoC) rfl (Rw.all1 (by rfl)) ?_)
    exact ret_bk (l := [.string t0, .string s, .string t2, .int .i64 i0, .int .i64 i1, .int .i64 i2, .int .i64 i3, .int .i64 i4, .int .i64 i5, .int .i64 i6]) rfl Tryz.underlying25 (by exact infoC) rfl (Rw.Bk_row HB2.out [.string t0, .string s, .string t2, .int .i64 i0, .int .i64 i1, .int .i64 i2, .int .i64 i3, .int .i64 i4, .int .i64 i5, .int .i64 i6]) rfl ⟨⟨t0, s, t2, i0, i1, i2, i3, i4, i5, i6, rfl, HS.out.1, HS.out.2.2.2.1, HS.out.2.2.1, HS.out.2.2.2.2.2⟩, Rw.Q_row HQ2.out (Nat.le_succ _) _⟩
  · have k2 := HC.out.cell 2 rfl
    have f2 := HC.out.free 2
    obtain ⟨U, hU⟩ : ∃ y, y = z.setCell ⟨w.heap.size, 2, none⟩ (.string s) := ⟨_, rfl⟩
    have HC2 := Lib.hid (show Bk U w.heap.size 25 [.string t0, .string t1, .string s, .int .i64 i0, .int .i64 i1, .int .i64 i2, .int .i64 i3, .int .i64 i4, .int .i64 i5, .int .i64 i6] by rw [hU]; exact HC.out.set 2 _)
    have HB2 := Lib.hid (show Bk U (w.heap.size + 1) 25 [.string ⟨#[]⟩, .string ⟨#[]⟩, .string ⟨#[]⟩, .int .i64 0, .int .i64 0, .int .i64 0, .int .i64 0, .int .i64 0, .int .i64 0, .int .i64 0] by rw [hU]; exact HB.out.past (by omega) _)
    have HQ2 := Lib.hid (show Q w U by rw [hU]; exact HQ.out.setCell (ad := ⟨w.heap.size, 2, none⟩) (Nat.le_refl _) _)
    go_upto_region 21 with fail
    rw [← hU]
    clear hU k2 f2
    go_wp2_with (first | refine wpList_load_row (by rfl) 25 _ (by rfl) w.heap.size (by rfl) 25 #[.string t0, .string t1, .string s, .int .i64 i0, .int .i64 i1, .int .i64 i2, .int .i64 i3, .int .i64 i4, .int .i64 i5, .int .i64 i6] (0, 0) _ HC2.out Tryz.underlying25 rfl (by exact infoC) ?_ | refine wpList_store_row (by rfl) 25 _ _ (by rfl) (w.heap.size + 1) #[.string t0, .string t1, .string s, .int .i64 i0, .int .i64 i1, .int .i64 i2, .int .i64 i3, .int .i64 i4, .int .i64 i5, .int .i64 i6] (by rfl) (by rfl) 25 _ HB2.out (by exact infoC) rfl (Rw.all1 (by rfl)) ?_)
    exact ret_bk (l := [.string t0, .string t1, .string s, .int .i64 i0, .int .i64 i1, .int .i64 i2, .int .i64 i3, .int .i64 i4, .int .i64 i5, .int .i64 i6]) rfl Tryz.underlying25 (by exact infoC) rfl (Rw.Bk_row HB2.out [.string t0, .string t1, .string s, .int .i64 i0, .int .i64 i1, .int .i64 i2, .int .i64 i3, .int .i64 i4, .int .i64 i5, .int .i64 i6]) rfl ⟨⟨t0, t1, s, i0, i1, i2, i3, i4, i5, i6, rfl, HS.out.1, HS.out.2.1, HS.out.2.2.2.1, HS.out.2.2.2.2.2⟩, Rw.Q_row HQ2.out (Nat.le_succ _) _⟩
end Kc
end Go.Proofs.YtagpofhencpliaaGreatDoor
namespace Go.Proofs.YtagpofhencpliaaGreatDoor
open Go.RowKit
namespace Dm
def txtL (xs : List Int) : List Int := xs.map fun d => 48 + d
def txtB (xs : List Int) : ByteArray := strOfNums (txtL xs)
theorem txt_size (xs : List Int) : (txtB xs).size = xs.length := by unfold txtB txtL; rw [strOfNums_size, List.length_map]
theorem txtL_snoc (xs : List Int) (k : Nat) (hk : k < xs.length) : txtL (xs.take (k + 1)) = txtL (xs.take k) ++ [48 + xs.getD k 0] := by
  unfold txtL
  rw [List.take_succ_eq_append_getElem hk, List.map_append, List.getD_eq_getElem?_getD, List.getElem?_eq_getElem hk]; rfl
theorem txtL_len (xs : List Int) (k : Nat) (hk : k ≤ xs.length) : (txtL (xs.take k)).length = k := by
  unfold txtL; rw [List.length_map, List.length_take]; omega
theorem at_list (s : ByteArray) (k : Nat) (h : k < s.size) : s.data.toList.drop k = s[k]'h :: s.data.toList.drop (k + 1) := by
  rw [List.drop_eq_getElem_cons (show k < s.data.toList.length from by rw [Array.length_toList]; exact h)]
  rw [Array.getElem_toList]; rfl
end Dm
namespace Dw
set_option maxHeartbeats 800000 in
theorem text_bad (va : Value) (xs : List Int) (w : World) (hv : Lst w va xs) (hl : xs.length < 1099511627776) (hb : Dm.okB xs = false) :
    Calls Tryz.prog 63 #[va] w fun e w' => e = .returned (.string ⟨#[]⟩) ∧ w = w' := by
  have h := may_any va xs w hv hl
  rw [hb] at h
  have H := Lib.hid h
  clear h hb hv
  go_enter Tryz.func63, Tryz.ntmps63
  go_wp2_with fail
  refine H.out.mono ?_
  rintro e w1 ⟨rfl, rfl⟩
  go_wp2_with fail
  go_ret
  exact ⟨rfl, rfl⟩
set_option maxHeartbeats 1600000 in
theorem text_any (va : Value) (xs : List Int) (w : World) (hv : Lst w va xs) (hl : xs.length < 1000000) (hx : Dm.okD xs) :
    Calls Tryz.prog 63 #[va] w fun e w' => e = .returned (.string (Dm.txtB xs)) ∧ Q w w' := by
  have h := may_any va xs w hv (by omega)
  rw [(Dm.okB_iff xs).2 hx] at h
  have H := Lib.hid h
  obtain ⟨n, hn⟩ : ∃ n, n = xs.length := ⟨_, rfl⟩
  obtain ⟨a, c, rfl, hnc, hcm⟩ := hv.form0 hn.symm
  have HV := Lib.hid (fun k (hk : k < n) => hv.cellOf (n := n) (k := k) hn.symm hk)
  have HSN := Lib.hid (fun k (hk : k < n) => Dm.txtL_snoc xs k (by omega))
  have HTL := Lib.hid (fun k (hk : k ≤ n) => Dm.txtL_len xs k (by omega))
  have HTA := Lib.hid (show Dm.txtB xs = strOfNums (Dm.txtL (xs.take n)) from by rw [hn, List.take_length]; rfl)
  have HD := Lib.hid (fun k (hk : k < n) => (by rw [List.getD_eq_getElem?_getD, List.getElem?_eq_getElem (by omega)]; exact hx _ (List.getElem_mem _) : 0 ≤ xs.getD k 0 ∧ xs.getD k 0 ≤ 9))
  rw [← hn] at hl
  unfold maxLen at hcm
  clear h hv hn hx
  go_enter Tryz.func63, Tryz.ntmps63
  go_wp2_with fail
  refine H.out.mono ?_
  rintro e w1 ⟨rfl, rfl⟩
  go_wp2_with (at_make; refine make_bytes rfl _ _ rfl n _ (by rfl) (by rfl) rfl (by omega) (Nat.le_refl _) ?_)
  intro w2 ho2 hq2
  have HO2 := Lib.hid ho2
  have HQ2 := Lib.hid hq2
  obtain ⟨g, hg⟩ : ∃ g, g = w.heap.size := ⟨_, rfl⟩
  have hgB : w.heap.size ≤ g := by omega
  rw [← hg] at HO2 ⊢
  clear ho2 hq2 hg
  go_wp2_with fail
  go_loopw [13] (fun t wr => ∃ k : Nat, t = .int .i64 k ∧ k ≤ n ∧ BOwn wr g (.slice (some ⟨g, 0, none⟩) n n) (Dm.txtL (xs.take k) ++ List.replicate (n - k) 0) ∧ Q w wr) (fun t _ => n - (intOf t).toNat)
  case atStart => exact ⟨0, rfl, by omega, HO2.out, HQ2.out⟩
  case round =>
    obtain ⟨k, rfl, hk, ho, hq⟩ := hrel
    have HO := Lib.hid ho
    clear ho
    have hlen : (Dm.txtL (xs.take k) ++ List.replicate (n - k) 0).length = n := by rw [List.length_append, HTL.out k hk, List.length_replicate]; omega
    by_cases hlt : k < n
    · obtain ⟨go, off, cap, hvv, hgo, _, _, c0⟩ := HV.out k hlt
      cases hvv
      have c1 := (World.cell?_of_block (w := w) (hq.block hgo) (a := ⟨go, off + k, none⟩)).trans c0
      have c2 := GOwn.cellAt HO.out hlen (k := k) (x := 0) (by rw [List.getElem?_append_right (by rw [HTL.out k hk]; omega), HTL.out k hk, List.getElem?_replicate, if_pos (by omega)])
      have f2 := GOwn.freeAt HO.out hlen k
      have hd := HD.out k hlt
      have hsn := HSN.out k hlt
      have hos := fun e => GOwn.stored HO.out hlen k e
      generalize xs.getD k 0 = d at *
      have hos2 := hos (48 + d)
      rw [Dm.set_zeros _ n k _ (HTL.out k hk) hlt, ← hsn] at hos2
      have HOS := Lib.hid hos2
      have HQS := Lib.hid (fun u => hq.setCell (ad := ⟨g, k, none⟩) hgB u)
      obtain ⟨hd1, hd2⟩ := hd
      clear hos hos2 hsn hlen c0 hq
      go_wp2_with fail
      exact ⟨⟨k + 1, by go_num, by omega, HOS.out, HQS.out _⟩, by simp [intOf]; omega⟩
    · have hkn : k = n := by omega
      have ho := HO.out
      rw [hkn, Nat.sub_self, List.replicate_zero, List.append_nil] at ho
      have hcv := conv_own ho (HTL.out n (Nat.le_refl _))
      rw [← HTA.out] at hcv
      have HQ := Lib.hid hq
      clear ho hkn hlen hq
      go_wp2_with fail
      go_ret
      exact ⟨rfl, HQ.out⟩
end Dw
end Go.Proofs.YtagpofhencpliaaGreatDoor
