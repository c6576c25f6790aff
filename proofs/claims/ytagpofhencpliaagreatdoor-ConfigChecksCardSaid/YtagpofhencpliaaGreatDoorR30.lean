/- The document's own config: a limit out of bounds. (and more) -/
import Derived.Test.YtagpofhencpliaaGreatDoorR00
import Derived.Test.YtagpofhencpliaaGreatDoorR04
import Derived.Test.YtagpofhencpliaaGreatDoorR22
import Derived.Test.YtagpofhencpliaaGreatDoorR21
import Derived.Test.YtagpofhencpliaaGreatDoorR28
import Derived.Test.YtagpofhencpliaaGreatDoorR02
import Derived.Test.YtagpofhencpliaaGreatDoorR10
import Derived.Test.YtagpofhencpliaaGreatDoorR13
import Derived.Test.YtagpofhencpliaaGreatDoorR03
import Derived.Test.YtagpofhencpliaaGreatDoorRows
import Derived.Deep.Cut
set_option linter.unusedVariables false
set_option linter.unusedSimpArgs false
namespace Go.Proofs.YtagpofhencpliaaGreatDoor
open Go.RowKit
namespace Kr
set_option maxRecDepth 100000 in
set_option maxHeartbeats 4000000 in
theorem new_lim0 (t0 t1 t2 : ByteArray) (i0 i1 i2 i3 i4 i5 i6 : Int) (w : World)  (h0 : ¬ (1 ≤ i0 ∧ i0 ≤ 64)) :
    Calls Tryz.prog 10 #[.agg #[.string t0, .string t1, .string t2, .int .i64 i0, .int .i64 i1, .int .i64 i2, .int .i64 i3, .int .i64 i4, .int .i64 i5, .int .i64 i6]] w fun e w' => e = .returned (.tuple #[rul0, .string ⟨#[105, 110, 116, 99, 97, 112]⟩, .int .i64 3]) ∧ Q w w' := by
  have HO0 := Lib.hid (fun u => out_any i0 1 64 u)
  rw [show (!(decide (1 ≤ i0) && decide (i0 ≤ 64))) = true by simp only [Bool.not_eq_eq_eq_not, Bool.not_true, Bool.and_eq_false_iff, decide_eq_false_iff_not]; omega] at HO0
  clear h0
  obtain ⟨y1, hy1⟩ : ∃ y, y = w.alloc (.cells #[.string t0, .string t1, .string t2, .int .i64 i0, .int .i64 i1, .int .i64 i2, .int .i64 i3, .int .i64 i4, .int .i64 i5, .int .i64 i6] 25) := ⟨_, rfl⟩
  have hQ1 : Q w y1 := by rw [hy1]; exact (Q.refl w).alloc _
  have hb1 : Bk y1 w.heap.size 25 [.string t0, .string t1, .string t2, .int .i64 i0, .int .i64 i1, .int .i64 i2, .int .i64 i3, .int .i64 i4, .int .i64 i5, .int .i64 i6] := by rw [hy1]; exact Bk.new _ _ _
  have hs1 : y1.heap.size = w.heap.size + 1 := by rw [hy1]; simp
  obtain ⟨z, hz⟩ : ∃ y, y = y1.alloc (.cells #[.bool false, .slice none 0 0, .int .i64 0, .bool false, .slice none 0 0, .int .i64 0, .bool false, .slice none 0 0, .int .i64 0, .bool false, .int .i64 0, .int .i64 0, .int .i64 0, .int .i64 0, .int .i64 0, .int .i64 0, .int .i64 0] 48) := ⟨_, rfl⟩
  have hq2 : Q y1 z := by rw [hz]; exact (Q.refl y1).alloc _
  have hb2 : Bk z (w.heap.size + 1) 48 [.bool false, .slice none 0 0, .int .i64 0, .bool false, .slice none 0 0, .int .i64 0, .bool false, .slice none 0 0, .int .i64 0, .bool false, .int .i64 0, .int .i64 0, .int .i64 0, .int .i64 0, .int .i64 0, .int .i64 0, .int .i64 0] := by rw [hz, ← hs1]; exact Bk.new _ _ _
  have hc := hb1.q hq2
  have HZS := Lib.hid (show z.heap.size = w.heap.size + 1 + 1 by rw [hz]; simp; omega)
  have k3 := hc.cell 3 rfl
  have k4 := hc.cell 4 rfl
  have k5 := hc.cell 5 rfl
  have k6 := hc.cell 6 rfl
  have k7 := hc.cell 7 rfl
  have k8 := hc.cell 8 rfl
  have k9 := hc.cell 9 rfl
  obtain ⟨W, hW⟩ : ∃ y, y = z.alloc (.cells #[.int .i64 i0, .int .i64 i1, .int .i64 i2, .int .i64 i3, .int .i64 i4, .int .i64 i5, .int .i64 i6] 23) := ⟨_, rfl⟩
  have hqW : Q z W := by rw [hW]; exact (Q.refl z).alloc _
  have hn : Bk W (w.heap.size + 1 + 1) 23 [.int .i64 i0, .int .i64 i1, .int .i64 i2, .int .i64 i3, .int .i64 i4, .int .i64 i5, .int .i64 i6] := by rw [hW, ← HZS.out]; exact Bk.new _ _ _
  have HQ := Lib.hid (show Q w W from (hQ1.trans hq2).trans hqW)
  have HC := Lib.hid (hc.q hqW)
  have HB := Lib.hid (hb2.q hqW)
  have HN := Lib.hid hn
  go_enter Tryz.func10, Tryz.ntmps10
  go_upto_region 1 with fail
  first | rw [← hy1, ← hz] | (rw [hy1] at hz; rw [← hz])
  clear hQ1 hb1 hy1 hs1 hq2 hb2 hz
  go_upto_region 2 with fail
  rw [← hW]
  try rw [HZS.out]
  clear hqW hW hc k3 k4 k5 k6 k7 k8 k9
  have n0 := hn.cell 0 rfl
  have n1 := hn.cell 1 rfl
  have n2 := hn.cell 2 rfl
  have n3 := hn.cell 3 rfl
  have n4 := hn.cell 4 rfl
  have n5 := hn.cell 5 rfl
  have n6 := hn.cell 6 rfl
  clear hn
  go_wp2_with fail
  refine (HO0.out _).mono ?_
  rintro e u ⟨rfl, rfl⟩
  go_wp2_with (refine wpList_store_row (by rfl) 48 _ _ (by rfl) (w.heap.size + 1) #[.bool false, .slice none 0 0, .int .i64 0, .bool false, .slice none 0 0, .int .i64 0, .bool false, .slice none 0 0, .int .i64 0, .bool false, .int .i64 0, .int .i64 0, .int .i64 0, .int .i64 0, .int .i64 0, .int .i64 0, .int .i64 0] (by rfl) (by rfl) 48 _ HB.out (by exact infoRu) rfl (all1 (by rfl)) ?_)
  exact ret_rtt (l := [.bool false, .slice none 0 0, .int .i64 0, .bool false, .slice none 0 0, .int .i64 0, .bool false, .slice none 0 0, .int .i64 0, .bool false, .int .i64 0, .int .i64 0, .int .i64 0, .int .i64 0, .int .i64 0, .int .i64 0, .int .i64 0]) rfl Tryz.underlying48 (by exact infoRu) rfl rfl rfl (Bk_row HB.out [.bool false, .slice none 0 0, .int .i64 0, .bool false, .slice none 0 0, .int .i64 0, .bool false, .slice none 0 0, .int .i64 0, .bool false, .int .i64 0, .int .i64 0, .int .i64 0, .int .i64 0, .int .i64 0, .int .i64 0, .int .i64 0]) rfl ⟨rfl, Q_row HQ.out (Nat.le_succ _) _⟩
set_option maxRecDepth 100000 in
set_option maxHeartbeats 4000000 in
theorem new_lim1 (t0 t1 t2 : ByteArray) (i0 i1 i2 i3 i4 i5 i6 : Int) (w : World) (h0 : 1 ≤ i0 ∧ i0 ≤ 64) (h1 : ¬ (0 ≤ i1 ∧ i1 ≤ 64)) :
    Calls Tryz.prog 10 #[.agg #[.string t0, .string t1, .string t2, .int .i64 i0, .int .i64 i1, .int .i64 i2, .int .i64 i3, .int .i64 i4, .int .i64 i5, .int .i64 i6]] w fun e w' => e = .returned (.tuple #[rul0, .string ⟨#[102, 114, 97, 99, 99, 97, 112]⟩, .int .i64 3]) ∧ Q w w' := by
  have HO0 := Lib.hid (fun u => out_any i0 1 (64) u)
  rw [show (!(decide (1 ≤ i0) && decide (i0 ≤ 64))) = false by rw [decide_eq_true h0.1, decide_eq_true h0.2]; rfl] at HO0
  have HO1 := Lib.hid (fun u => out_any i1 0 64 u)
  rw [show (!(decide (0 ≤ i1) && decide (i1 ≤ 64))) = true by simp only [Bool.not_eq_eq_eq_not, Bool.not_true, Bool.and_eq_false_iff, decide_eq_false_iff_not]; omega] at HO1
  clear h0 h1
  obtain ⟨y1, hy1⟩ : ∃ y, y = w.alloc (.cells #[.string t0, .string t1, .string t2, .int .i64 i0, .int .i64 i1, .int .i64 i2, .int .i64 i3, .int .i64 i4, .int .i64 i5, .int .i64 i6] 25) := ⟨_, rfl⟩
  have hQ1 : Q w y1 := by rw [hy1]; exact (Q.refl w).alloc _
  have hb1 : Bk y1 w.heap.size 25 [.string t0, .string t1, .string t2, .int .i64 i0, .int .i64 i1, .int .i64 i2, .int .i64 i3, .int .i64 i4, .int .i64 i5, .int .i64 i6] := by rw [hy1]; exact Bk.new _ _ _
  have hs1 : y1.heap.size = w.heap.size + 1 := by rw [hy1]; simp
  obtain ⟨z, hz⟩ : ∃ y, y = y1.alloc (.cells #[.bool false, .slice none 0 0, .int .i64 0, .bool false, .slice none 0 0, .int .i64 0, .bool false, .slice none 0 0, .int .i64 0, .bool false, .int .i64 0, .int .i64 0, .int .i64 0, .int .i64 0, .int .i64 0, .int .i64 0, .int .i64 0] 48) := ⟨_, rfl⟩
  have hq2 : Q y1 z := by rw [hz]; exact (Q.refl y1).alloc _
  have hb2 : Bk z (w.heap.size + 1) 48 [.bool false, .slice none 0 0, .int .i64 0, .bool false, .slice none 0 0, .int .i64 0, .bool false, .slice none 0 0, .int .i64 0, .bool false, .int .i64 0, .int .i64 0, .int .i64 0, .int .i64 0, .int .i64 0, .int .i64 0, .int .i64 0] := by rw [hz, ← hs1]; exact Bk.new _ _ _
  have hc := hb1.q hq2
  have HZS := Lib.hid (show z.heap.size = w.heap.size + 1 + 1 by rw [hz]; simp; omega)
  have k3 := hc.cell 3 rfl
  have k4 := hc.cell 4 rfl
  have k5 := hc.cell 5 rfl
  have k6 := hc.cell 6 rfl
  have k7 := hc.cell 7 rfl
  have k8 := hc.cell 8 rfl
  have k9 := hc.cell 9 rfl
  obtain ⟨W, hW⟩ : ∃ y, y = z.alloc (.cells #[.int .i64 i0, .int .i64 i1, .int .i64 i2, .int .i64 i3, .int .i64 i4, .int .i64 i5, .int .i64 i6] 23) := ⟨_, rfl⟩
  have hqW : Q z W := by rw [hW]; exact (Q.refl z).alloc _
  have hn : Bk W (w.heap.size + 1 + 1) 23 [.int .i64 i0, .int .i64 i1, .int .i64 i2, .int .i64 i3, .int .i64 i4, .int .i64 i5, .int .i64 i6] := by rw [hW, ← HZS.out]; exact Bk.new _ _ _
  have HQ := Lib.hid (show Q w W from (hQ1.trans hq2).trans hqW)
  have HC := Lib.hid (hc.q hqW)
  have HB := Lib.hid (hb2.q hqW)
  have HN := Lib.hid hn
  go_enter Tryz.func10, Tryz.ntmps10
  go_upto_region 1 with fail
  first | rw [← hy1, ← hz] | (rw [hy1] at hz; rw [← hz])
  clear hQ1 hb1 hy1 hs1 hq2 hb2 hz
  go_upto_region 2 with fail
  rw [← hW]
  try rw [HZS.out]
  clear hqW hW hc k3 k4 k5 k6 k7 k8 k9
  have n0 := hn.cell 0 rfl
  have n1 := hn.cell 1 rfl
  have n2 := hn.cell 2 rfl
  have n3 := hn.cell 3 rfl
  have n4 := hn.cell 4 rfl
  have n5 := hn.cell 5 rfl
  have n6 := hn.cell 6 rfl
  clear hn
  go_wp2_with fail
  refine (HO0.out _).mono ?_
  rintro e u ⟨rfl, rfl⟩
  go_wp2_with fail
  refine (HO1.out _).mono ?_
  rintro e u ⟨rfl, rfl⟩
  go_wp2_with (refine wpList_store_row (by rfl) 48 _ _ (by rfl) (w.heap.size + 1) #[.bool false, .slice none 0 0, .int .i64 0, .bool false, .slice none 0 0, .int .i64 0, .bool false, .slice none 0 0, .int .i64 0, .bool false, .int .i64 0, .int .i64 0, .int .i64 0, .int .i64 0, .int .i64 0, .int .i64 0, .int .i64 0] (by rfl) (by rfl) 48 _ HB.out (by exact infoRu) rfl (all1 (by rfl)) ?_)
  exact ret_rtt (l := [.bool false, .slice none 0 0, .int .i64 0, .bool false, .slice none 0 0, .int .i64 0, .bool false, .slice none 0 0, .int .i64 0, .bool false, .int .i64 0, .int .i64 0, .int .i64 0, .int .i64 0, .int .i64 0, .int .i64 0, .int .i64 0]) rfl Tryz.underlying48 (by exact infoRu) rfl rfl rfl (Bk_row HB.out [.bool false, .slice none 0 0, .int .i64 0, .bool false, .slice none 0 0, .int .i64 0, .bool false, .slice none 0 0, .int .i64 0, .bool false, .int .i64 0, .int .i64 0, .int .i64 0, .int .i64 0, .int .i64 0, .int .i64 0, .int .i64 0]) rfl ⟨rfl, Q_row HQ.out (Nat.le_succ _) _⟩
set_option maxRecDepth 100000 in
set_option maxHeartbeats 4000000 in
theorem new_lim2 (t0 t1 t2 : ByteArray) (i0 i1 i2 i3 i4 i5 i6 : Int) (w : World) (h0 : 1 ≤ i0 ∧ i0 ≤ 64) (h1 : 0 ≤ i1 ∧ i1 ≤ 64) (h2 : ¬ (0 ≤ i2 ∧ i2 ≤ i1)) :
    Calls Tryz.prog 10 #[.agg #[.string t0, .string t1, .string t2, .int .i64 i0, .int .i64 i1, .int .i64 i2, .int .i64 i3, .int .i64 i4, .int .i64 i5, .int .i64 i6]] w fun e w' => e = .returned (.tuple #[rul0, .string ⟨#[115, 99, 97, 108, 101]⟩, .int .i64 3]) ∧ Q w w' := by
  have HO0 := Lib.hid (fun u => out_any i0 1 (64) u)
  rw [show (!(decide (1 ≤ i0) && decide (i0 ≤ 64))) = false by rw [decide_eq_true h0.1, decide_eq_true h0.2]; rfl] at HO0
  have HO1 := Lib.hid (fun u => out_any i1 0 (64) u)
  rw [show (!(decide (0 ≤ i1) && decide (i1 ≤ 64))) = false by rw [decide_eq_true h1.1, decide_eq_true h1.2]; rfl] at HO1
  have HO2 := Lib.hid (fun u => out_any i2 0 i1 u)
  rw [show (!(decide (0 ≤ i2) && decide (i2 ≤ i1))) = true by simp only [Bool.not_eq_eq_eq_not, Bool.not_true, Bool.and_eq_false_iff, decide_eq_false_iff_not]; omega] at HO2
  clear h0 h1 h2
  obtain ⟨y1, hy1⟩ : ∃ y, y = w.alloc (.cells #[.string t0, .string t1, .string t2, .int .i64 i0, .int .i64 i1, .int .i64 i2, .int .i64 i3, .int .i64 i4, .int .i64 i5, .int .i64 i6] 25) := ⟨_, rfl⟩
  have hQ1 : Q w y1 := by rw [hy1]; exact (Q.refl w).alloc _
  have hb1 : Bk y1 w.heap.size 25 [.string t0, .string t1, .string t2, .int .i64 i0, .int .i64 i1, .int .i64 i2, .int .i64 i3, .int .i64 i4, .int .i64 i5, .int .i64 i6] := by rw [hy1]; exact Bk.new _ _ _
  have hs1 : y1.heap.size = w.heap.size + 1 := by rw [hy1]; simp
  obtain ⟨z, hz⟩ : ∃ y, y = y1.alloc (.cells #[.bool false, .slice none 0 0, .int .i64 0, .bool false, .slice none 0 0, .int .i64 0, .bool false, .slice none 0 0, .int .i64 0, .bool false, .int .i64 0, .int .i64 0, .int .i64 0, .int .i64 0, .int .i64 0, .int .i64 0, .int .i64 0] 48) := ⟨_, rfl⟩
  have hq2 : Q y1 z := by rw [hz]; exact (Q.refl y1).alloc _
  have hb2 : Bk z (w.heap.size + 1) 48 [.bool false, .slice none 0 0, .int .i64 0, .bool false, .slice none 0 0, .int .i64 0, .bool false, .slice none 0 0, .int .i64 0, .bool false, .int .i64 0, .int .i64 0, .int .i64 0, .int .i64 0, .int .i64 0, .int .i64 0, .int .i64 0] := by rw [hz, ← hs1]; exact Bk.new _ _ _
  have hc := hb1.q hq2
  have HZS := Lib.hid (show z.heap.size = w.heap.size + 1 + 1 by rw [hz]; simp; omega)
  have k3 := hc.cell 3 rfl
  have k4 := hc.cell 4 rfl
  have k5 := hc.cell 5 rfl
  have k6 := hc.cell 6 rfl
  have k7 := hc.cell 7 rfl
  have k8 := hc.cell 8 rfl
  have k9 := hc.cell 9 rfl
  obtain ⟨W, hW⟩ : ∃ y, y = z.alloc (.cells #[.int .i64 i0, .int .i64 i1, .int .i64 i2, .int .i64 i3, .int .i64 i4, .int .i64 i5, .int .i64 i6] 23) := ⟨_, rfl⟩
  have hqW : Q z W := by rw [hW]; exact (Q.refl z).alloc _
  have hn : Bk W (w.heap.size + 1 + 1) 23 [.int .i64 i0, .int .i64 i1, .int .i64 i2, .int .i64 i3, .int .i64 i4, .int .i64 i5, .int .i64 i6] := by rw [hW, ← HZS.out]; exact Bk.new _ _ _
  have HQ := Lib.hid (show Q w W from (hQ1.trans hq2).trans hqW)
  have HC := Lib.hid (hc.q hqW)
  have HB := Lib.hid (hb2.q hqW)
  have HN := Lib.hid hn
  go_enter Tryz.func10, Tryz.ntmps10
  go_upto_region 1 with fail
  first | rw [← hy1, ← hz] | (rw [hy1] at hz; rw [← hz])
  clear hQ1 hb1 hy1 hs1 hq2 hb2 hz
  go_upto_region 2 with fail
  rw [← hW]
  try rw [HZS.out]
  clear hqW hW hc k3 k4 k5 k6 k7 k8 k9
  have n0 := hn.cell 0 rfl
  have n1 := hn.cell 1 rfl
  have n2 := hn.cell 2 rfl
  have n3 := hn.cell 3 rfl
  have n4 := hn.cell 4 rfl
  have n5 := hn.cell 5 rfl
  have n6 := hn.cell 6 rfl
  clear hn
  go_wp2_with fail
  refine (HO0.out _).mono ?_
  rintro e u ⟨rfl, rfl⟩
  go_wp2_with fail
  refine (HO1.out _).mono ?_
  rintro e u ⟨rfl, rfl⟩
  go_wp2_with fail
  refine (HO2.out _).mono ?_
  rintro e u ⟨rfl, rfl⟩
  go_wp2_with (refine wpList_store_row (by rfl) 48 _ _ (by rfl) (w.heap.size + 1) #[.bool false, .slice none 0 0, .int .i64 0, .bool false, .slice none 0 0, .int .i64 0, .bool false, .slice none 0 0, .int .i64 0, .bool false, .int .i64 0, .int .i64 0, .int .i64 0, .int .i64 0, .int .i64 0, .int .i64 0, .int .i64 0] (by rfl) (by rfl) 48 _ HB.out (by exact infoRu) rfl (all1 (by rfl)) ?_)
  exact ret_rtt (l := [.bool false, .slice none 0 0, .int .i64 0, .bool false, .slice none 0 0, .int .i64 0, .bool false, .slice none 0 0, .int .i64 0, .bool false, .int .i64 0, .int .i64 0, .int .i64 0, .int .i64 0, .int .i64 0, .int .i64 0, .int .i64 0]) rfl Tryz.underlying48 (by exact infoRu) rfl rfl rfl (Bk_row HB.out [.bool false, .slice none 0 0, .int .i64 0, .bool false, .slice none 0 0, .int .i64 0, .bool false, .slice none 0 0, .int .i64 0, .bool false, .int .i64 0, .int .i64 0, .int .i64 0, .int .i64 0, .int .i64 0, .int .i64 0, .int .i64 0]) rfl ⟨rfl, Q_row HQ.out (Nat.le_succ _) _⟩
set_option maxRecDepth 100000 in
set_option maxHeartbeats 4000000 in
theorem new_lim3 (t0 t1 t2 : ByteArray) (i0 i1 i2 i3 i4 i5 i6 : Int) (w : World) (h0 : 1 ≤ i0 ∧ i0 ≤ 64) (h1 : 0 ≤ i1 ∧ i1 ≤ 64) (h2 : 0 ≤ i2 ∧ i2 ≤ i1) (h3 : ¬ (0 ≤ i3 ∧ i3 ≤ i0)) :
    Calls Tryz.prog 10 #[.agg #[.string t0, .string t1, .string t2, .int .i64 i0, .int .i64 i1, .int .i64 i2, .int .i64 i3, .int .i64 i4, .int .i64 i5, .int .i64 i6]] w fun e w' => e = .returned (.tuple #[rul0, .string ⟨#[109, 105, 110, 105, 110, 116]⟩, .int .i64 3]) ∧ Q w w' := by
  have HO0 := Lib.hid (fun u => out_any i0 1 (64) u)
  rw [show (!(decide (1 ≤ i0) && decide (i0 ≤ 64))) = false by rw [decide_eq_true h0.1, decide_eq_true h0.2]; rfl] at HO0
  have HO1 := Lib.hid (fun u => out_any i1 0 (64) u)
  rw [show (!(decide (0 ≤ i1) && decide (i1 ≤ 64))) = false by rw [decide_eq_true h1.1, decide_eq_true h1.2]; rfl] at HO1
  have HO2 := Lib.hid (fun u => out_any i2 0 (i1) u)
  rw [show (!(decide (0 ≤ i2) && decide (i2 ≤ i1))) = false by rw [decide_eq_true h2.1, decide_eq_true h2.2]; rfl] at HO2
  have HO3 := Lib.hid (fun u => out_any i3 0 i0 u)
  rw [show (!(decide (0 ≤ i3) && decide (i3 ≤ i0))) = true by simp only [Bool.not_eq_eq_eq_not, Bool.not_true, Bool.and_eq_false_iff, decide_eq_false_iff_not]; omega] at HO3
  clear h0 h1 h2 h3
  obtain ⟨y1, hy1⟩ : ∃ y, y = w.alloc (.cells #[.string t0, .string t1, .string t2, .int .i64 i0, .int .i64 i1, .int .i64 i2, .int .i64 i3, .int .i64 i4, .int .i64 i5, .int .i64 i6] 25) := ⟨_, rfl⟩
  have hQ1 : Q w y1 := by rw [hy1]; exact (Q.refl w).alloc _
  have hb1 : Bk y1 w.heap.size 25 [.string t0, .string t1, .string t2, .int .i64 i0, .int .i64 i1, .int .i64 i2, .int .i64 i3, .int .i64 i4, .int .i64 i5, .int .i64 i6] := by rw [hy1]; exact Bk.new _ _ _
  have hs1 : y1.heap.size = w.heap.size + 1 := by rw [hy1]; simp
  obtain ⟨z, hz⟩ : ∃ y, y = y1.alloc (.cells #[.bool false, .slice none 0 0, .int .i64 0, .bool false, .slice none 0 0, .int .i64 0, .bool false, .slice none 0 0, .int .i64 0, .bool false, .int .i64 0, .int .i64 0, .int .i64 0, .int .i64 0, .int .i64 0, .int .i64 0, .int .i64 0] 48) := ⟨_, rfl⟩
  have hq2 : Q y1 z := by rw [hz]; exact (Q.refl y1).alloc _
  have hb2 : Bk z (w.heap.size + 1) 48 [.bool false, .slice none 0 0, .int .i64 0, .bool false, .slice none 0 0, .int .i64 0, .bool false, .slice none 0 0, .int .i64 0, .bool false, .int .i64 0, .int .i64 0, .int .i64 0, .int .i64 0, .int .i64 0, .int .i64 0, .int .i64 0] := by rw [hz, ← hs1]; exact Bk.new _ _ _
  have hc := hb1.q hq2
  have HZS := Lib.hid (show z.heap.size = w.heap.size + 1 + 1 by rw [hz]; simp; omega)
  have k3 := hc.cell 3 rfl
  have k4 := hc.cell 4 rfl
  have k5 := hc.cell 5 rfl
  have k6 := hc.cell 6 rfl
  have k7 := hc.cell 7 rfl
  have k8 := hc.cell 8 rfl
  have k9 := hc.cell 9 rfl
  obtain ⟨W, hW⟩ : ∃ y, y = z.alloc (.cells #[.int .i64 i0, .int .i64 i1, .int .i64 i2, .int .i64 i3, .int .i64 i4, .int .i64 i5, .int .i64 i6] 23) := ⟨_, rfl⟩
  have hqW : Q z W := by rw [hW]; exact (Q.refl z).alloc _
  have hn : Bk W (w.heap.size + 1 + 1) 23 [.int .i64 i0, .int .i64 i1, .int .i64 i2, .int .i64 i3, .int .i64 i4, .int .i64 i5, .int .i64 i6] := by rw [hW, ← HZS.out]; exact Bk.new _ _ _
  have HQ := Lib.hid (show Q w W from (hQ1.trans hq2).trans hqW)
  have HC := Lib.hid (hc.q hqW)
  have HB := Lib.hid (hb2.q hqW)
  have HN := Lib.hid hn
  go_enter Tryz.func10, Tryz.ntmps10
  go_upto_region 1 with fail
  first | rw [← hy1, ← hz] | (rw [hy1] at hz; rw [← hz])
  clear hQ1 hb1 hy1 hs1 hq2 hb2 hz
  go_upto_region 2 with fail
  rw [← hW]
  try rw [HZS.out]
  clear hqW hW hc k3 k4 k5 k6 k7 k8 k9
  have n0 := hn.cell 0 rfl
  have n1 := hn.cell 1 rfl
  have n2 := hn.cell 2 rfl
  have n3 := hn.cell 3 rfl
  have n4 := hn.cell 4 rfl
  have n5 := hn.cell 5 rfl
  have n6 := hn.cell 6 rfl
  clear hn
  go_wp2_with fail
  refine (HO0.out _).mono ?_
  rintro e u ⟨rfl, rfl⟩
  go_wp2_with fail
  refine (HO1.out _).mono ?_
  rintro e u ⟨rfl, rfl⟩
  go_wp2_with fail
  refine (HO2.out _).mono ?_
  rintro e u ⟨rfl, rfl⟩
  go_wp2_with fail
  refine (HO3.out _).mono ?_
  rintro e u ⟨rfl, rfl⟩
  go_wp2_with (refine wpList_store_row (by rfl) 48 _ _ (by rfl) (w.heap.size + 1) #[.bool false, .slice none 0 0, .int .i64 0, .bool false, .slice none 0 0, .int .i64 0, .bool false, .slice none 0 0, .int .i64 0, .bool false, .int .i64 0, .int .i64 0, .int .i64 0, .int .i64 0, .int .i64 0, .int .i64 0, .int .i64 0] (by rfl) (by rfl) 48 _ HB.out (by exact infoRu) rfl (all1 (by rfl)) ?_)
  exact ret_rtt (l := [.bool false, .slice none 0 0, .int .i64 0, .bool false, .slice none 0 0, .int .i64 0, .bool false, .slice none 0 0, .int .i64 0, .bool false, .int .i64 0, .int .i64 0, .int .i64 0, .int .i64 0, .int .i64 0, .int .i64 0, .int .i64 0]) rfl Tryz.underlying48 (by exact infoRu) rfl rfl rfl (Bk_row HB.out [.bool false, .slice none 0 0, .int .i64 0, .bool false, .slice none 0 0, .int .i64 0, .bool false, .slice none 0 0, .int .i64 0, .bool false, .int .i64 0, .int .i64 0, .int .i64 0, .int .i64 0, .int .i64 0, .int .i64 0, .int .i64 0]) rfl ⟨rfl, Q_row HQ.out (Nat.le_succ _) _⟩
set_option maxRecDepth 100000 in
set_option maxHeartbeats 4000000 in
theorem new_lim4 (t0 t1 t2 : ByteArray) (i0 i1 i2 i3 i4 i5 i6 : Int) (w : World) (h0 : 1 ≤ i0 ∧ i0 ≤ 64) (h1 : 0 ≤ i1 ∧ i1 ≤ 64) (h2 : 0 ≤ i2 ∧ i2 ≤ i1) (h3 : 0 ≤ i3 ∧ i3 ≤ i0) (h4 : ¬ (0 ≤ i4 ∧ i4 ≤ i2)) :
    Calls Tryz.prog 10 #[.agg #[.string t0, .string t1, .string t2, .int .i64 i0, .int .i64 i1, .int .i64 i2, .int .i64 i3, .int .i64 i4, .int .i64 i5, .int .i64 i6]] w fun e w' => e = .returned (.tuple #[rul0, .string ⟨#[109, 105, 110, 102, 114, 97, 99]⟩, .int .i64 3]) ∧ Q w w' := by
  have HO0 := Lib.hid (fun u => out_any i0 1 (64) u)
  rw [show (!(decide (1 ≤ i0) && decide (i0 ≤ 64))) = false by rw [decide_eq_true h0.1, decide_eq_true h0.2]; rfl] at HO0
  have HO1 := Lib.hid (fun u => out_any i1 0 (64) u)
  rw [show (!(decide (0 ≤ i1) && decide (i1 ≤ 64))) = false by rw [decide_eq_true h1.1, decide_eq_true h1.2]; rfl] at HO1
  have HO2 := Lib.hid (fun u => out_any i2 0 (i1) u)
  rw [show (!(decide (0 ≤ i2) && decide (i2 ≤ i1))) = false by rw [decide_eq_true h2.1, decide_eq_true h2.2]; rfl] at HO2
  have HO3 := Lib.hid (fun u => out_any i3 0 (i0) u)
  rw [show (!(decide (0 ≤ i3) && decide (i3 ≤ i0))) = false by rw [decide_eq_true h3.1, decide_eq_true h3.2]; rfl] at HO3
  have HO4 := Lib.hid (fun u => out_any i4 0 i2 u)
  rw [show (!(decide (0 ≤ i4) && decide (i4 ≤ i2))) = true by simp only [Bool.not_eq_eq_eq_not, Bool.not_true, Bool.and_eq_false_iff, decide_eq_false_iff_not]; omega] at HO4
  clear h0 h1 h2 h3 h4
  obtain ⟨y1, hy1⟩ : ∃ y, y = w.alloc (.cells #[.string t0, .string t1, .string t2, .int .i64 i0, .int .i64 i1, .int .i64 i2, .int .i64 i3, .int .i64 i4, .int .i64 i5, .int .i64 i6] 25) := ⟨_, rfl⟩
  have hQ1 : Q w y1 := by rw [hy1]; exact (Q.refl w).alloc _
  have hb1 : Bk y1 w.heap.size 25 [.string t0, .string t1, .string t2, .int .i64 i0, .int .i64 i1, .int .i64 i2, .int .i64 i3, .int .i64 i4, .int .i64 i5, .int .i64 i6] := by rw [hy1]; exact Bk.new _ _ _
  have hs1 : y1.heap.size = w.heap.size + 1 := by rw [hy1]; simp
  obtain ⟨z, hz⟩ : ∃ y, y = y1.alloc (.cells #[.bool false, .slice none 0 0, .int .i64 0, .bool false, .slice none 0 0, .int .i64 0, .bool false, .slice none 0 0, .int .i64 0, .bool false, .int .i64 0, .int .i64 0, .int .i64 0, .int .i64 0, .int .i64 0, .int .i64 0, .int .i64 0] 48) := ⟨_, rfl⟩
  have hq2 : Q y1 z := by rw [hz]; exact (Q.refl y1).alloc _
  have hb2 : Bk z (w.heap.size + 1) 48 [.bool false, .slice none 0 0, .int .i64 0, .bool false, .slice none 0 0, .int .i64 0, .bool false, .slice none 0 0, .int .i64 0, .bool false, .int .i64 0, .int .i64 0, .int .i64 0, .int .i64 0, .int .i64 0, .int .i64 0, .int .i64 0] := by rw [hz, ← hs1]; exact Bk.new _ _ _
  have hc := hb1.q hq2
  have HZS := Lib.hid (show z.heap.size = w.heap.size + 1 + 1 by rw [hz]; simp; omega)
  have k3 := hc.cell 3 rfl
  have k4 := hc.cell 4 rfl
  have k5 := hc.cell 5 rfl
  have k6 := hc.cell 6 rfl
  have k7 := hc.cell 7 rfl
  have k8 := hc.cell 8 rfl
  have k9 := hc.cell 9 rfl
  obtain ⟨W, hW⟩ : ∃ y, y = z.alloc (.cells #[.int .i64 i0, .int .i64 i1, .int .i64 i2, .int .i64 i3, .int .i64 i4, .int .i64 i5, .int .i64 i6] 23) := ⟨_, rfl⟩
  have hqW : Q z W := by rw [hW]; exact (Q.refl z).alloc _
  have hn : Bk W (w.heap.size + 1 + 1) 23 [.int .i64 i0, .int .i64 i1, .int .i64 i2, .int .i64 i3, .int .i64 i4, .int .i64 i5, .int .i64 i6] := by rw [hW, ← HZS.out]; exact Bk.new _ _ _
  have HQ := Lib.hid (show Q w W from (hQ1.trans hq2).trans hqW)
  have HC := Lib.hid (hc.q hqW)
  have HB := Lib.hid (hb2.q hqW)
  have HN := Lib.hid hn
  go_enter Tryz.func10, Tryz.ntmps10
  go_upto_region 1 with fail
  first | rw [← hy1, ← hz] | (rw [hy1] at hz; rw [← hz])
  clear hQ1 hb1 hy1 hs1 hq2 hb2 hz
  go_upto_region 2 with fail
  rw [← hW]
  try rw [HZS.out]
  clear hqW hW hc k3 k4 k5 k6 k7 k8 k9
  have n0 := hn.cell 0 rfl
  have n1 := hn.cell 1 rfl
  have n2 := hn.cell 2 rfl
  have n3 := hn.cell 3 rfl
  have n4 := hn.cell 4 rfl
  have n5 := hn.cell 5 rfl
  have n6 := hn.cell 6 rfl
  clear hn
  go_wp2_with fail
  refine (HO0.out _).mono ?_
  rintro e u ⟨rfl, rfl⟩
  go_wp2_with fail
  refine (HO1.out _).mono ?_
  rintro e u ⟨rfl, rfl⟩
  go_wp2_with fail
  refine (HO2.out _).mono ?_
  rintro e u ⟨rfl, rfl⟩
  go_wp2_with fail
  refine (HO3.out _).mono ?_
  rintro e u ⟨rfl, rfl⟩
  go_wp2_with fail
  refine (HO4.out _).mono ?_
  rintro e u ⟨rfl, rfl⟩
  go_wp2_with (refine wpList_store_row (by rfl) 48 _ _ (by rfl) (w.heap.size + 1) #[.bool false, .slice none 0 0, .int .i64 0, .bool false, .slice none 0 0, .int .i64 0, .bool false, .slice none 0 0, .int .i64 0, .bool false, .int .i64 0, .int .i64 0, .int .i64 0, .int .i64 0, .int .i64 0, .int .i64 0, .int .i64 0] (by rfl) (by rfl) 48 _ HB.out (by exact infoRu) rfl (all1 (by rfl)) ?_)
  exact ret_rtt (l := [.bool false, .slice none 0 0, .int .i64 0, .bool false, .slice none 0 0, .int .i64 0, .bool false, .slice none 0 0, .int .i64 0, .bool false, .int .i64 0, .int .i64 0, .int .i64 0, .int .i64 0, .int .i64 0, .int .i64 0, .int .i64 0]) rfl Tryz.underlying48 (by exact infoRu) rfl rfl rfl (Bk_row HB.out [.bool false, .slice none 0 0, .int .i64 0, .bool false, .slice none 0 0, .int .i64 0, .bool false, .slice none 0 0, .int .i64 0, .bool false, .int .i64 0, .int .i64 0, .int .i64 0, .int .i64 0, .int .i64 0, .int .i64 0, .int .i64 0]) rfl ⟨rfl, Q_row HQ.out (Nat.le_succ _) _⟩
set_option maxRecDepth 100000 in
set_option maxHeartbeats 4000000 in
theorem new_lim5 (t0 t1 t2 : ByteArray) (i0 i1 i2 i3 i4 i5 i6 : Int) (w : World) (h0 : 1 ≤ i0 ∧ i0 ≤ 64) (h1 : 0 ≤ i1 ∧ i1 ≤ 64) (h2 : 0 ≤ i2 ∧ i2 ≤ i1) (h3 : 0 ≤ i3 ∧ i3 ≤ i0) (h4 : 0 ≤ i4 ∧ i4 ≤ i2) (h5 : ¬ (0 ≤ i5 ∧ i5 ≤ 6)) :
    Calls Tryz.prog 10 #[.agg #[.string t0, .string t1, .string t2, .int .i64 i0, .int .i64 i1, .int .i64 i2, .int .i64 i3, .int .i64 i4, .int .i64 i5, .int .i64 i6]] w fun e w' => e = .returned (.tuple #[rul0, .string ⟨#[109, 111, 100, 101]⟩, .int .i64 7]) ∧ Q w w' := by
  have HO0 := Lib.hid (fun u => out_any i0 1 (64) u)
  rw [show (!(decide (1 ≤ i0) && decide (i0 ≤ 64))) = false by rw [decide_eq_true h0.1, decide_eq_true h0.2]; rfl] at HO0
  have HO1 := Lib.hid (fun u => out_any i1 0 (64) u)
  rw [show (!(decide (0 ≤ i1) && decide (i1 ≤ 64))) = false by rw [decide_eq_true h1.1, decide_eq_true h1.2]; rfl] at HO1
  have HO2 := Lib.hid (fun u => out_any i2 0 (i1) u)
  rw [show (!(decide (0 ≤ i2) && decide (i2 ≤ i1))) = false by rw [decide_eq_true h2.1, decide_eq_true h2.2]; rfl] at HO2
  have HO3 := Lib.hid (fun u => out_any i3 0 (i0) u)
  rw [show (!(decide (0 ≤ i3) && decide (i3 ≤ i0))) = false by rw [decide_eq_true h3.1, decide_eq_true h3.2]; rfl] at HO3
  have HO4 := Lib.hid (fun u => out_any i4 0 (i2) u)
  rw [show (!(decide (0 ≤ i4) && decide (i4 ≤ i2))) = false by rw [decide_eq_true h4.1, decide_eq_true h4.2]; rfl] at HO4
  have HO5 := Lib.hid (fun u => out_any i5 0 6 u)
  rw [show (!(decide (0 ≤ i5) && decide (i5 ≤ 6))) = true by simp only [Bool.not_eq_eq_eq_not, Bool.not_true, Bool.and_eq_false_iff, decide_eq_false_iff_not]; omega] at HO5
  clear h0 h1 h2 h3 h4 h5
  obtain ⟨y1, hy1⟩ : ∃ y, y = w.alloc (.cells #[.string t0, .string t1, .string t2, .int .i64 i0, .int .i64 i1, .int .i64 i2, .int .i64 i3, .int .i64 i4, .int .i64 i5, .int .i64 i6] 25) := ⟨_, rfl⟩
  have hQ1 : Q w y1 := by rw [hy1]; exact (Q.refl w).alloc _
  have hb1 : Bk y1 w.heap.size 25 [.string t0, .string t1, .string t2, .int .i64 i0, .int .i64 i1, .int .i64 i2, .int .i64 i3, .int .i64 i4, .int .i64 i5, .int .i64 i6] := by rw [hy1]; exact Bk.new _ _ _
  have hs1 : y1.heap.size = w.heap.size + 1 := by rw [hy1]; simp
  obtain ⟨z, hz⟩ : ∃ y, y = y1.alloc (.cells #[.bool false, .slice none 0 0, .int .i64 0, .bool false, .slice none 0 0, .int .i64 0, .bool false, .slice none 0 0, .int .i64 0, .bool false, .int .i64 0, .int .i64 0, .int .i64 0, .int .i64 0, .int .i64 0, .int .i64 0, .int .i64 0] 48) := ⟨_, rfl⟩
  have hq2 : Q y1 z := by rw [hz]; exact (Q.refl y1).alloc _
  have hb2 : Bk z (w.heap.size + 1) 48 [.bool false, .slice none 0 0, .int .i64 0, .bool false, .slice none 0 0, .int .i64 0, .bool false, .slice none 0 0, .int .i64 0, .bool false, .int .i64 0, .int .i64 0, .int .i64 0, .int .i64 0, .int .i64 0, .int .i64 0, .int .i64 0] := by rw [hz, ← hs1]; exact Bk.new _ _ _
  have hc := hb1.q hq2
  have HZS := Lib.hid (show z.heap.size = w.heap.size + 1 + 1 by rw [hz]; simp; omega)
  have k3 := hc.cell 3 rfl
  have k4 := hc.cell 4 rfl
  have k5 := hc.cell 5 rfl
  have k6 := hc.cell 6 rfl
  have k7 := hc.cell 7 rfl
  have k8 := hc.cell 8 rfl
  have k9 := hc.cell 9 rfl
  obtain ⟨W, hW⟩ : ∃ y, y = z.alloc (.cells #[.int .i64 i0, .int .i64 i1, .int .i64 i2, .int .i64 i3, .int .i64 i4, .int .i64 i5, .int .i64 i6] 23) := ⟨_, rfl⟩
  have hqW : Q z W := by rw [hW]; exact (Q.refl z).alloc _
  have hn : Bk W (w.heap.size + 1 + 1) 23 [.int .i64 i0, .int .i64 i1, .int .i64 i2, .int .i64 i3, .int .i64 i4, .int .i64 i5, .int .i64 i6] := by rw [hW, ← HZS.out]; exact Bk.new _ _ _
  have HQ := Lib.hid (show Q w W from (hQ1.trans hq2).trans hqW)
  have HC := Lib.hid (hc.q hqW)
  have HB := Lib.hid (hb2.q hqW)
  have HN := Lib.hid hn
  go_enter Tryz.func10, Tryz.ntmps10
  go_upto_region 1 with fail
  first | rw [← hy1, ← hz] | (rw [hy1] at hz; rw [← hz])
  clear hQ1 hb1 hy1 hs1 hq2 hb2 hz
  go_upto_region 2 with fail
  rw [← hW]
  try rw [HZS.out]
  clear hqW hW hc k3 k4 k5 k6 k7 k8 k9
  have n0 := hn.cell 0 rfl
  have n1 := hn.cell 1 rfl
  have n2 := hn.cell 2 rfl
  have n3 := hn.cell 3 rfl
  have n4 := hn.cell 4 rfl
  have n5 := hn.cell 5 rfl
  have n6 := hn.cell 6 rfl
  clear hn
  go_wp2_with fail
  refine (HO0.out _).mono ?_
  rintro e u ⟨rfl, rfl⟩
  go_wp2_with fail
  refine (HO1.out _).mono ?_
  rintro e u ⟨rfl, rfl⟩
  go_wp2_with fail
  refine (HO2.out _).mono ?_
  rintro e u ⟨rfl, rfl⟩
  go_wp2_with fail
  refine (HO3.out _).mono ?_
  rintro e u ⟨rfl, rfl⟩
  go_wp2_with fail
  refine (HO4.out _).mono ?_
  rintro e u ⟨rfl, rfl⟩
  go_wp2_with fail
  refine (HO5.out _).mono ?_
  rintro e u ⟨rfl, rfl⟩
  go_wp2_with (refine wpList_store_row (by rfl) 48 _ _ (by rfl) (w.heap.size + 1) #[.bool false, .slice none 0 0, .int .i64 0, .bool false, .slice none 0 0, .int .i64 0, .bool false, .slice none 0 0, .int .i64 0, .bool false, .int .i64 0, .int .i64 0, .int .i64 0, .int .i64 0, .int .i64 0, .int .i64 0, .int .i64 0] (by rfl) (by rfl) 48 _ HB.out (by exact infoRu) rfl (all1 (by rfl)) ?_)
  exact ret_rtt (l := [.bool false, .slice none 0 0, .int .i64 0, .bool false, .slice none 0 0, .int .i64 0, .bool false, .slice none 0 0, .int .i64 0, .bool false, .int .i64 0, .int .i64 0, .int .i64 0, .int .i64 0, .int .i64 0, .int .i64 0, .int .i64 0]) rfl Tryz.underlying48 (by exact infoRu) rfl rfl rfl (Bk_row HB.out [.bool false, .slice none 0 0, .int .i64 0, .bool false, .slice none 0 0, .int .i64 0, .bool false, .slice none 0 0, .int .i64 0, .bool false, .int .i64 0, .int .i64 0, .int .i64 0, .int .i64 0, .int .i64 0, .int .i64 0, .int .i64 0]) rfl ⟨rfl, Q_row HQ.out (Nat.le_succ _) _⟩
set_option maxRecDepth 100000 in
set_option maxHeartbeats 4000000 in
theorem new_lim6 (t0 t1 t2 : ByteArray) (i0 i1 i2 i3 i4 i5 i6 : Int) (w : World) (h0 : 1 ≤ i0 ∧ i0 ≤ 64) (h1 : 0 ≤ i1 ∧ i1 ≤ 64) (h2 : 0 ≤ i2 ∧ i2 ≤ i1) (h3 : 0 ≤ i3 ∧ i3 ≤ i0) (h4 : 0 ≤ i4 ∧ i4 ≤ i2) (h5 : 0 ≤ i5 ∧ i5 ≤ 6) (h6 : ¬ (1 ≤ i6 ∧ i6 ≤ 1024)) :
    Calls Tryz.prog 10 #[.agg #[.string t0, .string t1, .string t2, .int .i64 i0, .int .i64 i1, .int .i64 i2, .int .i64 i3, .int .i64 i4, .int .i64 i5, .int .i64 i6]] w fun e w' => e = .returned (.tuple #[rul0, .string ⟨#[104, 105, 115, 116, 111, 114, 121]⟩, .int .i64 3]) ∧ Q w w' := by
  have HO0 := Lib.hid (fun u => out_any i0 1 (64) u)
  rw [show (!(decide (1 ≤ i0) && decide (i0 ≤ 64))) = false by rw [decide_eq_true h0.1, decide_eq_true h0.2]; rfl] at HO0
  have HO1 := Lib.hid (fun u => out_any i1 0 (64) u)
  rw [show (!(decide (0 ≤ i1) && decide (i1 ≤ 64))) = false by rw [decide_eq_true h1.1, decide_eq_true h1.2]; rfl] at HO1
  have HO2 := Lib.hid (fun u => out_any i2 0 (i1) u)
  rw [show (!(decide (0 ≤ i2) && decide (i2 ≤ i1))) = false by rw [decide_eq_true h2.1, decide_eq_true h2.2]; rfl] at HO2
  have HO3 := Lib.hid (fun u => out_any i3 0 (i0) u)
  rw [show (!(decide (0 ≤ i3) && decide (i3 ≤ i0))) = false by rw [decide_eq_true h3.1, decide_eq_true h3.2]; rfl] at HO3
  have HO4 := Lib.hid (fun u => out_any i4 0 (i2) u)
  rw [show (!(decide (0 ≤ i4) && decide (i4 ≤ i2))) = false by rw [decide_eq_true h4.1, decide_eq_true h4.2]; rfl] at HO4
  have HO5 := Lib.hid (fun u => out_any i5 0 (6) u)
  rw [show (!(decide (0 ≤ i5) && decide (i5 ≤ 6))) = false by rw [decide_eq_true h5.1, decide_eq_true h5.2]; rfl] at HO5
  have HO6 := Lib.hid (fun u => out_any i6 1 1024 u)
  rw [show (!(decide (1 ≤ i6) && decide (i6 ≤ 1024))) = true by simp only [Bool.not_eq_eq_eq_not, Bool.not_true, Bool.and_eq_false_iff, decide_eq_false_iff_not]; omega] at HO6
  clear h0 h1 h2 h3 h4 h5 h6
  obtain ⟨y1, hy1⟩ : ∃ y, y = w.alloc (.cells #[.string t0, .string t1, .string t2, .int .i64 i0, .int .i64 i1, .int .i64 i2, .int .i64 i3, .int .i64 i4, .int .i64 i5, .int .i64 i6] 25) := ⟨_, rfl⟩
  have hQ1 : Q w y1 := by rw [hy1]; exact (Q.refl w).alloc _
  have hb1 : Bk y1 w.heap.size 25 [.string t0, .string t1, .string t2, .int .i64 i0, .int .i64 i1, .int .i64 i2, .int .i64 i3, .int .i64 i4, .int .i64 i5, .int .i64 i6] := by rw [hy1]; exact Bk.new _ _ _
  have hs1 : y1.heap.size = w.heap.size + 1 := by rw [hy1]; simp
  obtain ⟨z, hz⟩ : ∃ y, y = y1.alloc (.cells #[.bool false, .slice none 0 0, .int .i64 0, .bool false, .slice none 0 0, .int .i64 0, .bool false, .slice none 0 0, .int .i64 0, .bool false, .int .i64 0, .int .i64 0, .int .i64 0, .int .i64 0, .int .i64 0, .int .i64 0, .int .i64 0] 48) := ⟨_, rfl⟩
  have hq2 : Q y1 z := by rw [hz]; exact (Q.refl y1).alloc _
  have hb2 : Bk z (w.heap.size + 1) 48 [.bool false, .slice none 0 0, .int .i64 0, .bool false, .slice none 0 0, .int .i64 0, .bool false, .slice none 0 0, .int .i64 0, .bool false, .int .i64 0, .int .i64 0, .int .i64 0, .int .i64 0, .int .i64 0, .int .i64 0, .int .i64 0] := by rw [hz, ← hs1]; exact Bk.new _ _ _
  have hc := hb1.q hq2
  have HZS := Lib.hid (show z.heap.size = w.heap.size + 1 + 1 by rw [hz]; simp; omega)
  have k3 := hc.cell 3 rfl
  have k4 := hc.cell 4 rfl
  have k5 := hc.cell 5 rfl
  have k6 := hc.cell 6 rfl
  have k7 := hc.cell 7 rfl
  have k8 := hc.cell 8 rfl
  have k9 := hc.cell 9 rfl
  obtain ⟨W, hW⟩ : ∃ y, y = z.alloc (.cells #[.int .i64 i0, .int .i64 i1, .int .i64 i2, .int .i64 i3, .int .i64 i4, .int .i64 i5, .int .i64 i6] 23) := ⟨_, rfl⟩
  have hqW : Q z W := by rw [hW]; exact (Q.refl z).alloc _
  have hn : Bk W (w.heap.size + 1 + 1) 23 [.int .i64 i0, .int .i64 i1, .int .i64 i2, .int .i64 i3, .int .i64 i4, .int .i64 i5, .int .i64 i6] := by rw [hW, ← HZS.out]; exact Bk.new _ _ _
  have HQ := Lib.hid (show Q w W from (hQ1.trans hq2).trans hqW)
  have HC := Lib.hid (hc.q hqW)
  have HB := Lib.hid (hb2.q hqW)
  have HN := Lib.hid hn
  go_enter Tryz.func10, Tryz.ntmps10
  go_upto_region 1 with fail
  first | rw [← hy1, ← hz] | (rw [hy1] at hz; rw [← hz])
  clear hQ1 hb1 hy1 hs1 hq2 hb2 hz
  go_upto_region 2 with fail
  rw [← hW]
  try rw [HZS.out]
  clear hqW hW hc k3 k4 k5 k6 k7 k8 k9
  have n0 := hn.cell 0 rfl
  have n1 := hn.cell 1 rfl
  have n2 := hn.cell 2 rfl
  have n3 := hn.cell 3 rfl
  have n4 := hn.cell 4 rfl
  have n5 := hn.cell 5 rfl
  have n6 := hn.cell 6 rfl
  clear hn
  go_wp2_with fail
  refine (HO0.out _).mono ?_
  rintro e u ⟨rfl, rfl⟩
  go_wp2_with fail
  refine (HO1.out _).mono ?_
  rintro e u ⟨rfl, rfl⟩
  go_wp2_with fail
  refine (HO2.out _).mono ?_
  rintro e u ⟨rfl, rfl⟩
  go_wp2_with fail
  refine (HO3.out _).mono ?_
  rintro e u ⟨rfl, rfl⟩
  go_wp2_with fail
  refine (HO4.out _).mono ?_
  rintro e u ⟨rfl, rfl⟩
  go_wp2_with fail
  refine (HO5.out _).mono ?_
  rintro e u ⟨rfl, rfl⟩
  go_wp2_with fail
  refine (HO6.out _).mono ?_
  rintro e u ⟨rfl, rfl⟩
  go_wp2_with (refine wpList_store_row (by rfl) 48 _ _ (by rfl) (w.heap.size + 1) #[.bool false, .slice none 0 0, .int .i64 0, .bool false, .slice none 0 0, .int .i64 0, .bool false, .slice none 0 0, .int .i64 0, .bool false, .int .i64 0, .int .i64 0, .int .i64 0, .int .i64 0, .int .i64 0, .int .i64 0, .int .i64 0] (by rfl) (by rfl) 48 _ HB.out (by exact infoRu) rfl (all1 (by rfl)) ?_)
  exact ret_rtt (l := [.bool false, .slice none 0 0, .int .i64 0, .bool false, .slice none 0 0, .int .i64 0, .bool false, .slice none 0 0, .int .i64 0, .bool false, .int .i64 0, .int .i64 0, .int .i64 0, .int .i64 0, .int .i64 0, .int .i64 0, .int .i64 0]) rfl Tryz.underlying48 (by exact infoRu) rfl rfl rfl (Bk_row HB.out [.bool false, .slice none 0 0, .int .i64 0, .bool false, .slice none 0 0, .int .i64 0, .bool false, .slice none 0 0, .int .i64 0, .bool false, .int .i64 0, .int .i64 0, .int .i64 0, .int .i64 0, .int .i64 0, .int .i64 0, .int .i64 0]) rfl ⟨rfl, Q_row HQ.out (Nat.le_succ _) _⟩
end Kr
end Go.Proofs.YtagpofhencpliaaGreatDoor
