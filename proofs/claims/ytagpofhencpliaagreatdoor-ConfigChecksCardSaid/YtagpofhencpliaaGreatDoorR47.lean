/- What the statements on configurations call last: the document's example, walked. (and more) -/
import Derived.Test.YtagpofhencpliaaGreatDoorR00
import Derived.Test.YtagpofhencpliaaGreatDoorR04
import Derived.Test.YtagpofhencpliaaGreatDoorR46
import Derived.Test.YtagpofhencpliaaGreatDoorR02
import Derived.Test.YtagpofhencpliaaGreatDoorR10
import Derived.Test.YtagpofhencpliaaGreatDoorR03
import Derived.Test.YtagpofhencpliaaGreatDoorRows
import Derived.Deep.Cut
set_option linter.unusedVariables false
set_option linter.unusedSimpArgs false
namespace Go.Proofs.YtagpofhencpliaaGreatDoor
open Go.RowKit
namespace Kl
set_option maxRecDepth 100000 in
set_option maxHeartbeats 4000000 in
theorem lives_any (w : World) : Calls Tryz.prog 15 #[] w fun e w' => e = .returned (.bool true) ∧ Q w w' := by
  have HN := Lib.hid live_new
  have HV := Lib.hid live_val
  have HM := Lib.hid live_mov
  have H1 := Lib.hid live_p1
  have H2 := Lib.hid live_p2
  go_enter Tryz.func15, Tryz.ntmps15
  go_wp2_with fail
  refine (HN.out _).mono ?_
  rintro e w1 ⟨a1, c1, a2, c2, a3, c3, rfl, l1, l2, l3, hq1⟩
  obtain ⟨W1, hW1⟩ : ∃ y, y = w1.alloc (.cells #[.bool false, .slice a1 0 c1, .int .i64 0, .bool false, .slice a2 3 c2, .int .i64 1, .bool false, .slice a3 1 c3, .int .i64 1, .bool false, .int .i64 3, .int .i64 2, .int .i64 1, .int .i64 0, .int .i64 0, .int .i64 6, .int .i64 1] 39) := ⟨_, rfl⟩
  have hqa : Q w1 W1 := by rw [hW1]; exact (Q.refl _).alloc _
  have hbr : Bk W1 w1.heap.size 39 [.bool false, .slice a1 0 c1, .int .i64 0, .bool false, .slice a2 3 c2, .int .i64 1, .bool false, .slice a3 1 c3, .int .i64 1, .bool false, .int .i64 3, .int .i64 2, .int .i64 1, .int .i64 0, .int .i64 0, .int .i64 6, .int .i64 1] := by rw [hW1]; exact Bk.new _ _ _
  have HQ1 := Lib.hid (hq1.trans hqa)
  have L1 := Lib.hid (l1.q hqa)
  have L2 := Lib.hid (l2.q hqa)
  have L3 := Lib.hid (l3.q hqa)
  obtain ⟨bR, hbR⟩ : ∃ b, b = w1.heap.size := ⟨_, rfl⟩
  rw [← hbR] at hbr
  have HR := Lib.hid hbr
  clear l1 l2 l3 hq1 hqa hbr
  go_upto_region 2 with fail
  rw [← hW1, ← hbR]
  clear hW1 hbR
  go_wp2_with (refine wpList_load_row (by rfl) 39 _ (by rfl) bR (by rfl) 39 #[.bool false, .slice a1 0 c1, .int .i64 0, .bool false, .slice a2 3 c2, .int .i64 1, .bool false, .slice a3 1 c3, .int .i64 1, .bool false, .int .i64 3, .int .i64 2, .int .i64 1, .int .i64 0, .int .i64 0, .int .i64 6, .int .i64 1] (0, 0) _ HR.out Tryz.underlying39 rfl (by exact Kp.infoRp) ?_)
  refine (HV.out _ _ _ _ _ _ _ _ _ (L1.out.q ((Q.refl W1).alloc _)) (L2.out.q ((Q.refl W1).alloc _)) (Lst.made W1 [7, 2, 5] 3 rfl (by unfold maxLen; omega))).mono ?_
  rintro e w2 ⟨ua, uc, rfl, hl, hq2⟩
  obtain ⟨W2, hW2⟩ : ∃ y, y = w2.alloc (.cells #[.bool false, .slice ua 2 uc, .int .i64 1] 36) := ⟨_, rfl⟩
  have hqb : Q w2 W2 := by rw [hW2]; exact (Q.refl _).alloc _
  have hqa : Q W1 W2 := (((Q.refl W1).alloc _).trans hq2).trans hqb
  have hba : Bk W2 w2.heap.size 36 [.bool false, .slice ua 2 uc, .int .i64 1] := by rw [hW2]; exact Bk.new _ _ _
  obtain ⟨bA, hbA⟩ : ∃ b, b = w2.heap.size := ⟨_, rfl⟩
  rw [← hbA] at hba
  have HA := Lib.hid hba
  have LA := Lib.hid (hl.q hqb)
  have HQ2 := Lib.hid (HQ1.out.trans hqa)
  replace L1 := Lib.hid (L1.out.q hqa)
  replace L2 := Lib.hid (L2.out.q hqa)
  replace L3 := Lib.hid (L3.out.q hqa)
  replace HR := Lib.hid (HR.out.q hqa)
  clear hl hq2 hqa hqb hba HQ1
  go_upto_region 5 with fail
  rw [← hW2, ← hbA]
  clear hW2 hbA
  go_wp2_with (refine wpList_load_row (by rfl) 39 _ (by rfl) bR (by rfl) 39 #[.bool false, .slice a1 0 c1, .int .i64 0, .bool false, .slice a2 3 c2, .int .i64 1, .bool false, .slice a3 1 c3, .int .i64 1, .bool false, .int .i64 3, .int .i64 2, .int .i64 1, .int .i64 0, .int .i64 0, .int .i64 6, .int .i64 1] (0, 0) _ HR.out Tryz.underlying39 rfl (by exact Kp.infoRp) ?_)
  refine (HM.out _ _ _ _ _ _ _ _ _ (L1.out.q ((Q.refl W2).alloc _)) (L2.out.q ((Q.refl W2).alloc _)) (L3.out.q ((Q.refl W2).alloc _)) (Lst.made W2 [7] 1 rfl (by unfold maxLen; omega))).mono ?_
  rintro e w3 ⟨va, vc, rfl, hl, hq3⟩
  obtain ⟨W3, hW3⟩ : ∃ y, y = w3.alloc (.cells #[.bool false, .slice va 2 vc, .int .i64 1] 36) := ⟨_, rfl⟩
  have hqb : Q w3 W3 := by rw [hW3]; exact (Q.refl _).alloc _
  have hqa : Q W2 W3 := (((Q.refl W2).alloc _).trans hq3).trans hqb
  have hbb : Bk W3 w3.heap.size 36 [.bool false, .slice va 2 vc, .int .i64 1] := by rw [hW3]; exact Bk.new _ _ _
  obtain ⟨bB, hbB⟩ : ∃ b, b = w3.heap.size := ⟨_, rfl⟩
  rw [← hbB] at hbb
  have HB := Lib.hid hbb
  have LB := Lib.hid (hl.q hqb)
  have HQ3 := Lib.hid (HQ2.out.trans hqa)
  replace LA := Lib.hid (LA.out.q hqa)
  have hba := HA.out.q hqa
  clear hl hq3 hqa hqb hbb HQ2 L1 L2 L3 HR
  go_upto_region 6 with fail
  rw [← hW3, ← hbB]
  clear hW3 hbB
  have x0 := hba.cell 0 rfl
  have x1 := hba.cell 1 rfl
  have x2 := hba.cell 2 rfl
  go_wp2_with fail
  refine (H1.out _ _ _ LA.out).mono ?_
  rintro e w4 ⟨rfl, hq4⟩
  have HQ4 := Lib.hid (HQ3.out.trans hq4)
  have hbb := HB.out.q hq4
  have LB4 := Lib.hid (LB.out.q hq4)
  clear hba x0 x1 x2 hq4
  have x0 := hbb.cell 0 rfl
  have x1 := hbb.cell 1 rfl
  have x2 := hbb.cell 2 rfl
  clear hbb
  go_wp2_with fail
  refine (H2.out _ _ _ LB4.out).mono ?_
  rintro e w5 ⟨rfl, hq5⟩
  go_wp2_with fail
  go_ret
  exact ⟨rfl, HQ4.out.trans hq5⟩
end Kl
end Go.Proofs.YtagpofhencpliaaGreatDoor
