/- A locale's record. -/
import Derived.Test.YtglljkbpdbnhaaaGreatDoorRows
import Derived.Test.YtglljkbpdbnhaaaGreatDoorMA
import Derived.Test.YtglljkbpdbnhaaaGreatDoorMB
import Derived.Test.YtglljkbpdbnhaaaGreatDoorMC
import Derived.Test.YtglljkbpdbnhaaaGreatDoorMF
import Derived.Test.YtglljkbpdbnhaaaGreatDoorMBP
import Derived.Test.YtglljkbpdbnhaaaGreatDoorMBS
import Derived.Test.YtglljkbpdbnhaaaGreatDoorLocM
import Derived.Test.YtglljkbpdbnhaaaGreatDoorLocB
import Derived.Test.YtglljkbpdbnhaaaGreatDoorLocF
import Derived.Test.YtglljkbpdbnhaaaGreatDoorLocL
import Derived.Test.YtglljkbpdbnhaaaGreatDoorLocU
import Derived.Test.YtglljkbpdbnhaaaGreatDoorLocW
import Derived.Test.YtglljkbpdbnhaaaGreatDoorLocX
import Derived.Deep.QuietTactic
import Derived.BigQuiet
set_option linter.unusedVariables false
set_option linter.unusedSimpArgs false
namespace Go.Proofs.YtglljkbpdbnhaaaGreatDoor
open Go.RowKit
namespace Ro
open Um Cm Gm Lo


set_option maxRecDepth 100000 in
set_option maxHeartbeats 4000000 in
theorem record_any (g : Nat) (r : Lm.Rec) (X : Pt.Pat) (a b c d cl : Value) (w : World) (hB : LB w g r X a b c d cl) :
    Calls Tryz.prog 15 #[.pointer (some ⟨g, 0, none⟩)] w fun e w' => e = .returned (recV r) ∧ Q w w' := by
  obtain ⟨z, hz⟩ : ∃ z, z = w.alloc (.cells #[.string ⟨#[]⟩, .string ⟨#[]⟩, .string ⟨#[]⟩, .string ⟨#[]⟩, .string ⟨#[]⟩, .string ⟨#[]⟩, .string ⟨#[]⟩, .string ⟨#[]⟩] 32) := ⟨_, rfl⟩
  have hQZ : Q w z := by rw [hz]; exact (Q.refl w).alloc _
  have h2 : Bk z w.heap.size 32 [.string ⟨#[]⟩, .string ⟨#[]⟩, .string ⟨#[]⟩, .string ⟨#[]⟩, .string ⟨#[]⟩, .string ⟨#[]⟩, .string ⟨#[]⟩, .string ⟨#[]⟩] := by rw [hz]; exact Bk.new _ _ _
  have hb := (hB.q hQZ).1
  have HQZ := Lib.hid hQZ
  have c0 := hb.cell 0 rfl
  have c1 := hb.cell 1 rfl
  have c2 := hb.cell 2 rfl
  have c3 := hb.cell 3 rfl
  have c4 := hb.cell 4 rfl
  have c5 := hb.cell 5 rfl
  have c6 := hb.cell 6 rfl
  have c7 := hb.cell 7 rfl
  have HRV : Hid (recV r = .agg #[.string (Lm.bs r.nam), .string (Lm.bs r.pat), .string (Lm.bs r.sys), .string (Lm.bs r.dec), .string (Lm.bs r.grp), .string (Lm.bs r.min), .string (Lm.bs r.per), .string (Lm.bs r.cur)]) := Lib.hid rfl
  rw [HRV.out]
  generalize Lm.bs r.nam = s0 at *
  generalize Lm.bs r.pat = s1 at *
  generalize Lm.bs r.sys = s2 at *
  generalize Lm.bs r.dec = s3 at *
  generalize Lm.bs r.grp = s4 at *
  generalize Lm.bs r.min = s5 at *
  generalize Lm.bs r.per = s6 at *
  generalize Lm.bs r.cur = s7 at *
  go_enter Tryz.func15, Tryz.ntmps15
  go_upto_region 1 with fail
  rw [← hz]
  clear hz hb hB hQZ HRV
  have HW := Lib.hid (show w.heap.size ≤ w.heap.size by omega)
  obtain ⟨B, hB⟩ : ∃ B, B = w.heap.size := ⟨_, rfl⟩
  have HWB := Lib.hid (show w.heap.size ≤ B by omega)
  rw [← hB] at h2 ⊢
  clear hB HW
  have p0 := h2.cell 0 rfl
  have f0 := h2.free 0
  have p1 := h2.cell 1 rfl
  have f1 := h2.free 1
  have p2 := h2.cell 2 rfl
  have f2 := h2.free 2
  have p3 := h2.cell 3 rfl
  have f3 := h2.free 3
  have p4 := h2.cell 4 rfl
  have f4 := h2.free 4
  have p5 := h2.cell 5 rfl
  have f5 := h2.free 5
  have p6 := h2.cell 6 rfl
  have f6 := h2.free 6
  have p7 := h2.cell 7 rfl
  have f7 := h2.free 7
  have HFB := Lib.hid ((((((((h2.set 0 (.string s0)).set 1 (.string s1)).set 2 (.string s2)).set 3 (.string s3)).set 4 (.string s4)).set 5 (.string s5)).set 6 (.string s6)).set 7 (.string s7))
  have HFQ := Lib.hid (Q.setCell (Q.setCell (Q.setCell (Q.setCell (Q.setCell (Q.setCell (Q.setCell (Q.setCell HQZ.out (ad := ⟨B, 0, none⟩) HWB.out (.string s0)) (ad := ⟨B, 1, none⟩) HWB.out (.string s1)) (ad := ⟨B, 2, none⟩) HWB.out (.string s2)) (ad := ⟨B, 3, none⟩) HWB.out (.string s3)) (ad := ⟨B, 4, none⟩) HWB.out (.string s4)) (ad := ⟨B, 5, none⟩) HWB.out (.string s5)) (ad := ⟨B, 6, none⟩) HWB.out (.string s6)) (ad := ⟨B, 7, none⟩) HWB.out (.string s7))
  clear h2
  go_wp2_with fail
  refine ret_bk rfl Tryz.underlying32 (by exact infoLR) rfl HFB.out rfl ⟨?_, HFQ.out⟩
  rfl

end Ro
end Go.Proofs.YtglljkbpdbnhaaaGreatDoor
