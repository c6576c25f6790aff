/- The patterns parsed; the document's example. -/
import Derived.Test.YtglljkbpdbnhaaaGreatDoorRows
import Derived.Test.YtglljkbpdbnhaaaGreatDoorMA
import Derived.Test.YtglljkbpdbnhaaaGreatDoorMB
import Derived.Test.YtglljkbpdbnhaaaGreatDoorMBP
import Derived.Test.YtglljkbpdbnhaaaGreatDoorMO
import Derived.Test.YtglljkbpdbnhaaaGreatDoorMP
import Derived.Test.YtglljkbpdbnhaaaGreatDoorMR
import Derived.Test.YtglljkbpdbnhaaaGreatDoorMBS
import Derived.Test.YtglljkbpdbnhaaaGreatDoorLocM
import Derived.Test.YtglljkbpdbnhaaaGreatDoorLocB
import Derived.Test.YtglljkbpdbnhaaaGreatDoorLocJ
import Derived.Test.YtglljkbpdbnhaaaGreatDoorLocR
import Derived.Test.YtglljkbpdbnhaaaGreatDoorLocS
import Derived.Test.YtglljkbpdbnhaaaGreatDoorLocV
import Derived.Deep.QuietTactic
import Derived.BigQuiet
set_option linter.unusedVariables false
set_option linter.unusedSimpArgs false
namespace Go.Proofs.YtglljkbpdbnhaaaGreatDoor
open Go.RowKit
namespace Lo
open Um Cm Gm


/-- What is asked of the program's Parse. -/
def Par (p : Nat) : Prop := ∀ u, Calls Tryz.prog 34 #[.string (Lm.bs (Lm.patB.getD p []))] u fun e w' => ∃ v, e = .returned (.tuple #[v, .int .i64 0]) ∧ Pg.PV w' u.heap.size v (Lm.pX p) ∧ Q u w'
theorem par_of {p : Nat} (hp : p < 10) (h : ∀ u, Calls Tryz.prog 34 #[.string ⟨(joinL (Lm.patC.getD p [])).toArray⟩] u fun e w' => ∃ v, e = .returned (.tuple #[v, .int .i64 0]) ∧ Pg.PV w' u.heap.size v (Pt.parseC (Lm.patC.getD p [])).1 ∧ Q u w') : Par p := by
  obtain ⟨h1, h2, _⟩ := Lm.f_pat p hp
  rw [h1, h2] at h
  exact h
set_option maxRecDepth 100000 in
theorem par0 : Par 0 := par_of (by omega) (Pg.parse1 (cs := Lm.patC.getD 0 []) (by decide +kernel) (by decide +kernel) (P := []) (N := [(4, 35), (4, 44), (4, 35), (4, 35), (4, 48), (4, 46), (4, 48), (4, 48)]) (S := []) (c := false) (by decide +kernel) ⟨(by unfold Pt.okT; decide +kernel), (by unfold Pt.okT; decide +kernel), (by decide +kernel)⟩ (by decide +kernel) (by decide +kernel) (by decide +kernel))
set_option maxRecDepth 100000 in
theorem par1 : Par 1 := par_of (by omega) (Pg.parse1 (cs := Lm.patC.getD 1 []) (by decide +kernel) (by decide +kernel) (P := []) (N := [(4, 48), (4, 46), (4, 35), (4, 35)]) (S := []) (c := false) (by decide +kernel) ⟨(by unfold Pt.okT; decide +kernel), (by unfold Pt.okT; decide +kernel), (by decide +kernel)⟩ (by decide +kernel) (by decide +kernel) (by decide +kernel))
set_option maxRecDepth 100000 in
theorem par2 : Par 2 := par_of (by omega) (Pg.parse1 (cs := Lm.patC.getD 2 []) (by decide +kernel) (by decide +kernel) (P := []) (N := [(4, 35), (4, 44), (4, 35), (4, 35), (4, 44), (4, 35), (4, 35), (4, 48), (4, 46), (4, 35), (4, 35), (4, 35)]) (S := []) (c := false) (by decide +kernel) ⟨(by unfold Pt.okT; decide +kernel), (by unfold Pt.okT; decide +kernel), (by decide +kernel)⟩ (by decide +kernel) (by decide +kernel) (by decide +kernel))
set_option maxRecDepth 100000 in
theorem par3 : Par 3 := par_of (by omega) (Pg.parse1 (cs := Lm.patC.getD 3 []) (by decide +kernel) (by decide +kernel) (P := [(1, 164)]) (N := [(4, 35), (4, 44), (4, 35), (4, 35), (4, 48), (4, 46), (4, 48), (4, 48)]) (S := []) (c := false) (by decide +kernel) ⟨(by unfold Pt.okT; decide +kernel), (by unfold Pt.okT; decide +kernel), (by decide +kernel)⟩ (by decide +kernel) (by decide +kernel) (by decide +kernel))
set_option maxRecDepth 100000 in
theorem par4 : Par 4 := par_of (by omega) (Pg.parse1 (cs := Lm.patC.getD 4 []) (by decide +kernel) (by decide +kernel) (P := []) (N := [(4, 35), (4, 44), (4, 35), (4, 35), (4, 48), (4, 46), (4, 48), (4, 48)]) (S := [(0, 120), (1, 164)]) (c := false) (by decide +kernel) ⟨(by unfold Pt.okT; decide +kernel), (by unfold Pt.okT; decide +kernel), (by decide +kernel)⟩ (by decide +kernel) (by decide +kernel) (by decide +kernel))
set_option maxRecDepth 100000 in
theorem par5 : Par 5 := par_of (by omega) (Pg.parse2 (cs := Lm.patC.getD 5 []) (by decide +kernel) (by decide +kernel) (P := [(1, 164), (0, 120)]) (N := [(4, 35), (4, 44), (4, 35), (4, 35), (4, 48), (4, 46), (4, 48), (4, 48)]) (S := []) (P' := [(0, 40), (1, 164), (0, 120), (3, 45)]) (N' := [(4, 35)]) (S' := [(0, 41)]) (c := false) (by decide +kernel) ⟨(by unfold Pt.okT; decide +kernel), (by unfold Pt.okT; decide +kernel), (by decide +kernel)⟩ (by decide +kernel) (by decide +kernel) (by decide +kernel) ⟨(by unfold Pt.okT; decide +kernel), (by unfold Pt.okT; decide +kernel), (by decide +kernel)⟩ (by decide +kernel) (by decide +kernel) (by decide +kernel))
set_option maxRecDepth 100000 in
theorem par6 : Par 6 := par_of (by omega) (Pg.parse1 (cs := Lm.patC.getD 6 []) (by decide +kernel) (by decide +kernel) (P := []) (N := [(4, 35), (4, 44), (4, 35), (4, 35), (4, 48)]) (S := [(2, 37)]) (c := false) (by decide +kernel) ⟨(by unfold Pt.okT; decide +kernel), (by unfold Pt.okT; decide +kernel), (by decide +kernel)⟩ (by decide +kernel) (by decide +kernel) (by decide +kernel))
set_option maxRecDepth 100000 in
theorem par7 : Par 7 := par_of (by omega) (Pg.parse2 (cs := Lm.patC.getD 7 []) (by decide +kernel) (by decide +kernel) (P := []) (N := [(4, 48), (4, 46), (4, 48)]) (S := []) (P' := []) (N' := [(4, 48), (4, 46), (4, 48)]) (S' := [(3, 45)]) (c := false) (by decide +kernel) ⟨(by unfold Pt.okT; decide +kernel), (by unfold Pt.okT; decide +kernel), (by decide +kernel)⟩ (by decide +kernel) (by decide +kernel) (by decide +kernel) ⟨(by unfold Pt.okT; decide +kernel), (by unfold Pt.okT; decide +kernel), (by decide +kernel)⟩ (by decide +kernel) (by decide +kernel) (by decide +kernel))
set_option maxRecDepth 100000 in
theorem par8 : Par 8 := par_of (by omega) (Pg.parse2 (cs := Lm.patC.getD 8 []) (by decide +kernel) (by decide +kernel) (P := []) (N := [(4, 35), (4, 44), (4, 35), (4, 35), (4, 35), (4, 48), (4, 46), (4, 48), (4, 48)]) (S := [(0, 121)]) (P' := [(0, 121)]) (N' := [(4, 35), (4, 44), (4, 35), (4, 35), (4, 48), (4, 46), (4, 48), (4, 48)]) (S' := [(3, 45), (0, 121)]) (c := false) (by decide +kernel) ⟨(by unfold Pt.okT; decide +kernel), (by unfold Pt.okT; decide +kernel), (by decide +kernel)⟩ (by decide +kernel) (by decide +kernel) (by decide +kernel) ⟨(by unfold Pt.okT; decide +kernel), (by unfold Pt.okT; decide +kernel), (by decide +kernel)⟩ (by decide +kernel) (by decide +kernel) (by decide +kernel))
set_option maxRecDepth 100000 in
theorem par9 : Par 9 := par_of (by omega) (Pg.parse2 (cs := Lm.patC.getD 9 []) (by decide +kernel) (by decide +kernel) (P := []) (N := [(4, 35), (4, 44), (4, 35), (4, 35), (4, 44), (4, 35), (4, 48), (4, 46), (4, 35)]) (S := []) (P' := [(0, 35)]) (N' := [(4, 35)]) (S' := [(3, 45), (0, 35)]) (c := true) (by decide +kernel) ⟨(by unfold Pt.okT; decide +kernel), (by unfold Pt.okT; decide +kernel), (by decide +kernel)⟩ (by decide +kernel) (by decide +kernel) (by decide +kernel) ⟨(by unfold Pt.okT; decide +kernel), (by unfold Pt.okT; decide +kernel), (by decide +kernel)⟩ (by decide +kernel) (by decide +kernel) (by decide +kernel))
theorem par_all : ∀ p, p < 10 → Par p := fun p hp => match p, hp with
  | 0, _ => par0
  | 1, _ => par1
  | 2, _ => par2
  | 3, _ => par3
  | 4, _ => par4
  | 5, _ => par5
  | 6, _ => par6
  | 7, _ => par7
  | 8, _ => par8
  | 9, _ => par9

theorem liv_ahead : parP Lm.liv (Lm.pX 0).npre = [((true, []) : Pb.E)] := by decide +kernel
theorem liv_behind : parP Lm.liv (Lm.pX 0).nsuf = ([] : List Pb.E) := by decide +kernel
theorem liv_pr : (Lm.pX 0).pr = 3 ∧ (Lm.pX 0).se = 3 := by decide +kernel

set_option maxRecDepth 100000 in
set_option maxHeartbeats 2000000 in
theorem lives_any (w : World) : Calls Tryz.prog 18 #[] w fun e w' => e = .returned (.bool true) ∧ Q w w' := by
  have HN : Hid (∀ u, Calls Tryz.prog 9 #[.agg #[.string ⟨#[101, 110]⟩, .string ⟨#[35, 44, 35, 35, 48, 46, 48, 48]⟩, .string ⟨#[108, 97, 116, 110]⟩, .string ⟨#[46]⟩, .string ⟨#[44]⟩, .string ⟨#[45]⟩, .string ⟨#[]⟩, .string ⟨#[]⟩]] u fun e w' => ∃ g a b c d cl, e = .returned (.tuple #[.pointer (some ⟨g, 0, none⟩), Value.nilIface]) ∧ LB w' g Lm.liv (Lm.pX 0) a b c d cl ∧ SLst w' cl (Lm.clus Lm.liv (Lm.pX 0)) ∧ Q u w') := Lib.hid (fun u => new_ok Lm.liv (Lm.pX 0) u Lm.liv_ok par0)
  go_enter Tryz.func18, Tryz.ntmps18
  go_wp2_with fail
  refine (HN.out _).mono ?_
  rintro e w1 ⟨g, a, b, c, d, cl, rfl, hB, _, hq1⟩
  have HS := Lib.hid (sizes_any g _ _ a b c d cl w1 hB)
  rw [liv_pr.1, liv_pr.2] at HS
  have HA := Lib.hid (fun u (hq : Q w1 u) => around_true g _ _ a b c d cl u Lm.liv_ok (hB.q hq))
  rw [liv_ahead, liv_behind] at HA
  have HQ1 := Lib.hid hq1
  clear hB hq1
  go_wp2_with fail
  refine HS.out.mono ?_
  rintro e w2 ⟨rfl, hq2⟩
  have HQ2 := Lib.hid hq2
  clear hq2
  go_wp2_with fail
  refine (HA.out _ HQ2.out).mono ?_
  rintro e w3 ⟨u, v, rfl, hu, hv, hq3⟩
  obtain ⟨gg, off, cap, rfl, _, _, _, k1, k2⟩ := hu.cellOf (n := 1) (k := 0) rfl (by omega)
  obtain ⟨va, vc, rfl, _, _⟩ := hv.form0 (n := 0) rfl
  have HQ3 := Lib.hid (HQ1.out.trans (HQ2.out.trans hq3))
  unfold Pb.txt at k2
  simp only [List.getD_cons_zero, Nat.zero_mul, Nat.add_zero, List.toArray] at k1 k2
  have h2 : ((⟨#[]⟩ : ByteArray).toList == (⟨#[]⟩ : ByteArray).toList) = true := by simp
  have h3 : (⟨#[]⟩ : ByteArray).toList.isEmpty = true := by decide +kernel
  clear hu hv hq3
  go_wp2_with fail
  go_ret
  exact ⟨rfl, HQ3.out⟩

end Lo
end Go.Proofs.YtglljkbpdbnhaaaGreatDoor
