/- An affix with the minus as it stands around a number. -/
import Derived.Test.YtglljkbpdbnhaaaGreatDoorRows
import Derived.Test.YtglljkbpdbnhaaaGreatDoorMA
import Derived.Test.YtglljkbpdbnhaaaGreatDoorMB
import Derived.Test.YtglljkbpdbnhaaaGreatDoorMBP
import Derived.Test.YtglljkbpdbnhaaaGreatDoorLocM
import Derived.Test.YtglljkbpdbnhaaaGreatDoorLocB
import Derived.Test.YtglljkbpdbnhaaaGreatDoorLocC
import Derived.Test.YtglljkbpdbnhaaaGreatDoorLocP
import Derived.Test.YtglljkbpdbnhaaaGreatDoorLocQ
import Derived.Test.YtglljkbpdbnhaaaGreatDoorLocR
import Derived.Test.YtglljkbpdbnhaaaGreatDoorLocS
import Derived.Deep.QuietTactic
import Derived.BigQuiet
set_option linter.unusedVariables false
set_option linter.unusedSimpArgs false
namespace Go.Proofs.YtglljkbpdbnhaaaGreatDoor
open Go.RowKit
namespace Lo
open Um Cm Gm


set_option maxRecDepth 100000 in
set_option maxHeartbeats 1000000 in
theorem parts_some (g : Nat) (r : Lm.Rec) (X : Pt.Pat) (a b c d cl v : Value) (A : List Pc.E) (w : World) (hB : LB w g r X a b c d cl) (hv : Pc.LstP w v A) (hA : A.length ≤ 1000) (hz : (Lm.atx r A).length ≤ 100000) (hm : ∀ x ∈ A, x.1 = 3 → x.2 = []) (m : Nat) (hR : mPl A 0 = m) (hmA : m < A.length) :
    Calls Tryz.prog 42 #[.pointer (some ⟨g, 0, none⟩), v] w fun e w' => ∃ u, e = .returned u ∧ Pb.LstP w' u (parP r A) ∧ Q w w' := by
  have HM := Lib.hid (minus_any v A w hv (by omega) hm)
  rw [hR] at HM
  have hle := atx_le r A m
  have hle2 := atx_le r A (m + 1)
  have HPP := Lib.hid (show parP r A = [((false, (Lm.bs (Lm.atx r (A.take m))).data.toList) : Pb.E), (true, []), (false, (Lm.bs (Lm.atx r (A.drop (m + 1)))).data.toList)].filter keepP by
    unfold parP; rw [hR, if_neg (by omega), Lm.bs_list, Lm.bs_list]; rfl)
  obtain ⟨n, hn⟩ : ∃ n, n = A.length := ⟨_, rfl⟩
  obtain ⟨va, vc, rfl, hc1, hc2⟩ := hv.form0 hn.symm
  have hcut := hv.rest (z := m + 1) hn.symm (by omega)
  have HT := Lib.hid (fun u (hq : Q w u) => text_any g r X a b c d cl (.slice va m vc) (A.take m) u (hB.q hq) ((hv.take m (by omega)).q hq) (by rw [List.length_take]; omega) (by omega))
  have HTB := Lib.hid (fun (x : Value) (hx : Pc.LstP w x (A.drop (m + 1))) u (hq : Q w u) => text_any g r X a b c d cl x (A.drop (m + 1)) u (hB.q hq) (hx.q hq) (by rw [List.length_drop]; omega) (by omega))
  rw [← hn] at hA hmA
  have hmi : (m : Int) < (n : Int) := by omega
  have hmi2 : (m : Int) ≤ (n : Int) := by omega
  have hmi3 : (m : Int) + 1 ≤ (n : Int) := by omega
  have hmn : m ≤ n := by omega
  have hmc : m ≤ vc := by omega
  have hmn1 : m + 1 ≤ n := by omega
  have hm0 : (0 : Int) ≤ (m : Int) := by omega
  unfold maxLen at hc2
  generalize Lm.bs (Lm.atx r (A.take m)) = S1 at *
  generalize Lm.bs (Lm.atx r (A.drop (m + 1))) = S2 at *
  clear hB hv hz hm hR hn hle hle2
  go_enter Tryz.func42, Tryz.ntmps42
  go_wp2_with fail
  refine HM.out.mono ?_
  rintro e w1 ⟨rfl, hq1⟩
  go_wp2_with fail
  refine (HT.out _ hq1).mono ?_
  rintro e w2 ⟨rfl, hq2⟩
  have hq12 := hq1.trans hq2
  have hq12a := hq12.alloc (.cells #[.bool false, .string S1, .bool true, .string ⟨#[]⟩] 58)
  have HL2 := Lib.hid (show Pb.LstP (w2.alloc (.cells #[.bool false, .string S1, .bool true, .string ⟨#[]⟩] 58)) (.slice (some ⟨w2.heap.size, 0, none⟩) 2 2) [((false, S1.data.toList) : Pb.E), (true, [])] from
    LstP_of (Bk.new w2 58 [.bool false, .string S1, .bool true, .string ⟨#[]⟩]) rfl (by omega) (by unfold maxLen; omega) (by simp [Pb.flat, Pb.txt]))
  have hle12 := hq12a.le
  go_wp2_with (at_builtin; refine Pb.pushl elPt (Pb.OwnE.nil _ _ w.heap.size) HL2.out rfl _ _ rfl (by rfl) (by rfl) (by simp) hle12 ?_)
  intro v' w3 ho3 hg3 hat3
  have HQ3 := Lib.hid (hq12a.grown hg3 (fun j h => by cases h))
  have HO3 := Lib.hid (show Pb.OwnE 58 w3 w.heap.size v' [((false, S1.data.toList) : Pb.E), (true, [])] from ho3)
  clear ho3 hg3 hat3 hq12 hq12a hle12 HL2
  obtain ⟨pa, pc, rfl, _, _⟩ := HO3.out.lst.form0 (n := 2) rfl
  rcases hcut with ⟨rg, roff, rfl, hz1, hz2, hz3, hrl⟩ | ⟨hz1, hz2, hrn⟩ | ⟨rad, rfl, hz1, hz2, hz3, hrn⟩
  · have HRL := Lib.hid hrl
    have hz1i : (m : Int) + 1 < (n : Int) := by omega
    have hz2i : (n : Int) ≤ (vc : Int) := by omega
    clear hrl
    go_wp2_with fail
    refine (HTB.out _ HRL.out _ HQ3.out).mono ?_
    rintro e w4 ⟨rfl, hq4⟩
    have HQ4 := Lib.hid (HQ3.out.trans hq4)
    have HO4 := Lib.hid (HO3.out.q hq4)
    have hle4 := HQ4.out.le
    clear hq4
    go_wp2_with (at_builtin; refine Pb.push elPt HO4.out rfl _ _ rfl false S2 (by rfl) (by rfl) (by simp) hle4 ?_)
    intro v2' w5 ho5 hg5 hat5
    have HQ5 := Lib.hid (HQ4.out.grown hg5 (fun j h => (HO4.out.lt j h).1))
    have HO5 := Lib.hid (show Pb.OwnE 58 w5 w.heap.size v2' [((false, S1.data.toList) : Pb.E), (true, []), (false, S2.data.toList)] from ho5)
    clear ho5 hg5 hat5
    obtain ⟨qa, qc, rfl, _, _⟩ := HO5.out.lst.form0 (n := 3) rfl
    obtain ⟨gq, rfl, hgq⟩ := own_at HO5.out (by omega)
    have HDL := Lib.hid (del_any gq 3 qc w.heap.size _ w _ HQ5.out hgq HO5.out rfl (by omega))
    go_wp2_with fail
    refine HDL.out.mono ?_
    rintro e wz ⟨uv, rfl, huv, hqz⟩
    have HUV := Lib.hid huv
    obtain ⟨ua, uc, rfl⟩ := huv.shape
    generalize (List.filter keepP [((false, S1.data.toList) : Pb.E), (true, []), (false, S2.data.toList)]).length = un at *
    clear huv
    go_wp2_with fail
    go_ret
    refine ⟨_, rfl, ?_, hqz⟩
    rw [HPP.out]; exact HUV.out
  · obtain rfl : vc = n := hz2
    have HRL := Lib.hid (show Pc.LstP w (.slice va 0 0) (A.drop (m + 1)) by rw [hrn]; exact Pc.LstP.nil _ _ _ (by unfold maxLen; omega) (fun _ => rfl))
    obtain rfl : vc = m + 1 := hz1.symm
    clear hrn
    go_wp2_with fail
    refine (HTB.out _ HRL.out _ HQ3.out).mono ?_
    rintro e w4 ⟨rfl, hq4⟩
    have HQ4 := Lib.hid (HQ3.out.trans hq4)
    have HO4 := Lib.hid (HO3.out.q hq4)
    have hle4 := HQ4.out.le
    clear hq4
    go_wp2_with (at_builtin; refine Pb.push elPt HO4.out rfl _ _ rfl false S2 (by rfl) (by rfl) (by simp) hle4 ?_)
    intro v2' w5 ho5 hg5 hat5
    have HQ5 := Lib.hid (HQ4.out.grown hg5 (fun j h => (HO4.out.lt j h).1))
    have HO5 := Lib.hid (show Pb.OwnE 58 w5 w.heap.size v2' [((false, S1.data.toList) : Pb.E), (true, []), (false, S2.data.toList)] from ho5)
    clear ho5 hg5 hat5
    obtain ⟨qa, qc, rfl, _, _⟩ := HO5.out.lst.form0 (n := 3) rfl
    obtain ⟨gq, rfl, hgq⟩ := own_at HO5.out (by omega)
    have HDL := Lib.hid (del_any gq 3 qc w.heap.size _ w _ HQ5.out hgq HO5.out rfl (by omega))
    go_wp2_with fail
    refine HDL.out.mono ?_
    rintro e wz ⟨uv, rfl, huv, hqz⟩
    have HUV := Lib.hid huv
    obtain ⟨ua, uc, rfl⟩ := huv.shape
    generalize (List.filter keepP [((false, S1.data.toList) : Pb.E), (true, []), (false, S2.data.toList)]).length = un at *
    clear huv
    go_wp2_with fail
    go_ret
    refine ⟨_, rfl, ?_, hqz⟩
    rw [HPP.out]; exact HUV.out
  · have HRL := Lib.hid (show Pc.LstP w (.slice (some (rad.add (n * 2))) 0 (vc - n)) (A.drop (m + 1)) by rw [hrn]; exact Pc.LstP.nil _ _ _ (by unfold maxLen; omega) (fun h => by cases h))
    obtain rfl : n = m + 1 := hz1.symm
    clear hrn
    go_wp2_with fail
    refine (HTB.out _ HRL.out _ HQ3.out).mono ?_
    rintro e w4 ⟨rfl, hq4⟩
    have HQ4 := Lib.hid (HQ3.out.trans hq4)
    have HO4 := Lib.hid (HO3.out.q hq4)
    have hle4 := HQ4.out.le
    clear hq4
    go_wp2_with (at_builtin; refine Pb.push elPt HO4.out rfl _ _ rfl false S2 (by rfl) (by rfl) (by simp) hle4 ?_)
    intro v2' w5 ho5 hg5 hat5
    have HQ5 := Lib.hid (HQ4.out.grown hg5 (fun j h => (HO4.out.lt j h).1))
    have HO5 := Lib.hid (show Pb.OwnE 58 w5 w.heap.size v2' [((false, S1.data.toList) : Pb.E), (true, []), (false, S2.data.toList)] from ho5)
    clear ho5 hg5 hat5
    obtain ⟨qa, qc, rfl, _, _⟩ := HO5.out.lst.form0 (n := 3) rfl
    obtain ⟨gq, rfl, hgq⟩ := own_at HO5.out (by omega)
    have HDL := Lib.hid (del_any gq 3 qc w.heap.size _ w _ HQ5.out hgq HO5.out rfl (by omega))
    go_wp2_with fail
    refine HDL.out.mono ?_
    rintro e wz ⟨uv, rfl, huv, hqz⟩
    have HUV := Lib.hid huv
    obtain ⟨ua, uc, rfl⟩ := huv.shape
    generalize (List.filter keepP [((false, S1.data.toList) : Pb.E), (true, []), (false, S2.data.toList)]).length = un at *
    clear huv
    go_wp2_with fail
    go_ret
    refine ⟨_, rfl, ?_, hqz⟩
    rw [HPP.out]; exact HUV.out

end Lo
end Go.Proofs.YtglljkbpdbnhaaaGreatDoor
