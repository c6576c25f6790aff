/- An affix as it stands around a number; what stands around a number. -/
import Derived.Test.YtglljkbpdbnhaaaGreatDoorRows
import Derived.Test.YtglljkbpdbnhaaaGreatDoorMA
import Derived.Test.YtglljkbpdbnhaaaGreatDoorMB
import Derived.Test.YtglljkbpdbnhaaaGreatDoorMBP
import Derived.Test.YtglljkbpdbnhaaaGreatDoorLocM
import Derived.Test.YtglljkbpdbnhaaaGreatDoorLocB
import Derived.Test.YtglljkbpdbnhaaaGreatDoorLocC
import Derived.Test.YtglljkbpdbnhaaaGreatDoorLocP
import Derived.Test.YtglljkbpdbnhaaaGreatDoorLocQ
import Derived.Test.YtglljkbpdbnhaaaGreatDoorLocR
import Derived.Deep.QuietTactic
import Derived.BigQuiet
set_option linter.unusedVariables false
set_option linter.unusedSimpArgs false
namespace Go.Proofs.YtglljkbpdbnhaaaGreatDoor
open Go.RowKit
namespace Lo
open Um Cm Gm


theorem elPt : Pb.El 58 50 := ⟨by kernel_rfl, Tryz.underlying50⟩
/-- An affix's parts. -/
def parP (r : Lm.Rec) (A : List Pc.E) : List Pb.E :=
  if mPl A 0 < 0 then [((false, Lm.atx r A) : Pb.E)].filter keepP
  else [((false, Lm.atx r (A.take (mPl A 0).toNat)) : Pb.E), (true, []), (false, Lm.atx r (A.drop ((mPl A 0).toNat + 1)))].filter keepP
theorem mPl_bd (A : List Pc.E) : ∀ k, mPl A k = -1 ∨ ((k : Int) ≤ mPl A k ∧ mPl A k < (k + A.length : Nat)) := by
  induction A with
  | nil => intro k; exact .inl rfl
  | cons p r ih =>
    intro k
    unfold mPl
    split
    · refine .inr ⟨Int.le_refl _, ?_⟩
      simp only [List.length_cons]; omega
    · rcases ih (k + 1) with h | ⟨h1, h2⟩
      · exact .inl h
      · refine .inr ⟨by omega, ?_⟩
        simp only [List.length_cons]; omega
theorem own_at {w : World} {B n c : Nat} {a : Option Addr} {l : List Pb.E} (h : Pb.OwnE 58 w B (.slice a n c) l) (hn : 0 < n) : ∃ g, a = some ⟨g, 0, none⟩ ∧ B ≤ g := by
  rcases h.2 with ⟨hv, _⟩ | ⟨g, cap, cur, hv, hg, _⟩
  · cases hv; omega
  · cases hv; exact ⟨g, rfl, hg⟩
theorem atx_le (r : Lm.Rec) (A : List Pc.E) (k : Nat) : (Lm.atx r (A.take k)).length ≤ (Lm.atx r A).length ∧ (Lm.atx r (A.drop k)).length ≤ (Lm.atx r A).length := by
  have h : Lm.atx r A = Lm.atx r (A.take k) ++ Lm.atx r (A.drop k) := by
    unfold Lm.atx
    rw [← List.flatMap_append, List.take_append_drop]
  rw [h, List.length_append]; omega

set_option maxRecDepth 100000 in
set_option maxHeartbeats 4000000 in
theorem parts_none (g : Nat) (r : Lm.Rec) (X : Pt.Pat) (a b c d cl v : Value) (A : List Pc.E) (w : World) (hB : LB w g r X a b c d cl) (hv : Pc.LstP w v A) (hA : A.length ≤ 1000) (hz : (Lm.atx r A).length ≤ 100000) (hm : ∀ x ∈ A, x.1 = 3 → x.2 = []) (hR : mPl A 0 = -1) :
    Calls Tryz.prog 42 #[.pointer (some ⟨g, 0, none⟩), v] w fun e w' => ∃ u, e = .returned u ∧ Pb.LstP w' u (parP r A) ∧ Q w w' := by
  have HM := Lib.hid (minus_any v A w hv (by omega) hm)
  rw [hR] at HM
  have HT := Lib.hid (fun u (hq : Q w u) => text_any g r X a b c d cl v A u (hB.q hq) (hv.q hq) (by omega) (by omega))
  have HPP := Lib.hid (show parP r A = [((false, (Lm.bs (Lm.atx r A)).data.toList) : Pb.E)].filter keepP by unfold parP; rw [hR, if_pos (by omega), Lm.bs_list])
  obtain ⟨n, hn⟩ : ∃ n, n = A.length := ⟨_, rfl⟩
  obtain ⟨va, vc, rfl, hc1, hc2⟩ := hv.form0 hn.symm
  rw [← hn] at hA
  generalize Lm.bs (Lm.atx r A) = S at *
  clear hB hv hz hm hR hn
  go_enter Tryz.func42, Tryz.ntmps42
  go_wp2_with fail
  refine HM.out.mono ?_
  rintro e w1 ⟨rfl, hq1⟩
  go_wp2_with fail
  refine (HT.out _ hq1).mono ?_
  rintro e w2 ⟨rfl, hq2⟩
  have hq12 := hq1.trans hq2
  go_wp2_with (at_builtin; refine Pb.push elPt (Pb.OwnE.nil _ w2 w.heap.size) rfl _ _ rfl false S (by rfl) (by rfl) (by simp) hq12.le ?_)
  intro v' w3 ho3 hg3 hat3
  have HQ3 := Lib.hid (hq12.grown hg3 (fun j h => by cases h))
  have HO3 := Lib.hid (show Pb.OwnE 58 w3 w.heap.size v' [((false, S.data.toList) : Pb.E)] from ho3)
  clear ho3 hg3 hat3
  obtain ⟨qa, qc, rfl, _, _⟩ := HO3.out.lst.form0 (n := 1) rfl
  obtain ⟨gq, rfl, hgq⟩ := own_at HO3.out (by omega)
  have HDL := Lib.hid (del_any gq 1 qc w.heap.size _ w _ HQ3.out hgq HO3.out rfl (by omega))
  go_wp2_with fail
  refine HDL.out.mono ?_
  rintro e wz ⟨uv, rfl, huv, hqz⟩
  have HUV := Lib.hid huv
  obtain ⟨ua, uc, rfl⟩ := huv.shape
  generalize (List.filter keepP [((false, S.data.toList) : Pb.E)]).length = un at *
  clear huv
  go_wp2_with fail
  go_ret
  refine ⟨_, rfl, ?_, hqz⟩
  rw [HPP.out]; exact HUV.out

end Lo
end Go.Proofs.YtglljkbpdbnhaaaGreatDoor
