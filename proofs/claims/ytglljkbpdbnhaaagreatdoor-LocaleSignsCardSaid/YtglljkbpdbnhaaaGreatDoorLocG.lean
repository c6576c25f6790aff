/- All clusters of the affixes; names. -/
import Derived.Test.YtglljkbpdbnhaaaGreatDoorRows
import Derived.Test.YtglljkbpdbnhaaaGreatDoorMA
import Derived.Test.YtglljkbpdbnhaaaGreatDoorMB
import Derived.Test.YtglljkbpdbnhaaaGreatDoorME
import Derived.Test.YtglljkbpdbnhaaaGreatDoorMBP
import Derived.Test.YtglljkbpdbnhaaaGreatDoorMP
import Derived.Test.YtglljkbpdbnhaaaGreatDoorLocM
import Derived.Test.YtglljkbpdbnhaaaGreatDoorLocA
import Derived.Test.YtglljkbpdbnhaaaGreatDoorLocB
import Derived.Test.YtglljkbpdbnhaaaGreatDoorLocC
import Derived.Deep.QuietTactic
import Derived.BigQuiet
set_option linter.unusedVariables false
set_option linter.unusedSimpArgs false
namespace Go.Proofs.YtglljkbpdbnhaaaGreatDoor
open Go.RowKit
namespace Lo
open Um Cm Gm


/-- The clusters of the first affixes. -/
def clT (r : Lm.Rec) (X : Pt.Pat) (k : Nat) : List ByteArray := ((Lm.affs X).take k).flatMap fun A => pcs (Lm.bs (Lm.atx r A))
theorem clT_succ (r : Lm.Rec) (X : Pt.Pat) (k : Nat) (A : List Pc.E) (h : (Lm.affs X)[k]? = some A) : clT r X (k + 1) = clT r X k ++ pcs (Lm.bs (Lm.atx r A)) := by
  obtain ⟨hk, e⟩ := List.getElem?_eq_some_iff.1 h
  unfold clT
  rw [List.take_succ_eq_append_getElem hk, List.flatMap_append, e]
  simp
theorem clT_all (r : Lm.Rec) (X : Pt.Pat) : clT r X 4 = Lm.clus r X := rfl
set_option maxHeartbeats 2000000 in
theorem split_any (g : Nat) (r : Lm.Rec) (X : Pt.Pat) (a b c d cl : Value) (w : World) (hB : LB w g r X a b c d cl) (hA : ∀ A ∈ Lm.affs X, A.length ≤ 1000000 ∧ (Lm.atx r A).length ≤ 1000000) :
    Calls Tryz.prog 39 #[.pointer (some ⟨g, 0, none⟩)] w fun e w' => ∃ v, e = .returned v ∧ SOwn w' w.heap.size v (Lm.clus r X) ∧ Q w w' := by
  have HF := Lib.hid (affixes_any g r X a b c d cl w hB)
  have HB := Lib.hid hB
  have HT := Lib.hid (fun u x A (hq : Q w u) (hv : Pc.LstP u x A) (hm : A ∈ Lm.affs X) => text_any g r X a b c d cl x A u (hB.q hq) hv (hA A hm).1 (hA A hm).2)
  have HS := Lib.hid (fun u A (hm : A ∈ Lm.affs X) => csplit_any (Lm.bs (Lm.atx r A)) u (by rw [Lm.bs_size]; have := (hA A hm).2; omega))
  have HL := Lib.hid (fun A (hm : A ∈ Lm.affs X) => (show (pcs (Lm.bs (Lm.atx r A))).length ≤ 1000000 by
    rw [pcs_length]
    have h1 := begL_length (Lm.bs (Lm.atx r A)).data.toList
    have h2 := (hA A hm).2
    rw [Lm.bs_list] at h1 ⊢
    omega))
  have HN := Lib.hid (clT_succ r X)
  have HZ := Lib.hid (show clT r X 4 = Lm.clus r X from rfl)
  have h00 : clT r X 0 = [] := rfl
  rw [← HZ.out]
  generalize clT r X = T at *
  clear hB hA HZ
  go_enter Tryz.func39, Tryz.ntmps39
  go_wp2_with fail
  refine HF.out.mono ?_
  rintro e w1 ⟨v1, rfl, hv1, hq1⟩
  obtain ⟨va, vc, rfl, _, _⟩ := hv1.form0 (n := 4) rfl
  have HV := Lib.hid hv1
  have HQ1 := Lib.hid hq1
  have ho0 : SOwn w1 w1.heap.size (.slice none 0 0) (T 0) := by rw [h00]; exact GOwn.nil _ _ _ _
  have hl0 : (T 0).length ≤ 0 := by rw [h00]; exact Nat.le_refl _
  have HO0 := Lib.hid ho0
  have HL0 := Lib.hid hl0
  obtain ⟨B0, hB0⟩ : ∃ z, z = w1.heap.size := ⟨_, rfl⟩
  have HW := Lib.hid (show ∀ u, Q w1 u → B0 ≤ u.heap.size from fun u hq => by rw [hB0]; exact hq.le)
  have HW1 := Lib.hid (show w1.heap.size ≤ B0 from Nat.le_of_eq hB0.symm)
  have HWM := Lib.hid (show w.heap.size ≤ B0 by rw [hB0]; exact HQ1.out.le)
  rw [← hB0] at HO0
  clear hv1 hq1 ho0 hl0 h00 HF hB0
  go_wp2_with fail
  go_loopw [3, 9] (fun al i wr => ∃ k : Nat, i = .int .i64 k ∧ k ≤ 4 ∧ SOwn wr B0 al (T k) ∧ Hid ((T k).length ≤ k * 1000000) ∧ Q w1 wr) (fun _ i _ => 4 - (intOf i).toNat)
  case atStart => exact ⟨0, rfl, by omega, HO0.out, Lib.hid (by have := HL0.out; omega), Q.refl _⟩
  case round =>
    obtain ⟨k, rfl, hk, ho, HK, hq⟩ := hrel
    by_cases hlt : k < 4
    · have hlti : (k : Int) < 4 := by omega
      obtain ⟨x, hx⟩ : ∃ x, [a, b, c, d][k]? = some x := ⟨_, List.getElem?_eq_getElem (by simpa using hlt)⟩
      obtain ⟨gg, off, cp', hvv, hg, _, _, c1⟩ := (HV.out.q hq).cellOf (n := 4) rfl hx
      cases hvv
      obtain ⟨A, hA, hm, hvx⟩ := aff_at (HB.out.q (HQ1.out.trans hq)) hx
      have hts := HN.out k A hA
      have HTK := Lib.hid (show T (k + 1) = T k ++ pcs (Lm.bs (Lm.atx r A)) from hts)
      have ht := HT.out wr x A (HQ1.out.trans hq) hvx hm
      have hs := fun u => HS.out u A hm
      have hpl := HL.out A hm
      obtain ⟨xa, xc, rfl⟩ := hvx.shape
      generalize pcs (Lm.bs (Lm.atx r A)) = PS at *
      generalize Lm.bs (Lm.atx r A) = S at *
      generalize A.length = m at *
      have HPL := Lib.hid hpl
      obtain ⟨tk, htk⟩ : ∃ t, t = (T k).length := ⟨_, rfl⟩
      have HTL := Lib.hid htk
      obtain ⟨aa, ac, rfl, _, _⟩ := ho.lst.form0 htk.symm
      have HO := Lib.hid ho
      clear hx hA hm hvx hts hpl ho htk
      simp only [id] at c1
      go_wp2_with fail
      refine ht.mono ?_
      rintro e w2 ⟨rfl, hq2⟩
      go_wp2_with fail
      refine (hs _).mono ?_
      rintro e w3 ⟨v3, rfl, hv3, hq3⟩
      obtain ⟨pl, hpl⟩ : ∃ t, t = PS.length := ⟨_, rfl⟩
      obtain ⟨wa, wc, rfl, _, _⟩ := hv3.lst.form0 hpl.symm
      have HO3 := Lib.hid (HO.out.q (hq2.trans hq3))
      have HV3 := Lib.hid hv3.lst
      have HQ3 := Lib.hid (hq.trans (hq2.trans hq3))
      clear hv3 hpl
      have hlen : (T k).length + PS.length < 1099511627776 := by have h1 := HK.out; have h2 := HPL.out; omega
      have hB3 := HW.out _ HQ3.out
      go_wp2_with (at_builtin; refine gpushl elemS oneS HO3.out HV3.out rfl _ _ rfl (by rfl) (by rfl) hlen hB3 ?_)
      intro v' w4 ho4 hg4 hat4
      have hq4 := HQ3.out.grown hg4 (fun j h => Nat.le_trans HW1.out (HO3.out.lt j h).1)
      have HO4 := Lib.hid ho4
      obtain ⟨ba, bc, rfl⟩ := ho4.shape
      clear ho4
      go_wp2_with fail
      exact ⟨⟨k + 1, by go_num, by omega, by rw [HTK.out]; exact HO4.out, Lib.hid (by rw [HTK.out, List.length_append]; have h1 := HK.out; have h2 := HPL.out; omega), hq4⟩, by simp [intOf]; omega⟩
    · have hnlt : ¬ (k : Int) < 4 := by omega
      obtain rfl : k = 4 := by omega
      obtain ⟨aa, ac, rfl⟩ := ho.shape
      have HO := Lib.hid ho
      clear ho
      go_wp2_with fail
      go_ret
      refine ⟨_, rfl, ?_, HQ1.out.trans hq⟩
      exact HO.out.mono HWM.out

end Lo
end Go.Proofs.YtglljkbpdbnhaaaGreatDoor
