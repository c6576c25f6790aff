/- PlaceSlices: of whatever text (its first 40 bytes) and whatever two numbers (as they are, and made -1 to 41), the clusters from one up to the other, and the one, are the document's, or there are none; no conditions. -/
import Derived.Test.YtmobljfpkdjnpaaRows
import Derived.WalkKit
import Derived.ProofKit
import Derived.OpenShut
import Derived.ShutString
import Derived.ChangeOld
import Derived.Below
import Derived.Test.YtmobljfpkdjnpaaInts
import Derived.Test.YtmobljfpkdjnpaaPlcM
import Derived.Test.YtmobljfpkdjnpaaPlcW
import Derived.Test.YtmobljfpkdjnpaaPlcC
import Derived.Test.YtmobljfpkdjnpaaPlcU
import Derived.Test.YtmobljfpkdjnpaaPlcR
import Derived.Test.YtmobljfpkdjnpaaPlcL
set_option linter.unusedVariables false
set_option linter.unusedSimpArgs false
namespace Go.Proofs.Ytmobljfpkdjnpaa.placeSlices
open Go.ChangeShapes Go.WideShapes Go.ChangeAt Go.RowKit
open Go.ChangeMaps (open_string shut_string)

theorem own : ownKnob Try.prog.godebug = none := by kernel_rfl
theorem laidOut : laidOutB Try.prog = true := by kernel_rfl

open Um Cm Gm Pm
theorem ends (t : ByteArray) (p q : Nat) (hpq : p ≤ q) (hq : q ≤ nC t) : ∃ P R : Nat, (P : Int) = (stL1 t.data.toList).getD p 0 ∧ (R : Int) = (stL1 t.data.toList).getD q 0 ∧ P ≤ R ∧ R ≤ t.size := by
  have h1 := stL1_get t.data.toList p (by rw [st_nC]; omega)
  have h2 := stL1_get t.data.toList q (by rw [st_nC]; omega)
  rw [size_list] at h1 h2
  have h3 : (stL1 t.data.toList).getD p 0 ≤ (stL1 t.data.toList).getD q 0 := by
    rcases Nat.lt_or_ge p q with h | h
    · have := rise_at (stL1 t.data.toList) (stL1_rise _) p q (by rw [st_nC]; omega) (by rw [st_nC]; omega) h
      omega
    · rw [show p = q from by omega]; omega
  exact ⟨((stL1 t.data.toList).getD p 0).toNat, ((stL1 t.data.toList).getD q 0).toNat, by omega, by omega, by omega, by omega⟩
theorem sl_in (t : ByteArray) (p q P R : Nat) (hpq : p ≤ q) (hq : q ≤ nC t) (hP : (P : Int) = (stL1 t.data.toList).getD p 0) (hR : (R : Int) = (stL1 t.data.toList).getD q 0) : (⟨(cat (cutL t p q)).toArray⟩ : ByteArray) = t.extract P R := by
  apply ba_ext
  show (cat (cutL t p q)).toArray.toList = _
  rw [List.toList_toArray, cat_cut t p q hpq hq, ← hP, ← hR, ByteArray.data_extract, Array.toList_extract, List.extract_eq_take_drop, List.drop_take]
  rfl
theorem cl_in (t : ByteArray) (p P R : Nat) (hp : p < nC t) (hP : (P : Int) = (stL1 t.data.toList).getD p 0) (hR : (R : Int) = (stL1 t.data.toList).getD (p + 1) 0) : cluZ t (p : Int) = t.extract P R := by
  unfold cluZ pc
  rw [if_pos ⟨by omega, by omega⟩, Int.toNat_natCast, ← hP, ← hR]
  rfl
theorem ext_same (t : ByteArray) (P : Nat) : t.extract P P = ⟨#[]⟩ := by
  apply ba_ext
  rw [ByteArray.data_extract, Array.toList_extract]
  simp
theorem cl_out (t : ByteArray) (i : Int) (h : ¬ (0 ≤ i ∧ i < (nC t : Int))) : cluZ t i = ⟨#[]⟩ := if_neg h

set_option maxHeartbeats 8000000 in
set_option maxRecDepth 100000 in
theorem walk (w : World) (a0 : ByteArray) (w0 : a0.size ≤ maxLen) (a1 : Int) (w1 : -9223372036854775808 ≤ a1 ∧ a1 ≤ 9223372036854775807) (a2 : Int) (w2 : -9223372036854775808 ≤ a2 ∧ a2 ≤ 9223372036854775807) :
    Calls Try.prog 5 #[.string a0, .int .i64 a1, .int .i64 a2] w fun e w' => e = .returned (.bool true) ∧ Q w w' := by
  have hbg := fun w => Pr.begin_any a0 w w0
  have hfs := Ur.few_size a0 40
  generalize Ur.few a0 40 = t at *
  have HB := Lib.hid hbg
  have hn := nC_le t
  have hsn := st_nC t
  have hlv := fun w => Pr.lives_any w
  have HLV := Lib.hid hlv
  have hr1 := around_bd a1 43 (by omega)
  have hr2 := around_bd a2 43 (by omega)
  have ha1 := fun w => Ur.around_any a1 43 w w1.1 w1.2 (by omega) (by omega)
  have ha2 := fun w => Ur.around_any a2 43 w w2.1 w2.2 (by omega) (by omega)
  generalize around a1 43 = r1 at *
  generalize around a2 43 = r2 at *
  have HA1 := Lib.hid ha1
  have HA2 := Lib.hid ha2
  have HEN := Lib.hid (ends t)
  have HSI := Lib.hid (sl_in t)
  have HCI := Lib.hid (cl_in t)
  have HCO := Lib.hid (cl_out t)
  clear hbg hlv ha1 ha2
  go_enter Try.func5, Try.ntmps5
  go_wp2_with fail
  refine (HB.out _).mono ?_
  rintro e z1 ⟨b, u, rfl, hm, hu, hq1⟩
  obtain ⟨g, off, cap, rfl, hg, hcp, hcm, hcell⟩ := hu.form hsn
  unfold maxLen at hcm
  have HU := Lib.hid (fun (u : World) (hq : Q z1 u) (k : Nat) (hk : k < nC t + 1) => (World.cell?_of_block (w := z1) (a := ⟨g, off + k, none⟩) (hq.block hg)).trans (hcell k hk))
  have HM := Lib.hid hm
  have H1 := Lib.hid (fun p q w h hpq hq => mslice_in b t p q w h hpq hq (by omega))
  have H2 := Lib.hid (fun i j w h hin => mslice_out b t i j w h hin)
  have H3 := Lib.hid (fun i w h => mclu_any b t i w h)
  have hla := (Lst.made z1 [a1, r1 - 1] 2 rfl (by unfold maxLen; omega)).q ((Q.refl _).alloc (.cells #[.int .i64 a2, .int .i64 (r2 - 1)] 3))
  have hlb := Lst.made (z1.alloc (.cells #[.int .i64 a1, .int .i64 (r1 - 1)] 3)) [a2, r2 - 1] 2 rfl (by unfold maxLen; omega)
  rw [World.size_alloc] at hlb
  simp only [List.map_cons, List.map_nil] at hla hlb
  have HLA := Lib.hid hla
  have HLB := Lib.hid hlb
  have HQ0 := Lib.hid (show Q z1 ((z1.alloc (.cells #[.int .i64 a1, .int .i64 (r1 - 1)] 3)).alloc (.cells #[.int .i64 a2, .int .i64 (r2 - 1)] 3)) from ((Q.refl _).alloc _).alloc _)
  generalize nC t = n at *
  clear hu hm hsn hcell hla hlb
  go_wp2_with fail
  refine (HA1.out _).mono ?_
  rintro e v1 ⟨rfl, rfl⟩
  go_wp2_with fail
  refine (HA2.out _).mono ?_
  rintro e v1 ⟨rfl, rfl⟩
  go_wp2_with fail
  go_loopw [12] (fun i wr => ∃ k : Nat, i = .int .i64 k ∧ k ≤ 2 ∧ Q z1 wr ∧ Lst wr (.slice (some ⟨z1.heap.size, 0, none⟩) 2 2) [a1, r1 - 1] ∧ Lst wr (.slice (some ⟨z1.heap.size + 1, 0, none⟩) 2 2) [a2, r2 - 1]) (fun i _ => 2 - (intOf i).toNat)
  case atStart => exact ⟨0, rfl, by omega, HQ0.out, HLA.out, HLB.out⟩
  case round =>
    obtain ⟨k, rfl, hk, hq, hla, hlb⟩ := hrel
    have HLA2 := Lib.hid hla
    have HLB2 := Lib.hid hlb
    by_cases hk2 : k < 2
    · obtain ⟨g1, o1, k1, hv1, _, _, _, c1⟩ := hla.cellOf (n := 2) rfl hk2
      cases hv1
      obtain ⟨g2, o2, k2, hv2, _, _, _, c2⟩ := hlb.cellOf (n := 2) rfl hk2
      cases hv2
      rw [Nat.zero_add] at c1 c2
      have hib : -9223372036854775808 ≤ [a1, r1 - 1].getD k 0 ∧ [a1, r1 - 1].getD k 0 ≤ 9223372036854775807 := by
        have : k = 0 ∨ k = 1 := by omega
        rcases this with rfl | rfl
        · exact w1
        · show -9223372036854775808 ≤ r1 - 1 ∧ r1 - 1 ≤ 9223372036854775807
          omega
      generalize [a1, r1 - 1].getD k 0 = i at c1 hib
      generalize [a2, r2 - 1].getD k 0 = j at c2
      clear hla hlb
      have hcs : (i < 0) ∨ (0 ≤ i ∧ i < (n : Int) ∧ j < i) ∨ (0 ≤ i ∧ i < (n : Int) ∧ i ≤ j ∧ j < (n : Int) + 1) ∨ (0 ≤ i ∧ i < (n : Int) ∧ i ≤ j ∧ ¬ j < (n : Int) + 1) ∨ ((n : Int) ≤ i ∧ j < i) ∨ (i = (n : Int) ∧ j = (n : Int)) ∨ ((n : Int) ≤ i ∧ i ≤ j ∧ ¬ j < (n : Int) + 1) := by omega
      rcases hcs with f1 | ⟨f1, f2, f3⟩ | ⟨f1, f2, f3, f4⟩ | ⟨f1, f2, f3, f4⟩ | ⟨f1, f2⟩ | ⟨rfl, rfl⟩ | ⟨f1, f2, f3⟩
      · skip
        have g1 := fun w h => H2.out i j w h (by omega)
        have g2 := fun w h => H3.out i w h
        rw [HCO.out i (by omega), decide_eq_false (show ¬ (0 ≤ i ∧ i < (n : Int)) from by omega)] at g2
        have G1 := Lib.hid g1
        have G2 := Lib.hid g2
        clear g1 g2
        go_wp2_with fail
        refine (G1.out _ (HM.out.q hq)).mono ?_
        rintro e z2 ⟨rfl, hq2⟩
        have hqq2 := hq.trans hq2
        go_wp2_with fail
        refine (G2.out _ (HM.out.q hqq2)).mono ?_
        rintro e z3 ⟨rfl, rfl⟩
        go_wp2_with fail
        go_roundw
        case rel => exact ⟨k + 1, by go_num, by omega, hqq2, HLA2.out.q hq2, HLB2.out.q hq2⟩
        case measure => simp [intOf]; omega
      · obtain ⟨p, rfl⟩ : ∃ p : Nat, i = p := ⟨i.toNat, by omega⟩
        have g1 := fun w h => H2.out (p : Int) j w h (by omega)
        have g2 := fun w h => H3.out (p : Int) w h
        obtain ⟨P3, R3, hP3, hR3, hPR3, hRs3⟩ := HEN.out p (p + 1) (by omega) (by omega)
        rw [HCI.out p P3 R3 (by omega) hP3 hR3, decide_eq_true (show 0 ≤ (p : Int) ∧ (p : Int) < (n : Int) from ⟨by omega, by omega⟩)] at g2
        have hPR4 : (P3 : Int) ≤ (R3 : Int) := by omega
        have hRs4 : (R3 : Int) ≤ (t.size : Int) := by omega
        have x1 : (0 : Int) ≤ (p : Int) + 1 := by omega
        have x2 : (p : Int) + 1 < (n : Int) + 1 := by omega
        have x3 : ((p : Int) + 1).toNat = p + 1 := by omega
        have x4 : (p : Int) < (n : Int) + 1 := by omega
        have HP3 := Lib.hid hP3
        have HR3 := Lib.hid hR3
        clear hP3 hR3
        have G1 := Lib.hid g1
        have G2 := Lib.hid g2
        clear g1 g2
        go_wp2_with fail
        refine (G1.out _ (HM.out.q hq)).mono ?_
        rintro e z2 ⟨rfl, hq2⟩
        have hqq2 := hq.trans hq2
        go_wp2_with fail
        refine (G2.out _ (HM.out.q hqq2)).mono ?_
        rintro e z3 ⟨rfl, rfl⟩
        have d3 := HU.out z2 hqq2 p (by omega)
        have d4 := HU.out z2 hqq2 (p + 1) (by omega)
        rw [← HP3.out] at d3
        rw [← HR3.out] at d4
        go_wp2_with fail
        go_quiet (fail)
        have hqq4 := hqq2.drewN nq
        have hq4 := hq2.drewN nq
        clear d3 d4
        go_wp2_with fail
        go_roundw
        case rel => exact ⟨k + 1, by go_num, by omega, hqq4, HLA2.out.q hq4, HLB2.out.q hq4⟩
        case measure => simp [intOf]; omega
      · obtain ⟨p, rfl⟩ : ∃ p : Nat, i = p := ⟨i.toNat, by omega⟩
        obtain ⟨q, rfl⟩ : ∃ q : Nat, j = q := ⟨j.toNat, by omega⟩
        obtain ⟨P, R, hP, hR, hPR, hRs⟩ := HEN.out p q (by omega) (by omega)
        have g1 := fun w h => H1.out p q w h (by omega) (by omega)
        rw [HSI.out p q P R (by omega) (by omega) hP hR] at g1
        have hPR2 : (P : Int) ≤ (R : Int) := by omega
        have hRs2 : (R : Int) ≤ (t.size : Int) := by omega
        have hq0 : (0 : Int) ≤ (q : Int) := by omega
        have g2 := fun w h => H3.out (p : Int) w h
        obtain ⟨P3, R3, hP3, hR3, hPR3, hRs3⟩ := HEN.out p (p + 1) (by omega) (by omega)
        rw [HCI.out p P3 R3 (by omega) hP3 hR3, decide_eq_true (show 0 ≤ (p : Int) ∧ (p : Int) < (n : Int) from ⟨by omega, by omega⟩)] at g2
        have hPR4 : (P3 : Int) ≤ (R3 : Int) := by omega
        have hRs4 : (R3 : Int) ≤ (t.size : Int) := by omega
        have x1 : (0 : Int) ≤ (p : Int) + 1 := by omega
        have x2 : (p : Int) + 1 < (n : Int) + 1 := by omega
        have x3 : ((p : Int) + 1).toNat = p + 1 := by omega
        have x4 : (p : Int) < (n : Int) + 1 := by omega
        have HP := Lib.hid hP
        have HR := Lib.hid hR
        clear hP hR
        have HP3 := Lib.hid hP3
        have HR3 := Lib.hid hR3
        clear hP3 hR3
        have G1 := Lib.hid g1
        have G2 := Lib.hid g2
        clear g1 g2
        go_wp2_with fail
        refine (G1.out _ (HM.out.q hq)).mono ?_
        rintro e z2 ⟨rfl, hq2⟩
        have hqq2 := hq.trans hq2
        have d1 := HU.out z2 hqq2 p (by omega)
        have d2 := HU.out z2 hqq2 q (by omega)
        rw [← HP.out] at d1
        rw [← HR.out] at d2
        go_wp2_with fail
        go_quiet (fail)
        have hqq3 := hqq2.drewN nq
        have hq3 := hq2.drewN nq
        clear d1 d2
        go_wp2_with fail
        refine (G2.out _ (HM.out.q hqq3)).mono ?_
        rintro e z3 ⟨rfl, rfl⟩
        have d3 := HU.out z2 hqq2 p (by omega)
        have d4 := HU.out z2 hqq2 (p + 1) (by omega)
        rw [← HP3.out] at d3
        rw [← HR3.out] at d4
        go_wp2_with fail
        go_quiet (fail)
        have hqq4 := hqq3.drewN nq
        have hq4 := hq3.drewN nq
        rw [World.drewN_drewN] at hqq4 hq4
        clear d3 d4
        go_wp2_with fail
        go_roundw
        case rel => exact ⟨k + 1, by go_num, by omega, hqq4, HLA2.out.q hq4, HLB2.out.q hq4⟩
        case measure => simp [intOf]; omega
      · obtain ⟨p, rfl⟩ : ∃ p : Nat, i = p := ⟨i.toNat, by omega⟩
        have g1 := fun w h => H2.out (p : Int) j w h (by omega)
        have g2 := fun w h => H3.out (p : Int) w h
        obtain ⟨P3, R3, hP3, hR3, hPR3, hRs3⟩ := HEN.out p (p + 1) (by omega) (by omega)
        rw [HCI.out p P3 R3 (by omega) hP3 hR3, decide_eq_true (show 0 ≤ (p : Int) ∧ (p : Int) < (n : Int) from ⟨by omega, by omega⟩)] at g2
        have hPR4 : (P3 : Int) ≤ (R3 : Int) := by omega
        have hRs4 : (R3 : Int) ≤ (t.size : Int) := by omega
        have x1 : (0 : Int) ≤ (p : Int) + 1 := by omega
        have x2 : (p : Int) + 1 < (n : Int) + 1 := by omega
        have x3 : ((p : Int) + 1).toNat = p + 1 := by omega
        have x4 : (p : Int) < (n : Int) + 1 := by omega
        have HP3 := Lib.hid hP3
        have HR3 := Lib.hid hR3
        clear hP3 hR3
        have G1 := Lib.hid g1
        have G2 := Lib.hid g2
        clear g1 g2
        go_wp2_with fail
        refine (G1.out _ (HM.out.q hq)).mono ?_
        rintro e z2 ⟨rfl, hq2⟩
        have hqq2 := hq.trans hq2
        go_wp2_with fail
        refine (G2.out _ (HM.out.q hqq2)).mono ?_
        rintro e z3 ⟨rfl, rfl⟩
        have d3 := HU.out z2 hqq2 p (by omega)
        have d4 := HU.out z2 hqq2 (p + 1) (by omega)
        rw [← HP3.out] at d3
        rw [← HR3.out] at d4
        go_wp2_with fail
        go_quiet (fail)
        have hqq4 := hqq2.drewN nq
        have hq4 := hq2.drewN nq
        clear d3 d4
        go_wp2_with fail
        go_roundw
        case rel => exact ⟨k + 1, by go_num, by omega, hqq4, HLA2.out.q hq4, HLB2.out.q hq4⟩
        case measure => simp [intOf]; omega
      · have f3 : 0 ≤ i := by omega
        have g1 := fun w h => H2.out i j w h (by omega)
        have g2 := fun w h => H3.out i w h
        rw [HCO.out i (by omega), decide_eq_false (show ¬ (0 ≤ i ∧ i < (n : Int)) from by omega)] at g2
        have G1 := Lib.hid g1
        have G2 := Lib.hid g2
        clear g1 g2
        go_wp2_with fail
        refine (G1.out _ (HM.out.q hq)).mono ?_
        rintro e z2 ⟨rfl, hq2⟩
        have hqq2 := hq.trans hq2
        go_wp2_with fail
        refine (G2.out _ (HM.out.q hqq2)).mono ?_
        rintro e z3 ⟨rfl, rfl⟩
        go_wp2_with fail
        go_roundw
        case rel => exact ⟨k + 1, by go_num, by omega, hqq2, HLA2.out.q hq2, HLB2.out.q hq2⟩
        case measure => simp [intOf]; omega
      · skip
        have f4 : (n : Int) < (n : Int) + 1 := by omega
        obtain ⟨P, R, hP, hR, hPR, hRs⟩ := HEN.out n n (by omega) (by omega)
        have g1 := fun w h => H1.out n n w h (by omega) (by omega)
        rw [HSI.out n n P R (by omega) (by omega) hP hR, show R = P from by omega, ext_same] at g1
        have hPR2 : (P : Int) ≤ (R : Int) := by omega
        have hRs2 : (R : Int) ≤ (t.size : Int) := by omega
        have hq0 : (0 : Int) ≤ (n : Int) := by omega
        have g2 := fun w h => H3.out (n : Int) w h
        rw [HCO.out (n : Int) (by omega), decide_eq_false (show ¬ (0 ≤ (n : Int) ∧ (n : Int) < (n : Int)) from by omega)] at g2
        have HP := Lib.hid hP
        have HR := Lib.hid hR
        clear hP hR
        have G1 := Lib.hid g1
        have G2 := Lib.hid g2
        clear g1 g2
        go_wp2_with fail
        refine (G1.out _ (HM.out.q hq)).mono ?_
        rintro e z2 ⟨rfl, hq2⟩
        have hqq2 := hq.trans hq2
        have d1 := HU.out z2 hqq2 n (by omega)
        rw [← HP.out] at d1
        go_wp2_with fail
        go_quiet (fail)
        have hqq3 := hqq2.drewN nq
        have hq3 := hq2.drewN nq
        clear d1
        go_wp2_with fail
        refine (G2.out _ (HM.out.q hqq3)).mono ?_
        rintro e z3 ⟨rfl, rfl⟩
        go_wp2_with fail
        go_roundw
        case rel => exact ⟨k + 1, by go_num, by omega, hqq3, HLA2.out.q hq3, HLB2.out.q hq3⟩
        case measure => simp [intOf]; omega
      · have f4 : 0 ≤ i := by omega
        have f5 : (n : Int) < j := by omega
        have f6 : ¬ j ≤ (n : Int) := by omega
        have f7 : ¬ i < (n : Int) := by omega
        have g1 := fun w h => H2.out i j w h (by omega)
        have g2 := fun w h => H3.out i w h
        rw [HCO.out i (by omega), decide_eq_false (show ¬ (0 ≤ i ∧ i < (n : Int)) from by omega)] at g2
        have G1 := Lib.hid g1
        have G2 := Lib.hid g2
        clear g1 g2
        go_wp2_with fail
        refine (G1.out _ (HM.out.q hq)).mono ?_
        rintro e z2 ⟨rfl, hq2⟩
        have hqq2 := hq.trans hq2
        go_wp2_with fail
        refine (G2.out _ (HM.out.q hqq2)).mono ?_
        rintro e z3 ⟨rfl, rfl⟩
        go_wp2_with fail
        go_roundw
        case rel => exact ⟨k + 1, by go_num, by omega, hqq2, HLA2.out.q hq2, HLB2.out.q hq2⟩
        case measure => simp [intOf]; omega
    · go_wp2_with fail
      refine (HLV.out _).mono ?_
      rintro e z5 ⟨rfl, hq5⟩
      go_wp2_with fail
      go_ret
      exact ⟨rfl, (hq1.trans hq).trans hq5⟩

set_option maxRecDepth 100000 in
theorem lifted (os : Os) (started : os.Started) (H : Type) (enc : TypeId × Value → H) :
    ReturnsInHanded {} Try.checked os 5 .any (Rows.placeSlicesSpec.pre6 enc Try.prog Try.f5 Rows.placeSlicesRow.domain false) (Rows.placeSlicesSpec.post enc Try.prog Try.f5 false true false false) := by
  refine returnsInHanded_of_change (C := Try.checked) own started (by kernel_rfl) Try.func5
    (ChangeSpec.witness6 (enc := enc) (C := Try.checked) false ⟨#[], #[.string ByteArray.empty, .int .i64 0, .int .i64 0], []⟩ 8 (by kernel_rfl) (by kernel_rfl) (by kernel_rfl) (by kernel_rfl)) ?_
  intro W base args ds gs before hval0 hW hcnd _
  have hval : ∀ (j : Nat) t v, Try.f5.params[j]? = some t → args[j]? = some v → Value.okWide Try.prog W .any base t v := hval0
  have hW' := hW
  obtain ⟨p, q, hA0, hV, rfl, hfz, hnd⟩ := hW
  have hA : DataW.TrodAll enc Try.prog W 0 (fun _ => true) true Try.f5.params.toList args.toList ds p := hA0
  rw [Try.params5] at hA hval
  obtain ⟨v0, vs0, d0, ds0, p0, q0, hargs, rfl, rfl, h0, r0⟩ := trodAll_cons hA
  obtain ⟨v1, vs1, d1, ds1, p1, q1, rfl, rfl, rfl, h1, r1⟩ := trodAll_cons r0
  obtain ⟨v2, vs2, d2, ds2, p2, q2, rfl, rfl, rfl, h2, r2⟩ := trodAll_cons r1
  obtain ⟨rfl, rfl, rfl⟩ := trodAll_nil r2
  obtain rfl : args = #[v0, v1, v2] := by cases args; simp_all
  obtain ⟨rfl, rfl⟩ := trodVars_none hV
  obtain ⟨a0, rfl, rfl, rfl, w0⟩ := open_string Try.underlying9 (hval 0 9 v0 rfl rfl) h0
  obtain ⟨a1, rfl, rfl, rfl, w1⟩ := open_int Try.underlying3 (hval 1 3 v1 rfl rfl) h1
  obtain ⟨a2, rfl, rfl, rfl, w2⟩ := open_int Try.underlying3 (hval 2 3 v2 rfl rfl) h2
  clear hA0 hval0
  refine (walk W a0 w0 a1 (bounds_i64 w1) a2 (bounds_i64 w2)).mono fun e W' ⟨he, bel⟩ => ?_
  subst he
  exact ⟨_, rfl, _, _, _, [], _, [], hW', trodAll_mk1 (shut_bool Try.underlying4 _), (trodAll_cons_mk (shut_string Try.underlying9 w0) (trodAll_cons_mk (shut_int Try.underlying3 w1) (trodAll_cons_mk (shut_int Try.underlying3 w2) trodAll_mk0))), rfl, bel.below.frame _, fun h => by cases h⟩

/-- The statement. -/
theorem proved : Rows.PlaceSlicesSaid :=
  OpenClaim.holds_of_wide 5 Try.f5 rfl rfl rfl rfl rfl rfl rfl ⟨rfl, rfl, rfl, rfl, rfl⟩ rfl rfl rfl rfl rfl (by kernel_rfl) Try.func5 (by kernel_rfl)
    (of_decide_eq_true (by kernel_rfl)) (by unfold Func.isWrapper; first | (rw [if_pos (by decide +kernel)]; kernel_rfl) | (rw [if_neg (by decide +kernel)]; exact ⟨rfl, rfl⟩))
    (fun os started H enc _ => lifted os started H enc)
#print axioms proved
end Go.Proofs.Ytmobljfpkdjnpaa.placeSlices
