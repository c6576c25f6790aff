/- PlaceSplices: of whatever text (its first 40 bytes), whatever two numbers (as they are, and made -1 to 41) and whatever other text (its first 12 bytes), what stands in the place of clusters stands there, or there is no such map, and the map itself stays; no conditions. -/
import Derived.Test.YtmobljfpkdjnpaaRows
import Derived.WalkKit
import Derived.ProofKit
import Derived.OpenShut
import Derived.ShutString
import Derived.ChangeOld
import Derived.Below
import Derived.Test.YtmobljfpkdjnpaaInts
import Derived.Test.YtmobljfpkdjnpaaPlcM
import Derived.Test.YtmobljfpkdjnpaaPlcW
import Derived.Test.YtmobljfpkdjnpaaPlcC
import Derived.Test.YtmobljfpkdjnpaaPlcU
import Derived.Test.YtmobljfpkdjnpaaPlcR
import Derived.Test.YtmobljfpkdjnpaaPlcL
set_option linter.unusedVariables false
set_option linter.unusedSimpArgs false
namespace Go.Proofs.Ytmobljfpkdjnpaa.placeSplices
open Go.ChangeShapes Go.WideShapes Go.ChangeAt Go.RowKit
open Go.ChangeMaps (open_string shut_string)

theorem own : ownKnob Try.prog.godebug = none := by kernel_rfl
theorem laidOut : laidOutB Try.prog = true := by kernel_rfl

open Um Cm Gm Pm
theorem ends (t : ByteArray) (p q : Nat) (hpq : p ≤ q) (hq : q ≤ nC t) : ∃ P R : Nat, (P : Int) = (stL1 t.data.toList).getD p 0 ∧ (R : Int) = (stL1 t.data.toList).getD q 0 ∧ P ≤ R ∧ R ≤ t.size := by
  have h1 := stL1_get t.data.toList p (by rw [st_nC]; omega)
  have h2 := stL1_get t.data.toList q (by rw [st_nC]; omega)
  rw [size_list] at h1 h2
  have h3 : (stL1 t.data.toList).getD p 0 ≤ (stL1 t.data.toList).getD q 0 := by
    rcases Nat.lt_or_ge p q with h | h
    · have := rise_at (stL1 t.data.toList) (stL1_rise _) p q (by rw [st_nC]; omega) (by rw [st_nC]; omega) h
      omega
    · rw [show p = q from by omega]; omega
  exact ⟨((stL1 t.data.toList).getD p 0).toNat, ((stL1 t.data.toList).getD q 0).toNat, by omega, by omega, by omega, by omega⟩
theorem st_zero (s : ByteArray) : (stL1 s.data.toList).getD 0 0 = 0 := by
  by_cases h : s.data.toList = []
  · rw [h]; rfl
  · exact stL1_zero _ h
theorem spl_want (s t : ByteArray) (p q P R : Nat) (hpq : p ≤ q) (hq : q ≤ nC s) (hP : (P : Int) = (stL1 s.data.toList).getD p 0) (hR : (R : Int) = (stL1 s.data.toList).getD q 0) : spl s t p q = s.extract 0 P ++ t ++ s.extract R s.size := by
  apply ba_ext
  have h1 := cat_cut s 0 p (Nat.zero_le _) (by omega)
  have h2 := cat_cut s q (nC s) hq (Nat.le_refl _)
  have h3 : (stL1 s.data.toList).getD (nC s) 0 = s.data.toList.length := stL1_last _
  rw [← hP, st_zero] at h1
  rw [← hR, h3] at h2
  rw [spl_list, h1, h2]
  simp only [ByteArray.data_append, Array.toList_append, ByteArray.data_extract, Array.toList_extract, List.extract_eq_take_drop, Int.toNat_natCast, List.drop_zero, Nat.sub_zero]
  congr 1
  rw [List.take_length, ← size_list, List.take_of_length_le (by rw [List.length_drop]; omega)]

set_option maxHeartbeats 8000000 in
set_option maxRecDepth 100000 in
theorem walk (w : World) (a0 : ByteArray) (w0 : a0.size ≤ maxLen) (a1 : Int) (w1 : -9223372036854775808 ≤ a1 ∧ a1 ≤ 9223372036854775807) (a2 : Int) (w2 : -9223372036854775808 ≤ a2 ∧ a2 ≤ 9223372036854775807) (a3 : ByteArray) (w3 : a3.size ≤ maxLen) :
    Calls Try.prog 7 #[.string a0, .int .i64 a1, .int .i64 a2, .string a3] w fun e w' => e = .returned (.bool true) ∧ Q w w' := by
  have hbg := fun w => Pr.begin_any a0 w w0
  have hfs := Ur.few_size a0 40
  have hff := fun w => Ur.few_any a3 12 w w3 (by omega)
  have hfz := Ur.few_size a3 12
  generalize Ur.few a0 40 = t at *
  generalize Ur.few a3 12 = s at *
  have HB := Lib.hid hbg
  have HFF := Lib.hid hff
  have hn := nC_le t
  have hsn := st_nC t
  have hlv := fun w => Pr.lives_any w
  have HLV := Lib.hid hlv
  have hr1 := around_bd a1 43 (by omega)
  have hr2 := around_bd a2 43 (by omega)
  have ha1 := fun w => Ur.around_any a1 43 w w1.1 w1.2 (by omega) (by omega)
  have ha2 := fun w => Ur.around_any a2 43 w w2.1 w2.2 (by omega) (by omega)
  generalize around a1 43 = r1 at *
  generalize around a2 43 = r2 at *
  have HA1 := Lib.hid ha1
  have HA2 := Lib.hid ha2
  have HEN := Lib.hid (ends t)
  have HSW := Lib.hid (spl_want t s)
  clear hbg hlv ha1 ha2 hff
  go_enter Try.func7, Try.ntmps7
  go_wp2_with fail
  refine (HB.out _).mono ?_
  rintro e z1 ⟨b, u, rfl, hm, hu, hq1⟩
  obtain ⟨g, off, cap, rfl, hg, hcp, hcm, hcell⟩ := hu.form hsn
  unfold maxLen at hcm
  have HU := Lib.hid (fun (u : World) (hq : Q z1 u) (k : Nat) (hk : k < nC t + 1) => (World.cell?_of_block (w := z1) (a := ⟨g, off + k, none⟩) (hq.block hg)).trans (hcell k hk))
  have HM := Lib.hid hm
  have H1 := Lib.hid (fun p q w h hpq hq => mspl_in b t s p q w h hpq hq (by omega) (by omega))
  have H2 := Lib.hid (fun i j w h hin => mspl_out b t s i j w h hin)
  have HT := Lib.hid (fun w b x h => mtext_any b x w h)
  have HL := Lib.hid (fun w b x h => mlen_any b x w h)
  have HLt := Lib.hid (fun w h => mlen_any b t w h)
  have hla := (Lst.made z1 [a1, r1 - 1] 2 rfl (by unfold maxLen; omega)).q ((Q.refl _).alloc (.cells #[.int .i64 a2, .int .i64 (r2 - 1)] 3))
  have hlb := Lst.made (z1.alloc (.cells #[.int .i64 a1, .int .i64 (r1 - 1)] 3)) [a2, r2 - 1] 2 rfl (by unfold maxLen; omega)
  rw [World.size_alloc] at hlb
  simp only [List.map_cons, List.map_nil] at hla hlb
  have HLA := Lib.hid hla
  have HLB := Lib.hid hlb
  have HQ0 := Lib.hid (show Q z1 ((z1.alloc (.cells #[.int .i64 a1, .int .i64 (r1 - 1)] 3)).alloc (.cells #[.int .i64 a2, .int .i64 (r2 - 1)] 3)) from ((Q.refl _).alloc _).alloc _)
  generalize nC t = n at *
  have hcast : (((n + 1 : Nat) : Int) - 1) = n := by omega
  clear hu hm hsn hcell hla hlb
  go_wp2_with fail
  refine (HFF.out _).mono ?_
  rintro e v1 ⟨rfl, rfl⟩
  go_wp2_with fail
  refine (HA1.out _).mono ?_
  rintro e v1 ⟨rfl, rfl⟩
  go_wp2_with fail
  refine (HA2.out _).mono ?_
  rintro e v1 ⟨rfl, rfl⟩
  go_wp2_with fail
  go_loopw [14] (fun i wr => ∃ k : Nat, i = .int .i64 k ∧ k ≤ 2 ∧ Q z1 wr ∧ Lst wr (.slice (some ⟨z1.heap.size, 0, none⟩) 2 2) [a1, r1 - 1] ∧ Lst wr (.slice (some ⟨z1.heap.size + 1, 0, none⟩) 2 2) [a2, r2 - 1]) (fun i _ => 2 - (intOf i).toNat)
  case atStart => exact ⟨0, rfl, by omega, HQ0.out, HLA.out, HLB.out⟩
  case round =>
    obtain ⟨k, rfl, hk, hq, hla, hlb⟩ := hrel
    have HLA2 := Lib.hid hla
    have HLB2 := Lib.hid hlb
    by_cases hk2 : k < 2
    · obtain ⟨g1, o1, k1, hv1, _, _, _, c1⟩ := hla.cellOf (n := 2) rfl hk2
      cases hv1
      obtain ⟨g2, o2, k2, hv2, _, _, _, c2⟩ := hlb.cellOf (n := 2) rfl hk2
      cases hv2
      rw [Nat.zero_add] at c1 c2
      generalize [a1, r1 - 1].getD k 0 = i at c1
      generalize [a2, r2 - 1].getD k 0 = j at c2
      clear hla hlb
      have hcs : (i < 0) ∨ (0 ≤ i ∧ j < i) ∨ (0 ≤ i ∧ i ≤ j ∧ j < (n : Int) + 1) ∨ (0 ≤ i ∧ i ≤ j ∧ ¬ j < (n : Int) + 1) := by omega
      rcases hcs with f1 | ⟨f1, f2⟩ | ⟨f1, f2, f3⟩ | ⟨f1, f2, f3⟩
      · skip
        have g1 := fun w h => H2.out i j w h (by omega)
        have G1 := Lib.hid g1
        clear g1
        go_wp2_with fail
        refine (G1.out _ (HM.out.q hq)).mono ?_
        rintro e z2 ⟨rfl, rfl⟩
        go_wp2_with fail
        go_roundw
        case rel => exact ⟨k + 1, by go_num, by omega, hq, HLA2.out, HLB2.out⟩
        case measure => simp [intOf]; omega
      · skip
        have g1 := fun w h => H2.out i j w h (by omega)
        have G1 := Lib.hid g1
        clear g1
        go_wp2_with fail
        refine (G1.out _ (HM.out.q hq)).mono ?_
        rintro e z2 ⟨rfl, rfl⟩
        go_wp2_with fail
        go_roundw
        case rel => exact ⟨k + 1, by go_num, by omega, hq, HLA2.out, HLB2.out⟩
        case measure => simp [intOf]; omega
      · obtain ⟨p, rfl⟩ : ∃ p : Nat, i = p := ⟨i.toNat, by omega⟩
        obtain ⟨q, rfl⟩ : ∃ q : Nat, j = q := ⟨j.toNat, by omega⟩
        obtain ⟨P, R, hP, hR, hPR, hRs⟩ := HEN.out p q (by omega) (by omega)
        have g1 := fun w h => H1.out p q w h (by omega) (by omega)
        rw [HSW.out p q P R (by omega) (by omega) hP hR] at g1
        have HP := Lib.hid hP
        have HR := Lib.hid hR
        have hP2 : (P : Int) ≤ (t.size : Int) := by omega
        have hRs2 : (R : Int) ≤ (t.size : Int) := by omega
        have hq0 : (0 : Int) ≤ (q : Int) := by omega
        have hp1 : (p : Int) < (n : Int) + 1 := by omega
        have s1 : (t.extract 0 P).size ≤ 40 := by rw [ByteArray.size_extract]; omega
        have s2 : (t.extract R t.size).size ≤ 40 := by rw [ByteArray.size_extract]; omega
        have hWs : (t.extract 0 P ++ s ++ t.extract R t.size).size ≤ 92 := by rw [ByteArray.size_append, ByteArray.size_append]; omega
        have hst := fun w => Gr.starts_any (t.extract 0 P ++ s ++ t.extract R t.size) w (by omega)
        have hml := Nat.le_trans (nC_le (t.extract 0 P ++ s ++ t.extract R t.size)) hWs
        have HWN := Lib.hid (st_nC (t.extract 0 P ++ s ++ t.extract R t.size))
        have HST := Lib.hid hst
        have G1 := Lib.hid g1
        have gt := fun w b h => HT.out w b (t.extract 0 P ++ s ++ t.extract R t.size) h
        have gl := fun w b h => HL.out w b (t.extract 0 P ++ s ++ t.extract R t.size) h
        generalize nC (t.extract 0 P ++ s ++ t.extract R t.size) = m at HWN gl hml
        have GT := Lib.hid gt
        have GL := Lib.hid gl
        have hcm2 : (((m + 1 : Nat) : Int) - 1) = m := by omega
        clear hP hR g1 hst hWs gt gl
        go_wp2_with fail
        refine (G1.out _ (HM.out.q hq)).mono ?_
        rintro e z2 ⟨c, rfl, hmc, hq2⟩
        have hqq2 := hq.trans hq2
        have d1 := HU.out z2 hqq2 p (by omega)
        have d2 := HU.out z2 hqq2 q (by omega)
        rw [← HP.out] at d1
        rw [← HR.out] at d2
        go_wp2_with fail
        go_quiet (fail)
        have hqq3 := hqq2.drewN nq
        have hq3 := hq2.drewN nq
        have hmc3 := hmc.q ((Q.refl _).drewN nq)
        clear d1 d2
        go_wp2_with fail
        refine (GT.out _ _ hmc3).mono ?_
        rintro e z3 ⟨rfl, rfl⟩
        go_wp2_with fail
        refine (GL.out _ _ hmc3).mono ?_
        rintro e z3 ⟨rfl, rfl⟩
        go_wp2_with fail
        refine (HST.out _).mono ?_
        rintro e z3 ⟨v3, rfl, hv3, hq4⟩
        obtain ⟨va, vc, rfl, _, _⟩ := hv3.lst.form0 HWN.out
        have hqq4 := hqq3.trans hq4
        have hq5 := hq3.trans hq4
        go_wp2_with fail
        go_roundw
        case rel => exact ⟨k + 1, by go_num, by omega, hqq4, HLA2.out.q hq5, HLB2.out.q hq5⟩
        case measure => simp [intOf]; omega
      · have f5 : (n : Int) < j := by omega
        have f6 : ¬ j ≤ (n : Int) := by omega
        have g1 := fun w h => H2.out i j w h (by omega)
        have G1 := Lib.hid g1
        clear g1
        go_wp2_with fail
        refine (G1.out _ (HM.out.q hq)).mono ?_
        rintro e z2 ⟨rfl, rfl⟩
        go_wp2_with fail
        go_roundw
        case rel => exact ⟨k + 1, by go_num, by omega, hq, HLA2.out, HLB2.out⟩
        case measure => simp [intOf]; omega
    · have GTt := Lib.hid (fun w h => HT.out w b t h)
      go_wp2_with fail
      refine (GTt.out _ (HM.out.q hq)).mono ?_
      rintro e z3 ⟨rfl, rfl⟩
      go_wp2_with fail
      refine (HLt.out _ (HM.out.q hq)).mono ?_
      rintro e z3 ⟨rfl, rfl⟩
      go_wp2_with fail
      refine (HLV.out _).mono ?_
      rintro e z5 ⟨rfl, hq5⟩
      go_wp2_with fail
      go_ret
      exact ⟨rfl, (hq1.trans hq).trans hq5⟩

set_option maxRecDepth 100000 in
theorem lifted (os : Os) (started : os.Started) (H : Type) (enc : TypeId × Value → H) :
    ReturnsInHanded {} Try.checked os 7 .any (Rows.placeSplicesSpec.pre6 enc Try.prog Try.f7 Rows.placeSplicesRow.domain false) (Rows.placeSplicesSpec.post enc Try.prog Try.f7 false true false false) := by
  refine returnsInHanded_of_change (C := Try.checked) own started (by kernel_rfl) Try.func7
    (ChangeSpec.witness6 (enc := enc) (C := Try.checked) false ⟨#[], #[.string ByteArray.empty, .int .i64 0, .int .i64 0, .string ByteArray.empty], []⟩ 8 (by kernel_rfl) (by kernel_rfl) (by kernel_rfl) (by kernel_rfl)) ?_
  intro W base args ds gs before hval0 hW hcnd _
  have hval : ∀ (j : Nat) t v, Try.f7.params[j]? = some t → args[j]? = some v → Value.okWide Try.prog W .any base t v := hval0
  have hW' := hW
  obtain ⟨p, q, hA0, hV, rfl, hfz, hnd⟩ := hW
  have hA : DataW.TrodAll enc Try.prog W 0 (fun _ => true) true Try.f7.params.toList args.toList ds p := hA0
  rw [Try.params7] at hA hval
  obtain ⟨v0, vs0, d0, ds0, p0, q0, hargs, rfl, rfl, h0, r0⟩ := trodAll_cons hA
  obtain ⟨v1, vs1, d1, ds1, p1, q1, rfl, rfl, rfl, h1, r1⟩ := trodAll_cons r0
  obtain ⟨v2, vs2, d2, ds2, p2, q2, rfl, rfl, rfl, h2, r2⟩ := trodAll_cons r1
  obtain ⟨v3, vs3, d3, ds3, p3, q3, rfl, rfl, rfl, h3, r3⟩ := trodAll_cons r2
  obtain ⟨rfl, rfl, rfl⟩ := trodAll_nil r3
  obtain rfl : args = #[v0, v1, v2, v3] := by cases args; simp_all
  obtain ⟨rfl, rfl⟩ := trodVars_none hV
  obtain ⟨a0, rfl, rfl, rfl, w0⟩ := open_string Try.underlying9 (hval 0 9 v0 rfl rfl) h0
  obtain ⟨a1, rfl, rfl, rfl, w1⟩ := open_int Try.underlying3 (hval 1 3 v1 rfl rfl) h1
  obtain ⟨a2, rfl, rfl, rfl, w2⟩ := open_int Try.underlying3 (hval 2 3 v2 rfl rfl) h2
  obtain ⟨a3, rfl, rfl, rfl, w3⟩ := open_string Try.underlying9 (hval 3 9 v3 rfl rfl) h3
  clear hA0 hval0
  refine (walk W a0 w0 a1 (bounds_i64 w1) a2 (bounds_i64 w2) a3 w3).mono fun e W' ⟨he, bel⟩ => ?_
  subst he
  exact ⟨_, rfl, _, _, _, [], _, [], hW', trodAll_mk1 (shut_bool Try.underlying4 _), (trodAll_cons_mk (shut_string Try.underlying9 w0) (trodAll_cons_mk (shut_int Try.underlying3 w1) (trodAll_cons_mk (shut_int Try.underlying3 w2) (trodAll_cons_mk (shut_string Try.underlying9 w3) trodAll_mk0)))), rfl, bel.below.frame _, fun h => by cases h⟩

/-- The statement. -/
theorem proved : Rows.PlaceSplicesSaid :=
  OpenClaim.holds_of_wide 7 Try.f7 rfl rfl rfl rfl rfl rfl rfl ⟨rfl, rfl, rfl, rfl, rfl⟩ rfl rfl rfl rfl rfl (by kernel_rfl) Try.func7 (by kernel_rfl)
    (of_decide_eq_true (by kernel_rfl)) (by unfold Func.isWrapper; first | (rw [if_pos (by decide +kernel)]; kernel_rfl) | (rw [if_neg (by decide +kernel)]; exact ⟨rfl, rfl⟩))
    (fun os started H enc _ => lifted os started H enc)
#print axioms proved
end Go.Proofs.Ytmobljfpkdjnpaa.placeSplices
