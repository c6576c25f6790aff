/- PlaceWords: of whatever text (its first 40 bytes), from each number and from whatever one, where a word ends to the right and to the left is the document's; no conditions. -/
import Derived.Test.YtmobljfpkdjnpaaRows
import Derived.WalkKit
import Derived.ProofKit
import Derived.OpenShut
import Derived.ShutString
import Derived.ChangeOld
import Derived.Below
import Derived.Test.YtmobljfpkdjnpaaInts
import Derived.Test.YtmobljfpkdjnpaaPlcM
import Derived.Test.YtmobljfpkdjnpaaPlcW
import Derived.Test.YtmobljfpkdjnpaaPlcU
import Derived.Test.YtmobljfpkdjnpaaPlcR
import Derived.Test.YtmobljfpkdjnpaaPlcD
import Derived.Test.YtmobljfpkdjnpaaPlcL
set_option linter.unusedVariables false
set_option linter.unusedSimpArgs false
namespace Go.Proofs.Ytmobljfpkdjnpaa.placeWords
open Go.ChangeShapes Go.WideShapes Go.ChangeAt Go.RowKit
open Go.ChangeMaps (open_string shut_string)

theorem own : ownKnob Try.prog.godebug = none := by kernel_rfl
theorem laidOut : laidOutB Try.prog = true := by kernel_rfl

open Um Cm Gm Pm

set_option maxHeartbeats 2000000 in
set_option maxRecDepth 100000 in
theorem walk (w : World) (a0 : ByteArray) (w0 : a0.size ≤ maxLen) (a1 : Int) (w1 : -9223372036854775808 ≤ a1 ∧ a1 ≤ 9223372036854775807) :
    Calls Try.prog 6 #[.string a0, .int .i64 a1] w fun e w' => e = .returned (.bool true) ∧ Q w w' := by
  have hbg := fun w => Pr.begin_any a0 w w0
  have hfs := Ur.few_size a0 40
  generalize Ur.few a0 40 = t at *
  have HB := Lib.hid hbg
  have hn := nC_le t
  have hsn := st_nC t
  have hlv := fun w => Pr.lives_any w
  have HLV := Lib.hid hlv
  clear hbg hlv
  go_enter Try.func6, Try.ntmps6
  go_wp2_with fail
  refine (HB.out _).mono ?_
  rintro e z1 ⟨b, u, rfl, hm, hu, hq1⟩
  obtain ⟨ua, uc, rfl, _, _⟩ := hu.form0 hsn
  have HM := Lib.hid hm
  have H1 := Lib.hid (fun x r w h => mword_any b t x r w h (by omega))
  have H2 := Lib.hid (fun x r w => Pr.word_any t x r w (by omega))
  generalize nC t = n at *
  clear hu hm hsn
  go_wp2_with fail
  go_loopw [8] (fun i wr => ∃ x : Int, i = .int .i64 x ∧ -1 ≤ x ∧ x ≤ (n : Int) + 2 ∧ Q z1 wr) (fun i _ => ((n : Int) + 2 - intOf i).toNat)
  case atStart => exact ⟨-1, rfl, by omega, by omega, Q.refl _⟩
  case round =>
    obtain ⟨x, rfl, hx1, hx2, hq⟩ := hrel
    by_cases hlt : x ≤ (n : Int) + 1
    · by_cases hxe : x = (n : Int) + 1
      · subst hxe
        have h1 := H1.out a1 true
        have h2 := H2.out a1 true
        have h3 := H1.out a1 false
        have h4 := H2.out a1 false
        generalize wdZ t a1 true = f at h1 h2
        generalize wdZ t a1 false = c at h3 h4
        have G1 := Lib.hid h1
        have G2 := Lib.hid h2
        have G3 := Lib.hid h3
        have G4 := Lib.hid h4
        clear h1 h2 h3 h4
        go_wp2_with fail
        refine (G1.out _ (HM.out.q hq)).mono ?_
        rintro e z2 ⟨rfl, hq2⟩
        have hqq2 := hq.trans hq2
        go_wp2_with fail
        refine (G2.out _).mono ?_
        rintro e z3 ⟨rfl, hq3⟩
        have hqq3 := hqq2.trans hq3
        go_wp2_with fail
        refine (G3.out _ (HM.out.q hqq3)).mono ?_
        rintro e z4 ⟨rfl, hq4⟩
        have hqq4 := hqq3.trans hq4
        go_wp2_with fail
        refine (G4.out _).mono ?_
        rintro e z5 ⟨rfl, hq5⟩
        have hqq5 := hqq4.trans hq5
        go_wp2_with fail
        go_roundw
        case rel => exact ⟨(n : Int) + 1 + 1, by go_num, by omega, by omega, hqq5⟩
        case measure => simp [intOf]; omega
      · have e1 : (x == (n : Int) + 1) = false := beq_eq_false_iff_ne.2 hxe
        have h1 := H1.out x true
        have h2 := H2.out x true
        have h3 := H1.out x false
        have h4 := H2.out x false
        generalize wdZ t x true = f at h1 h2
        generalize wdZ t x false = c at h3 h4
        have G1 := Lib.hid h1
        have G2 := Lib.hid h2
        have G3 := Lib.hid h3
        have G4 := Lib.hid h4
        clear h1 h2 h3 h4
        go_wp2_with fail
        refine (G1.out _ (HM.out.q hq)).mono ?_
        rintro e z2 ⟨rfl, hq2⟩
        have hqq2 := hq.trans hq2
        go_wp2_with fail
        refine (G2.out _).mono ?_
        rintro e z3 ⟨rfl, hq3⟩
        have hqq3 := hqq2.trans hq3
        go_wp2_with fail
        refine (G3.out _ (HM.out.q hqq3)).mono ?_
        rintro e z4 ⟨rfl, hq4⟩
        have hqq4 := hqq3.trans hq4
        go_wp2_with fail
        refine (G4.out _).mono ?_
        rintro e z5 ⟨rfl, hq5⟩
        have hqq5 := hqq4.trans hq5
        go_wp2_with fail
        go_roundw
        case rel => exact ⟨x + 1, by go_num, by omega, by omega, hqq5⟩
        case measure => simp [intOf]; omega
    · go_wp2_with fail
      refine (HLV.out _).mono ?_
      rintro e z5 ⟨rfl, hq5⟩
      go_wp2_with fail
      go_ret
      exact ⟨rfl, (hq1.trans hq).trans hq5⟩

set_option maxRecDepth 100000 in
theorem lifted (os : Os) (started : os.Started) (H : Type) (enc : TypeId × Value → H) :
    ReturnsInHanded {} Try.checked os 6 .any (Rows.placeWordsSpec.pre6 enc Try.prog Try.f6 Rows.placeWordsRow.domain false) (Rows.placeWordsSpec.post enc Try.prog Try.f6 false true false false) := by
  refine returnsInHanded_of_change (C := Try.checked) own started (by kernel_rfl) Try.func6
    (ChangeSpec.witness6 (enc := enc) (C := Try.checked) false ⟨#[], #[.string ByteArray.empty, .int .i64 0], []⟩ 8 (by kernel_rfl) (by kernel_rfl) (by kernel_rfl) (by kernel_rfl)) ?_
  intro W base args ds gs before hval0 hW hcnd _
  have hval : ∀ (j : Nat) t v, Try.f6.params[j]? = some t → args[j]? = some v → Value.okWide Try.prog W .any base t v := hval0
  have hW' := hW
  obtain ⟨p, q, hA0, hV, rfl, hfz, hnd⟩ := hW
  have hA : DataW.TrodAll enc Try.prog W 0 (fun _ => true) true Try.f6.params.toList args.toList ds p := hA0
  rw [Try.params6] at hA hval
  obtain ⟨v0, vs0, d0, ds0, p0, q0, hargs, rfl, rfl, h0, r0⟩ := trodAll_cons hA
  obtain ⟨v1, vs1, d1, ds1, p1, q1, rfl, rfl, rfl, h1, r1⟩ := trodAll_cons r0
  obtain ⟨rfl, rfl, rfl⟩ := trodAll_nil r1
  obtain rfl : args = #[v0, v1] := by cases args; simp_all
  obtain ⟨rfl, rfl⟩ := trodVars_none hV
  obtain ⟨a0, rfl, rfl, rfl, w0⟩ := open_string Try.underlying9 (hval 0 9 v0 rfl rfl) h0
  obtain ⟨a1, rfl, rfl, rfl, w1⟩ := open_int Try.underlying3 (hval 1 3 v1 rfl rfl) h1
  clear hA0 hval0
  refine (walk W a0 w0 a1 (bounds_i64 w1)).mono fun e W' ⟨he, bel⟩ => ?_
  subst he
  exact ⟨_, rfl, _, _, _, [], _, [], hW', trodAll_mk1 (shut_bool Try.underlying4 _), (trodAll_cons_mk (shut_string Try.underlying9 w0) (trodAll_cons_mk (shut_int Try.underlying3 w1) trodAll_mk0)), rfl, bel.below.frame _, fun h => by cases h⟩

/-- The statement. -/
theorem proved : Rows.PlaceWordsSaid :=
  OpenClaim.holds_of_wide 6 Try.f6 rfl rfl rfl rfl rfl rfl rfl ⟨rfl, rfl, rfl, rfl, rfl⟩ rfl rfl rfl rfl rfl (by kernel_rfl) Try.func6 (by kernel_rfl)
    (of_decide_eq_true (by kernel_rfl)) (by unfold Func.isWrapper; first | (rw [if_pos (by decide +kernel)]; kernel_rfl) | (rw [if_neg (by decide +kernel)]; exact ⟨rfl, rfl⟩))
    (fun os started H enc _ => lifted os started H enc)
#print axioms proved
end Go.Proofs.Ytmobljfpkdjnpaa.placeWords
