/- PlaceWalks: of whatever text (its first 40 bytes), words to the right, one behind the other, come to the end, and to the left to the beginning, each farther than the one before; no conditions. -/
import Derived.Test.YtmobljfpkdjnpaaRows
import Derived.WalkKit
import Derived.ProofKit
import Derived.OpenShut
import Derived.ShutString
import Derived.ChangeOld
import Derived.Below
import Derived.Test.YtmobljfpkdjnpaaInts
import Derived.Test.YtmobljfpkdjnpaaPlcM
import Derived.Test.YtmobljfpkdjnpaaPlcW
import Derived.Test.YtmobljfpkdjnpaaPlcU
import Derived.Test.YtmobljfpkdjnpaaPlcR
import Derived.Test.YtmobljfpkdjnpaaPlcL
set_option linter.unusedVariables false
set_option linter.unusedSimpArgs false
namespace Go.Proofs.Ytmobljfpkdjnpaa.placeWalks
open Go.ChangeShapes Go.WideShapes Go.ChangeAt Go.RowKit
open Go.ChangeMaps (open_string shut_string)

theorem own : ownKnob Try.prog.godebug = none := by kernel_rfl
theorem laidOut : laidOutB Try.prog = true := by kernel_rfl

open Um Cm Gm Pm
theorem far (t : ByteArray) (i : Nat) (h : i < nC t) : i < wdZ t i true := by
  unfold wdZ clN
  rw [if_pos rfl, Int.toNat_natCast, Nat.min_eq_left (by omega)]
  exact wdR_gt _ _ _ h
theorem near (t : ByteArray) (i : Nat) (h : i ≤ nC t) (h0 : 0 < i) : wdZ t i false < i := by
  unfold wdZ clN
  rw [if_neg (by decide), Int.toNat_natCast, Nat.min_eq_left h]
  exact wdL_lt _ _ h0

set_option maxHeartbeats 2000000 in
set_option maxRecDepth 100000 in
theorem walk (w : World) (a0 : ByteArray) (w0 : a0.size ≤ maxLen) :
    Calls Try.prog 8 #[.string a0] w fun e w' => e = .returned (.bool true) ∧ Q w w' := by
  have hbg := fun w => Pr.begin_any a0 w w0
  have hfs := Ur.few_size a0 40
  generalize Ur.few a0 40 = t at *
  have HB := Lib.hid hbg
  have hn := nC_le t
  have hsn := st_nC t
  have hlv := fun w => Pr.lives_any w
  have HLV := Lib.hid hlv
  have HFar := Lib.hid (far t)
  have HNear := Lib.hid (near t)
  have HLe := Lib.hid (wdZ_le t)
  clear hbg hlv
  go_enter Try.func8, Try.ntmps8
  go_wp2_with fail
  refine (HB.out _).mono ?_
  rintro e z1 ⟨b, u, rfl, hm, hu, hq1⟩
  obtain ⟨ua, uc, rfl, _, _⟩ := hu.form0 hsn
  have HM := Lib.hid hm
  have H1 := Lib.hid (fun x r w h => mword_any b t x r w h (by omega))
  generalize nC t = n at *
  clear hu hm hsn
  go_wp2_with fail
  go_loopw [6, 7] (fun i k wr => ∃ p j : Nat, i = .int .i64 p ∧ k = .int .i64 j ∧ j ≤ p ∧ p ≤ n ∧ Q z1 wr) (fun i _ _ => n - (intOf i).toNat)
  case atStart => exact ⟨0, 0, rfl, rfl, by omega, by omega, Q.refl _⟩
  case round =>
    obtain ⟨p, j, rfl, rfl, hjp, hpn, hq⟩ := hrel
    have hj40 : (j : Int) ≤ 40 := by omega
    by_cases hlt : p < n
    · have hlt2 : (p : Int) < (n : Int) := by omega
      have hf := HFar.out p hlt
      have hl := HLe.out p true
      have h1 := H1.out p true
      generalize wdZ t (p : Int) true = f at hf hl h1
      have hf2 : ¬ (f : Int) ≤ (p : Int) := by omega
      have hl2 : ¬ (n : Int) < (f : Int) := by omega
      have G1 := Lib.hid h1
      clear h1
      go_wp2_with fail
      refine (G1.out _ (HM.out.q hq)).mono ?_
      rintro e z2 ⟨rfl, hq2⟩
      go_wp2_with fail
      go_roundw
      case rel => exact ⟨f, j + 1, rfl, by go_num, by omega, by omega, hq.trans hq2⟩
      case measure => simp [intOf]; omega
    · have hpe : p = n := by omega
      subst hpe
      go_wp2_with fail
      go_loopw [6, 9] (fun i k wr => ∃ q j : Nat, i = .int .i64 q ∧ k = .int .i64 j ∧ j + q ≤ p ∧ Q z1 wr) (fun i _ _ => (intOf i).toNat)
      case atStart => exact ⟨p, 0, rfl, rfl, by omega, hq⟩
      case round =>
        obtain ⟨q, j, rfl, rfl, hjq, hq⟩ := hrel
        have hj40 : (j : Int) ≤ 40 := by omega
        by_cases hq0 : 0 < q
        · have hlt2 : (0 : Int) < (q : Int) := by omega
          have hf := HNear.out q (by omega) hq0
          have h1 := H1.out q false
          generalize wdZ t (q : Int) false = f at hf h1
          have hf2 : ¬ (q : Int) ≤ (f : Int) := by omega
          have hl2 : ¬ (f : Int) < 0 := by omega
          have G1 := Lib.hid h1
          clear h1
          go_wp2_with fail
          refine (G1.out _ (HM.out.q hq)).mono ?_
          rintro e z2 ⟨rfl, hq2⟩
          go_wp2_with fail
          go_roundw
          case rel => exact ⟨f, j + 1, rfl, by go_num, by omega, hq.trans hq2⟩
          case measure => simp [intOf]; omega
        · have hqe : q = 0 := by omega
          subst hqe
          go_wp2_with fail
          refine (HLV.out _).mono ?_
          rintro e z5 ⟨rfl, hq5⟩
          go_wp2_with fail
          go_ret
          exact ⟨rfl, (hq1.trans hq).trans hq5⟩

set_option maxRecDepth 100000 in
theorem lifted (os : Os) (started : os.Started) (H : Type) (enc : TypeId × Value → H) :
    ReturnsInHanded {} Try.checked os 8 .any (Rows.placeWalksSpec.pre6 enc Try.prog Try.f8 Rows.placeWalksRow.domain false) (Rows.placeWalksSpec.post enc Try.prog Try.f8 false true false false) := by
  refine returnsInHanded_of_change (C := Try.checked) own started (by kernel_rfl) Try.func8
    (ChangeSpec.witness6 (enc := enc) (C := Try.checked) false ⟨#[], #[.string ByteArray.empty], []⟩ 8 (by kernel_rfl) (by kernel_rfl) (by kernel_rfl) (by kernel_rfl)) ?_
  intro W base args ds gs before hval0 hW hcnd _
  have hval : ∀ (j : Nat) t v, Try.f8.params[j]? = some t → args[j]? = some v → Value.okWide Try.prog W .any base t v := hval0
  have hW' := hW
  obtain ⟨p, q, hA0, hV, rfl, hfz, hnd⟩ := hW
  have hA : DataW.TrodAll enc Try.prog W 0 (fun _ => true) true Try.f8.params.toList args.toList ds p := hA0
  rw [Try.params8] at hA hval
  obtain ⟨v0, vs0, d0, ds0, p0, q0, hargs, rfl, rfl, h0, r0⟩ := trodAll_cons hA
  obtain ⟨rfl, rfl, rfl⟩ := trodAll_nil r0
  obtain rfl : args = #[v0] := by cases args; simp_all
  obtain ⟨rfl, rfl⟩ := trodVars_none hV
  obtain ⟨a0, rfl, rfl, rfl, w0⟩ := open_string Try.underlying9 (hval 0 9 v0 rfl rfl) h0
  clear hA0 hval0
  refine (walk W a0 w0).mono fun e W' ⟨he, bel⟩ => ?_
  subst he
  exact ⟨_, rfl, _, _, _, [], _, [], hW', trodAll_mk1 (shut_bool Try.underlying4 _), (trodAll_cons_mk (shut_string Try.underlying9 w0) trodAll_mk0), rfl, bel.below.frame _, fun h => by cases h⟩

/-- The statement. -/
theorem proved : Rows.PlaceWalksSaid :=
  OpenClaim.holds_of_wide 8 Try.f8 rfl rfl rfl rfl rfl rfl rfl ⟨rfl, rfl, rfl, rfl, rfl⟩ rfl rfl rfl rfl rfl (by kernel_rfl) Try.func8 (by kernel_rfl)
    (of_decide_eq_true (by kernel_rfl)) (by unfold Func.isWrapper; first | (rw [if_pos (by decide +kernel)]; kernel_rfl) | (rw [if_neg (by decide +kernel)]; exact ⟨rfl, rfl⟩))
    (fun os started H enc _ => lifted os started H enc)
#print axioms proved
end Go.Proofs.Ytmobljfpkdjnpaa.placeWalks
