/- SystemNames: of whatever number (made a name) and whatever text (the first 12 bytes) the names, and each system's nought, are the document's, and there is no other one; no conditions. -/
import Derived.Test.YtaonjhhpiihejaaRows
import Derived.WalkKit
import Derived.ProofKit
import Derived.OpenShut
import Derived.ShutString
import Derived.ChangeOld
import Derived.Below
import Derived.Lib.SmallJoins
import Derived.Test.YtaonjhhpiihejaaInts
import Derived.Test.YtaonjhhpiihejaaUtfM
import Derived.Test.YtaonjhhpiihejaaUtfG
import Derived.Test.YtaonjhhpiihejaaUtfR
import Derived.Test.YtaonjhhpiihejaaEls
import Derived.Test.YtaonjhhpiihejaaSamT
import Derived.Test.YtaonjhhpiihejaaSysM
import Derived.Test.YtaonjhhpiihejaaSysN
import Derived.Test.YtaonjhhpiihejaaSysP
import Derived.Test.YtaonjhhpiihejaaSysR
import Derived.Test.YtaonjhhpiihejaaSysT
set_option linter.unusedVariables false
set_option linter.unusedSimpArgs false
namespace Go.Proofs.Ytaonjhhpiihejaa.systemNames
open Go.ChangeShapes Go.WideShapes Go.ChangeAt Go.RowKit
open Go.ChangeMaps (open_string shut_string)

theorem own : ownKnob Try.prog.godebug = none := by kernel_rfl
theorem laidOut : laidOutB Try.prog = true := by kernel_rfl

open Sm

set_option maxHeartbeats 8000000 in
set_option maxRecDepth 100000 in
theorem walk (w : World) (a0 : Int) (w0 : -9223372036854775808 ≤ a0 ∧ a0 ≤ 9223372036854775807) (a1 : ByteArray) (w1 : a1.size ≤ maxLen) :
    Calls Try.prog 3 #[.int .i64 a0, .string a1] w fun e w' => e = .returned (.bool true) ∧ Q w w' := by
  have F0 := Lib.hid (fun w => Ur.few_any a1 12 w w1 (by omega))
  have hfs := Ur.few_size a1 12
  generalize Ur.few a1 12 = t at *
  have hts : t.size ≤ maxLen := by unfold maxLen; omega
  have N0 := fun w => Sr.name_any a0 w w0.1 w0.2
  obtain ⟨p, z, hp, hz, hzb, hps, _⟩ := Sr.made a0
  rw [← hp] at N0
  have hpm : p.size ≤ maxLen := by unfold maxLen; omega
  have Z0 := fun w => Sy.zero_some p w hpm (by rw [hz]; omega)
  have Z1 := fun w => Sr.zero_any p w
  rw [hz] at Z0 Z1
  have HN0 := Lib.hid N0
  have HZ0 := Lib.hid Z0
  have HZ1 := Lib.hid Z1
  have T1 := fun w => Sr.zero_any t w
  have hzt := nz_bd t.data.toList
  clear N0 Z0 Z1 hp hz
  by_cases hn : nz t.data.toList = -1
  · have T0 := fun w => Sy.zero_none t w hts hn
    rw [hn] at T1
    obtain ⟨y, hy⟩ : ∃ y : Int, y = -1 := ⟨_, rfl⟩
    rw [← hy] at T1
    have hy1 : y < 0 := by omega
    have hmax : max y 0 = 0 := by omega
    have hny : decide (0 ≤ y) = false := decide_eq_false (by omega)
    clear hy
    have HT0 := Lib.hid T0
    have HT1 := Lib.hid T1
    clear T0 T1 hn hzt
    go_enter Try.func3, Try.ntmps3
    go_wp2_with fail
    refine (F0.out _).mono ?_
    rintro e w2 ⟨rfl, rfl⟩
    go_wp2_with fail
    refine (HN0.out _).mono ?_
    rintro e w3 ⟨rfl, hq3⟩
    go_wp2_with fail
    refine (HZ0.out _).mono ?_
    rintro e w4 ⟨rfl, hq4⟩
    go_wp2_with fail
    refine (HT0.out _).mono ?_
    rintro e w5 ⟨rfl, hq5⟩
    go_wp2_with fail
    refine (HT1.out _).mono ?_
    rintro e w6 ⟨rfl, hq6⟩
    go_wp2_with fail
    refine (Sy.names_any _).mono ?_
    rintro e w7 ⟨v7, rfl, hv7, hq7⟩
    go_wp2_with fail
    refine (Sr.names_any _).mono ?_
    rintro e w8 ⟨g, rfl, _, _, hv8, hq8⟩
    go_wp2_with fail
    refine (Sr.same_names _ _ _ (hv7.q hq8) hv8).mono ?_
    rintro e w9 ⟨rfl, hq9⟩
    go_wp2_with fail
    refine (HZ1.out _).mono ?_
    rintro e w10 ⟨rfl, hq10⟩
    go_wp2_with fail
    refine (Sr.lives_any _).mono ?_
    rintro e w11 ⟨rfl, hq11⟩
    go_wp2_with fail
    go_ret
    exact ⟨rfl, (((((((((hq3.trans hq4).trans hq5).trans hq6).trans hq7).trans hq8).trans hq9).trans hq10).trans hq11))⟩
  · have T0 := fun w => Sy.zero_some t w hts hn
    have hzt2 : 48 ≤ nz t.data.toList := by omega
    generalize nz t.data.toList = y at *
    have hmax : max y 0 = y := by omega
    have hny : 0 ≤ y := by omega
    have HT0 := Lib.hid T0
    have HT1 := Lib.hid T1
    clear T0 T1 hn hzt
    go_enter Try.func3, Try.ntmps3
    go_wp2_with fail
    refine (F0.out _).mono ?_
    rintro e w2 ⟨rfl, rfl⟩
    go_wp2_with fail
    refine (HN0.out _).mono ?_
    rintro e w3 ⟨rfl, hq3⟩
    go_wp2_with fail
    refine (HZ0.out _).mono ?_
    rintro e w4 ⟨rfl, hq4⟩
    go_wp2_with fail
    refine (HT0.out _).mono ?_
    rintro e w5 ⟨rfl, hq5⟩
    go_wp2_with fail
    refine (HT1.out _).mono ?_
    rintro e w6 ⟨rfl, hq6⟩
    go_wp2_with fail
    refine (Sy.names_any _).mono ?_
    rintro e w7 ⟨v7, rfl, hv7, hq7⟩
    go_wp2_with fail
    refine (Sr.names_any _).mono ?_
    rintro e w8 ⟨g, rfl, _, _, hv8, hq8⟩
    go_wp2_with fail
    refine (Sr.same_names _ _ _ (hv7.q hq8) hv8).mono ?_
    rintro e w9 ⟨rfl, hq9⟩
    go_wp2_with fail
    refine (HZ1.out _).mono ?_
    rintro e w10 ⟨rfl, hq10⟩
    go_wp2_with fail
    refine (Sr.lives_any _).mono ?_
    rintro e w11 ⟨rfl, hq11⟩
    go_wp2_with fail
    go_ret
    exact ⟨rfl, (((((((((hq3.trans hq4).trans hq5).trans hq6).trans hq7).trans hq8).trans hq9).trans hq10).trans hq11))⟩

set_option maxRecDepth 100000 in
theorem lifted (os : Os) (started : os.Started) (H : Type) (enc : TypeId × Value → H) :
    ReturnsInHanded {} Try.checked os 3 .any (Rows.systemNamesSpec.pre6 enc Try.prog Try.f3 Rows.systemNamesRow.domain false) (Rows.systemNamesSpec.post enc Try.prog Try.f3 false true false false) := by
  refine returnsInHanded_of_change (C := Try.checked) own started (by kernel_rfl) Try.func3
    (ChangeSpec.witness6 (enc := enc) (C := Try.checked) false ⟨#[], #[.int .i64 0, .string ByteArray.empty], []⟩ 8 (by kernel_rfl) (by kernel_rfl) (by kernel_rfl) (by kernel_rfl)) ?_
  intro W base args ds gs before hval0 hW hcnd _
  have hval : ∀ (j : Nat) t v, Try.f3.params[j]? = some t → args[j]? = some v → Value.okWide Try.prog W .any base t v := hval0
  have hW' := hW
  obtain ⟨p, q, hA0, hV, rfl, hfz, hnd⟩ := hW
  have hA : DataW.TrodAll enc Try.prog W 0 (fun _ => true) true Try.f3.params.toList args.toList ds p := hA0
  rw [Try.params3] at hA hval
  obtain ⟨v0, vs0, d0, ds0, p0, q0, hargs, rfl, rfl, h0, r0⟩ := trodAll_cons hA
  obtain ⟨v1, vs1, d1, ds1, p1, q1, rfl, rfl, rfl, h1, r1⟩ := trodAll_cons r0
  obtain ⟨rfl, rfl, rfl⟩ := trodAll_nil r1
  obtain rfl : args = #[v0, v1] := by cases args; simp_all
  obtain ⟨rfl, rfl⟩ := trodVars_none hV
  obtain ⟨a0, rfl, rfl, rfl, w0⟩ := open_int Try.underlying3 (hval 0 3 v0 rfl rfl) h0
  obtain ⟨a1, rfl, rfl, rfl, w1⟩ := open_string Try.underlying9 (hval 1 9 v1 rfl rfl) h1
  clear hA0 hval0
  refine (walk W a0 (bounds_i64 w0) a1 w1).mono fun e W' ⟨he, bel⟩ => ?_
  subst he
  exact ⟨_, rfl, _, _, _, [], _, [], hW', trodAll_mk1 (shut_bool Try.underlying4 _), (trodAll_cons_mk (shut_int Try.underlying3 w0) (trodAll_cons_mk (shut_string Try.underlying9 w1) trodAll_mk0)), rfl, bel.below.frame _, fun h => by cases h⟩

/-- The statement. -/
theorem proved : Rows.SystemNamesSaid :=
  OpenClaim.holds_of_wide 3 Try.f3 rfl rfl rfl rfl rfl rfl rfl ⟨rfl, rfl, rfl, rfl, rfl⟩ rfl rfl rfl rfl rfl (by kernel_rfl) Try.func3 (by kernel_rfl)
    (of_decide_eq_true (by kernel_rfl)) (by unfold Func.isWrapper; first | (rw [if_pos (by decide +kernel)]; kernel_rfl) | (rw [if_neg (by decide +kernel)]; exact ⟨rfl, rfl⟩))
    (fun os started H enc _ => lifted os started H enc)
#print axioms proved
end Go.Proofs.Ytaonjhhpiihejaa.systemNames
