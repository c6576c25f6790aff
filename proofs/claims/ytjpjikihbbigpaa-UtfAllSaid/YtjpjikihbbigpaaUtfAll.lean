/- UtfAll: of whatever text its characters, where they begin, how many they are and whether none is spoilt are the document's; no conditions. -/
import Derived.Test.YtjpjikihbbigpaaRows
import Derived.WalkKit
import Derived.ProofKit
import Derived.OpenShut
import Derived.ShutString
import Derived.ChangeOld
import Derived.Below
import Derived.Test.YtjpjikihbbigpaaInts
import Derived.Test.YtjpjikihbbigpaaUtfM
import Derived.Test.YtjpjikihbbigpaaUtfR
import Derived.Test.YtjpjikihbbigpaaShelf
import Derived.Test.YtjpjikihbbigpaaUtfW
import Derived.Test.YtjpjikihbbigpaaUtfL
set_option linter.unusedVariables false
set_option linter.unusedSimpArgs false
namespace Go.Proofs.Ytjpjikihbbigpaa.utfAll
open Go.ChangeShapes Go.WideShapes Go.ChangeAt Go.RowKit
open Go.ChangeMaps (open_string shut_string)

theorem own : ownKnob Try.prog.godebug = none := by kernel_rfl
theorem laidOut : laidOutB Try.prog = true := by kernel_rfl

open Um

set_option maxHeartbeats 2000000 in
set_option maxRecDepth 100000 in
theorem walk (w : World) (a0 : ByteArray) (w0 : a0.size ≤ maxLen) :
    Calls Try.prog 5 #[.string a0] w fun e w' => e = .returned (.bool true) ∧ Q w w' := by
  have hfs := Ur.few_size a0 60
  have hfew := Lib.hid (fun w => Ur.few_any a0 60 w w0 (by omega))
  generalize Ur.few a0 60 = s at *
  have hA := Lib.hid (fun w => Ur.all_any s w (by omega))
  have hB := Lib.hid (fun w => all_any s w (by omega))
  have hC := Lib.hid (fun w => starts_any s w (by omega))
  have hN := Lib.hid (fun w => len_any s w (by unfold maxLen; omega))
  have hV := Lib.hid (fun w => valid_any s w (by unfold maxLen; omega))
  have hml := marks_length s.data.toList
  rw [size_list] at hml
  have hal : (allL s.data.toList).length = (marks s.data.toList).length := by unfold allL; rw [List.length_map]
  have hsl : (startsL s.data.toList).length = (marks s.data.toList).length + 1 := by unfold startsL; rw [startsF_length]
  have hl1 : (allL s.data.toList).length < 1099511627776 := by omega
  have hl2 : (startsL s.data.toList).length < 1099511627776 := by omega
  have HAL := Lib.hid hal
  clear hal hsl hml
  go_enter Try.func5, Try.ntmps5
  go_wp2_with fail
  refine (hfew.out _).mono ?_
  rintro e w1 ⟨rfl, rfl⟩
  go_wp2_with fail
  refine (hA.out _).mono ?_
  rintro e w1 ⟨v, u, rfl, hv, hu, _, hq1⟩
  go_wp2_with fail
  refine (hB.out _).mono ?_
  rintro e w2 ⟨v2, rfl, hv2, hq2⟩
  have hlv := hv.lst
  have hlu := hu.lst
  have hlv2 := hv2.lst
  go_wp2_with fail
  refine (Ur.same_any _ _ _ _ _ hlv2 (hlv.q hq2) hl1 hl1).mono ?_
  rintro e w3 ⟨rfl, hq3⟩
  go_wp2_with fail
  refine (hC.out _).mono ?_
  rintro e w4 ⟨u2, rfl, hu2, hq4⟩
  have hlu2 := hu2.lst
  go_wp2_with fail
  refine (Ur.same_any _ _ _ _ _ hlu2 (((hlu.q hq2).q hq3).q hq4) hl2 hl2).mono ?_
  rintro e w5 ⟨rfl, hq5⟩
  go_wp2_with fail
  refine (hN.out _).mono ?_
  rintro e w6 ⟨rfl, hq6⟩
  obtain ⟨a, c, rfl, _, _⟩ := hlv.form0 HAL.out
  go_wp2_with fail
  refine (hV.out _).mono ?_
  rintro e w7 ⟨rfl, hq7⟩
  go_wp2_with fail
  refine (lives_any _).mono ?_
  rintro e w8 ⟨rfl, hq8⟩
  go_wp2_with fail
  go_ret
  exact ⟨rfl, ((((((hq1.trans hq2).trans hq3).trans hq4).trans hq5).trans hq6).trans hq7).trans hq8⟩

set_option maxRecDepth 100000 in
theorem lifted (os : Os) (started : os.Started) (H : Type) (enc : TypeId × Value → H) :
    ReturnsInHanded {} Try.checked os 5 .any (Rows.utfAllSpec.pre6 enc Try.prog Try.f5 Rows.utfAllRow.domain false) (Rows.utfAllSpec.post enc Try.prog Try.f5 false true false false) := by
  refine returnsInHanded_of_change (C := Try.checked) own started (by kernel_rfl) Try.func5
    (ChangeSpec.witness6 (enc := enc) (C := Try.checked) false ⟨#[], #[.string ByteArray.empty], []⟩ 8 (by kernel_rfl) (by kernel_rfl) (by kernel_rfl) (by kernel_rfl)) ?_
  intro W base args ds gs before hval0 hW hcnd _
  have hval : ∀ (j : Nat) t v, Try.f5.params[j]? = some t → args[j]? = some v → Value.okWide Try.prog W .any base t v := hval0
  have hW' := hW
  obtain ⟨p, q, hA0, hV, rfl, hfz, hnd⟩ := hW
  have hA : DataW.TrodAll enc Try.prog W 0 (fun _ => true) true Try.f5.params.toList args.toList ds p := hA0
  rw [Try.params5] at hA hval
  obtain ⟨v0, vs0, d0, ds0, p0, q0, hargs, rfl, rfl, h0, r0⟩ := trodAll_cons hA
  obtain ⟨rfl, rfl, rfl⟩ := trodAll_nil r0
  obtain rfl : args = #[v0] := by cases args; simp_all
  obtain ⟨rfl, rfl⟩ := trodVars_none hV
  obtain ⟨a0, rfl, rfl, rfl, w0⟩ := open_string Try.underlying9 (hval 0 9 v0 rfl rfl) h0
  clear hA0 hval0
  refine (walk W a0 w0).mono fun e W' ⟨he, bel⟩ => ?_
  subst he
  exact ⟨_, rfl, _, _, _, [], _, [], hW', trodAll_mk1 (shut_bool Try.underlying4 _), (trodAll_cons_mk (shut_string Try.underlying9 w0) trodAll_mk0), rfl, bel.below.frame _, fun h => by cases h⟩

/-- The statement. -/
theorem proved : Rows.UtfAllSaid :=
  OpenClaim.holds_of_wide 5 Try.f5 rfl rfl rfl rfl rfl rfl rfl ⟨rfl, rfl, rfl, rfl, rfl⟩ rfl rfl rfl rfl rfl (by kernel_rfl) Try.func5 (by kernel_rfl)
    (of_decide_eq_true (by kernel_rfl)) (by unfold Func.isWrapper; first | (rw [if_pos (by decide +kernel)]; kernel_rfl) | (rw [if_neg (by decide +kernel)]; exact ⟨rfl, rfl⟩))
    (fun os started H enc _ => lifted os started H enc)
#print axioms proved
end Go.Proofs.Ytjpjikihbbigpaa.utfAll
