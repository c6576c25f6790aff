/- UtfCleans: of whatever text what Clean answers is the document's, has as many characters, none of them spoilt, and stays so; it is the text itself just if no byte of it is spoilt; no conditions. -/
import Derived.Test.YtjpjikihbbigpaaRows
import Derived.WalkKit
import Derived.ProofKit
import Derived.OpenShut
import Derived.ShutString
import Derived.ChangeOld
import Derived.Below
import Derived.Test.YtjpjikihbbigpaaInts
import Derived.Test.YtjpjikihbbigpaaUtfM
import Derived.Test.YtjpjikihbbigpaaUtfR
import Derived.Test.YtjpjikihbbigpaaShelf
import Derived.Test.YtjpjikihbbigpaaShelfB
import Derived.Test.YtjpjikihbbigpaaBld
import Derived.Test.YtjpjikihbbigpaaUtfW
import Derived.Test.YtjpjikihbbigpaaUtfJ
import Derived.Test.YtjpjikihbbigpaaUtfL
set_option linter.unusedVariables false
set_option linter.unusedSimpArgs false
namespace Go.Proofs.Ytjpjikihbbigpaa.utfCleans
open Go.ChangeShapes Go.WideShapes Go.ChangeAt Go.RowKit
open Go.ChangeMaps (open_string shut_string)

theorem own : ownKnob Try.prog.godebug = none := by kernel_rfl
theorem laidOut : laidOutB Try.prog = true := by kernel_rfl

open Um

set_option maxHeartbeats 2000000 in
set_option maxRecDepth 100000 in
theorem walk (w : World) (a0 : ByteArray) (w0 : a0.size ≤ maxLen) :
    Calls Try.prog 7 #[.string a0] w fun e w' => e = .returned (.bool true) ∧ Q w w' := by
  have hfs := Ur.few_size a0 60
  have hfew := Lib.hid (fun w => Ur.few_any a0 60 w w0 (by omega))
  generalize Ur.few a0 60 = s at *
  have hA := Lib.hid (fun w => Ur.all_any s w (by omega))
  have hB := Lib.hid (fun w => clean_any s w (by omega))
  have hN := Lib.hid (fun w => len_any s w (by unfold maxLen; omega))
  have hV := Lib.hid (fun w => valid_any s w (by unfold maxLen; omega))
  have hml := marks_length s.data.toList
  rw [size_list] at hml
  have hal : (allL s.data.toList).length ≤ 60 := by unfold allL; rw [List.length_map]; omega
  have hjl := joinL_length (allL s.data.toList)
  have hvl := allL_vld s.data.toList
  have hjo := Lib.hid (join_ok s.data.toList)
  have hok := Lib.hid (okL_join _ hvl)
  have hlj := Lib.hid (len_join _ hvl)
  have haj := Lib.hid (allL_join _ hvl)
  have hlen : (allL s.data.toList).length = (marks s.data.toList).length := by unfold allL; rw [List.length_map]
  have hJ := Lib.hid (fun v w (h : Lst w v (allL s.data.toList)) => Ur.join_any v _ w h (by omega))
  have hsz : (⟨(joinL (allL s.data.toList)).toArray⟩ : ByteArray).size ≤ 240 := by rw [← size_list]; simp; omega
  have hdl : (⟨(joinL (allL s.data.toList)).toArray⟩ : ByteArray).data.toList = joinL (allL s.data.toList) := rfl
  have hN2 := fun w => len_any ⟨(joinL (allL s.data.toList)).toArray⟩ w (by unfold maxLen; omega)
  rw [hdl, hlj.out, hlen] at hN2
  have HN2 := Lib.hid hN2
  have hV2 := fun w => valid_any ⟨(joinL (allL s.data.toList)).toArray⟩ w (by unfold maxLen; omega)
  rw [hdl, hok.out] at hV2
  have HV2 := Lib.hid hV2
  have hC2 := fun w => clean_any ⟨(joinL (allL s.data.toList)).toArray⟩ w (by omega)
  rw [hdl, haj.out] at hC2
  have HC2 := Lib.hid hC2
  have hcmp : ((⟨(joinL (allL s.data.toList)).toArray⟩ : ByteArray).toList == s.toList) = okL s.data.toList := by
    rw [Ur.toList_eq, Ur.toList_eq, hdl]
    cases ho : okL s.data.toList
    · rw [beq_eq_false_iff_ne]
      intro h
      have := hok.out
      rw [h, ho] at this
      cases this
    · rw [hjo.out ho]; simp
  have HC := Lib.hid hcmp
  clear hN2 hV2 hC2 hcmp hdl hlen hvl hal hjl hml
  generalize (⟨(joinL (allL s.data.toList)).toArray⟩ : ByteArray) = c at *
  cases ho : okL s.data.toList
  all_goals
    rw [ho] at HC hV
    have hcm := HC.out
    clear ho HC
    go_enter Try.func7, Try.ntmps7
    go_wp2_with fail
    refine (hfew.out _).mono ?_
    rintro e w1 ⟨rfl, rfl⟩
    go_wp2_with fail
    refine (hB.out _).mono ?_
    rintro e w1 ⟨rfl, hq1⟩
    go_wp2_with fail
    refine (hA.out _).mono ?_
    rintro e w2 ⟨v, u, rfl, hv, hu, _, hq2⟩
    have hlv := hv.lst
    go_wp2_with fail
    refine (hJ.out _ _ hlv).mono ?_
    rintro e w3 ⟨rfl, hq3⟩
    go_wp2_with fail
    refine (HV2.out _).mono ?_
    rintro e w4 ⟨rfl, hq4⟩
    go_wp2_with fail
    refine (HC2.out _).mono ?_
    rintro e w5 ⟨rfl, hq5⟩
    go_wp2_with fail
    refine (HN2.out _).mono ?_
    rintro e w6 ⟨rfl, hq6⟩
    go_wp2_with fail
    refine (hN.out _).mono ?_
    rintro e w7 ⟨rfl, hq7⟩
    go_wp2_with fail
    refine (hV.out _).mono ?_
    rintro e w8 ⟨rfl, hq8⟩
    go_wp2_with fail
    refine (lives_any _).mono ?_
    rintro e w9 ⟨rfl, hq9⟩
    go_wp2_with fail
    go_ret
    exact ⟨rfl, (((((((hq1.trans hq2).trans hq3).trans hq4).trans hq5).trans hq6).trans hq7).trans hq8).trans hq9⟩

set_option maxRecDepth 100000 in
theorem lifted (os : Os) (started : os.Started) (H : Type) (enc : TypeId × Value → H) :
    ReturnsInHanded {} Try.checked os 7 .any (Rows.utfCleansSpec.pre6 enc Try.prog Try.f7 Rows.utfCleansRow.domain false) (Rows.utfCleansSpec.post enc Try.prog Try.f7 false true false false) := by
  refine returnsInHanded_of_change (C := Try.checked) own started (by kernel_rfl) Try.func7
    (ChangeSpec.witness6 (enc := enc) (C := Try.checked) false ⟨#[], #[.string ByteArray.empty], []⟩ 8 (by kernel_rfl) (by kernel_rfl) (by kernel_rfl) (by kernel_rfl)) ?_
  intro W base args ds gs before hval0 hW hcnd _
  have hval : ∀ (j : Nat) t v, Try.f7.params[j]? = some t → args[j]? = some v → Value.okWide Try.prog W .any base t v := hval0
  have hW' := hW
  obtain ⟨p, q, hA0, hV, rfl, hfz, hnd⟩ := hW
  have hA : DataW.TrodAll enc Try.prog W 0 (fun _ => true) true Try.f7.params.toList args.toList ds p := hA0
  rw [Try.params7] at hA hval
  obtain ⟨v0, vs0, d0, ds0, p0, q0, hargs, rfl, rfl, h0, r0⟩ := trodAll_cons hA
  obtain ⟨rfl, rfl, rfl⟩ := trodAll_nil r0
  obtain rfl : args = #[v0] := by cases args; simp_all
  obtain ⟨rfl, rfl⟩ := trodVars_none hV
  obtain ⟨a0, rfl, rfl, rfl, w0⟩ := open_string Try.underlying9 (hval 0 9 v0 rfl rfl) h0
  clear hA0 hval0
  refine (walk W a0 w0).mono fun e W' ⟨he, bel⟩ => ?_
  subst he
  exact ⟨_, rfl, _, _, _, [], _, [], hW', trodAll_mk1 (shut_bool Try.underlying4 _), (trodAll_cons_mk (shut_string Try.underlying9 w0) trodAll_mk0), rfl, bel.below.frame _, fun h => by cases h⟩

/-- The statement. -/
theorem proved : Rows.UtfCleansSaid :=
  OpenClaim.holds_of_wide 7 Try.f7 rfl rfl rfl rfl rfl rfl rfl ⟨rfl, rfl, rfl, rfl, rfl⟩ rfl rfl rfl rfl rfl (by kernel_rfl) Try.func7 (by kernel_rfl)
    (of_decide_eq_true (by kernel_rfl)) (by unfold Func.isWrapper; first | (rw [if_pos (by decide +kernel)]; kernel_rfl) | (rw [if_neg (by decide +kernel)]; exact ⟨rfl, rfl⟩))
    (fun os started H enc _ => lifted os started H enc)
#print axioms proved
end Go.Proofs.Ytjpjikihbbigpaa.utfCleans
