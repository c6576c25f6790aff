/- ClassHangul: of whatever three numbers, made a syllable's letters, the syllable's class is LV without a last letter and LVT else, and beside the syllables there is none; no conditions. -/
import Derived.Test.YthafeggcmojbdaaRows
import Derived.WalkKit
import Derived.ProofKit
import Derived.OpenShut
import Derived.ShutString
import Derived.ChangeOld
import Derived.Below
import Derived.Test.YthafeggcmojbdaaInts
import Derived.Test.YthafeggcmojbdaaUtfM
import Derived.Test.YthafeggcmojbdaaUtfG
import Derived.Test.YthafeggcmojbdaaClsM
import Derived.Test.YthafeggcmojbdaaPairs
import Derived.Test.YthafeggcmojbdaaClsE
import Derived.Test.YthafeggcmojbdaaClsW
set_option linter.unusedVariables false
set_option linter.unusedSimpArgs false
namespace Go.Proofs.Ythafeggcmojbdaa.classHangul
open Go.ChangeShapes Go.WideShapes Go.ChangeAt Go.RowKit
open Go.ChangeMaps (open_string shut_string)

theorem own : ownKnob Try.prog.godebug = none := by kernel_rfl
theorem laidOut : laidOutB Try.prog = true := by kernel_rfl

open Um Cm
theorem cls_44031 : cls 44031 = 0 := by decide +kernel
theorem cls_55204 : cls 55204 = 0 := by decide +kernel
theorem cls_55203 : cls 55203 = 13 := by decide +kernel

set_option maxHeartbeats 2000000 in
set_option maxRecDepth 100000 in
theorem walk (w : World) (a0 : Int) (w0 : -9223372036854775808 ≤ a0 ∧ a0 ≤ 9223372036854775807) (a1 : Int) (w1 : -9223372036854775808 ≤ a1 ∧ a1 ≤ 9223372036854775807) (a2 : Int) (w2 : -9223372036854775808 ≤ a2 ∧ a2 ≤ 9223372036854775807) :
    Calls Try.prog 5 #[.int .i64 a0, .int .i64 a1, .int .i64 a2] w fun e w' => e = .returned (.bool true) ∧ Q w w' := by
  have hL := around_bd a0 19 (by omega)
  have hV := around_bd a1 21 (by omega)
  have hT := around_bd a2 28 (by omega)
  have h1 := fun w => of_any 44031 w
  rw [cls_44031] at h1
  have h2 := fun w => of_any 55204 w
  rw [cls_55204] at h2
  have h3 := fun w => of_any 55203 w
  rw [cls_55203] at h3
  have H1 := Lib.hid h1
  have H2 := Lib.hid h2
  have H3 := Lib.hid h3
  clear h1 h2 h3
  have A0 := Lib.hid (fun w => Ur.around_any a0 19 w w0.1 w0.2 (by omega) (by omega))
  have A1 := Lib.hid (fun w => Ur.around_any a1 21 w w1.1 w1.2 (by omega) (by omega))
  have A2 := Lib.hid (fun w => Ur.around_any a2 28 w w2.1 w2.2 (by omega) (by omega))
  clear w0 w1 w2
  generalize around a0 19 = L at *
  generalize around a1 21 = V at *
  generalize around a2 28 = T at *
  have hs : syll (44032 + (L * 21 + V) * 28 + T) := by unfold syll; omega
  by_cases h0 : T = 0
  · have hc : cls (44032 + (L * 21 + V) * 28 + T) = 12 := cls_lv hs (by omega)
    have hof := fun w => of_any (44032 + (L * 21 + V) * 28 + T) w
    rw [hc] at hof
    subst h0
    have hof2 : ∀ (x : Int) (w : World), x = 44032 + (L * 21 + V) * 28 + 0 → Calls Try.prog 12 #[.int .i64 x] w _ := fun x w h => h ▸ hof w
    have HOF := Lib.hid hof2
    clear hof2
    clear hc hof hs
    go_enter Try.func5, Try.ntmps5
    go_wp2_with fail
    refine (A2.out _).mono ?_
    rintro e w1 ⟨rfl, rfl⟩
    go_wp2_with fail
    refine (A0.out _).mono ?_
    rintro e w1 ⟨rfl, rfl⟩
    go_wp2_with fail
    refine (A1.out _).mono ?_
    rintro e w1 ⟨rfl, rfl⟩
    go_wp2_with fail
    refine (HOF.out _ _ (by omega)).mono ?_
    rintro e w1 ⟨rfl, hq1⟩
    go_wp2_with fail
    refine (H1.out _).mono ?_
    rintro e w2 ⟨rfl, hq2⟩
    go_wp2_with fail
    refine (H2.out _).mono ?_
    rintro e w3 ⟨rfl, hq3⟩
    go_wp2_with fail
    refine (H3.out _).mono ?_
    rintro e w4 ⟨rfl, hq4⟩
    go_wp2_with fail
    refine (lives2_any _).mono ?_
    rintro e w5 ⟨rfl, hq5⟩
    go_wp2_with fail
    go_ret
    exact ⟨rfl, (((hq1.trans hq2).trans hq3).trans hq4).trans hq5⟩
  · have hc : cls (44032 + (L * 21 + V) * 28 + T) = 13 := cls_lvt hs (by omega)
    have hof := fun w => of_any (44032 + (L * 21 + V) * 28 + T) w
    rw [hc] at hof
    have hof2 : ∀ (x : Int) (w : World), x = 44032 + (L * 21 + V) * 28 + T → Calls Try.prog 12 #[.int .i64 x] w _ := fun x w h => h ▸ hof w
    have HOF := Lib.hid hof2
    clear hof2
    have hb : (T == 0) = false := by rw [beq_eq_false_iff_ne]; exact h0
    clear hc hof hs h0
    go_enter Try.func5, Try.ntmps5
    go_wp2_with fail
    refine (A2.out _).mono ?_
    rintro e w1 ⟨rfl, rfl⟩
    go_wp2_with fail
    refine (A0.out _).mono ?_
    rintro e w1 ⟨rfl, rfl⟩
    go_wp2_with fail
    refine (A1.out _).mono ?_
    rintro e w1 ⟨rfl, rfl⟩
    go_wp2_with fail
    refine (HOF.out _ _ (by omega)).mono ?_
    rintro e w1 ⟨rfl, hq1⟩
    go_wp2_with fail
    refine (H1.out _).mono ?_
    rintro e w2 ⟨rfl, hq2⟩
    go_wp2_with fail
    refine (H2.out _).mono ?_
    rintro e w3 ⟨rfl, hq3⟩
    go_wp2_with fail
    refine (H3.out _).mono ?_
    rintro e w4 ⟨rfl, hq4⟩
    go_wp2_with fail
    refine (lives2_any _).mono ?_
    rintro e w5 ⟨rfl, hq5⟩
    go_wp2_with fail
    go_ret
    exact ⟨rfl, (((hq1.trans hq2).trans hq3).trans hq4).trans hq5⟩

set_option maxRecDepth 100000 in
theorem lifted (os : Os) (started : os.Started) (H : Type) (enc : TypeId × Value → H) :
    ReturnsInHanded {} Try.checked os 5 .any (Rows.classHangulSpec.pre6 enc Try.prog Try.f5 Rows.classHangulRow.domain false) (Rows.classHangulSpec.post enc Try.prog Try.f5 false true false false) := by
  refine returnsInHanded_of_change (C := Try.checked) own started (by kernel_rfl) Try.func5
    (ChangeSpec.witness6 (enc := enc) (C := Try.checked) false ⟨#[], #[.int .i64 0, .int .i64 0, .int .i64 0], []⟩ 8 (by kernel_rfl) (by kernel_rfl) (by kernel_rfl) (by kernel_rfl)) ?_
  intro W base args ds gs before hval0 hW hcnd _
  have hval : ∀ (j : Nat) t v, Try.f5.params[j]? = some t → args[j]? = some v → Value.okWide Try.prog W .any base t v := hval0
  have hW' := hW
  obtain ⟨p, q, hA0, hV, rfl, hfz, hnd⟩ := hW
  have hA : DataW.TrodAll enc Try.prog W 0 (fun _ => true) true Try.f5.params.toList args.toList ds p := hA0
  rw [Try.params5] at hA hval
  obtain ⟨v0, vs0, d0, ds0, p0, q0, hargs, rfl, rfl, h0, r0⟩ := trodAll_cons hA
  obtain ⟨v1, vs1, d1, ds1, p1, q1, rfl, rfl, rfl, h1, r1⟩ := trodAll_cons r0
  obtain ⟨v2, vs2, d2, ds2, p2, q2, rfl, rfl, rfl, h2, r2⟩ := trodAll_cons r1
  obtain ⟨rfl, rfl, rfl⟩ := trodAll_nil r2
  obtain rfl : args = #[v0, v1, v2] := by cases args; simp_all
  obtain ⟨rfl, rfl⟩ := trodVars_none hV
  obtain ⟨a0, rfl, rfl, rfl, w0⟩ := open_int Try.underlying3 (hval 0 3 v0 rfl rfl) h0
  obtain ⟨a1, rfl, rfl, rfl, w1⟩ := open_int Try.underlying3 (hval 1 3 v1 rfl rfl) h1
  obtain ⟨a2, rfl, rfl, rfl, w2⟩ := open_int Try.underlying3 (hval 2 3 v2 rfl rfl) h2
  clear hA0 hval0
  refine (walk W a0 (bounds_i64 w0) a1 (bounds_i64 w1) a2 (bounds_i64 w2)).mono fun e W' ⟨he, bel⟩ => ?_
  subst he
  exact ⟨_, rfl, _, _, _, [], _, [], hW', trodAll_mk1 (shut_bool Try.underlying4 _), (trodAll_cons_mk (shut_int Try.underlying3 w0) (trodAll_cons_mk (shut_int Try.underlying3 w1) (trodAll_cons_mk (shut_int Try.underlying3 w2) trodAll_mk0))), rfl, bel.below.frame _, fun h => by cases h⟩

/-- The statement. -/
theorem proved : Rows.ClassHangulSaid :=
  OpenClaim.holds_of_wide 5 Try.f5 rfl rfl rfl rfl rfl rfl rfl ⟨rfl, rfl, rfl, rfl, rfl⟩ rfl rfl rfl rfl rfl (by kernel_rfl) Try.func5 (by kernel_rfl)
    (of_decide_eq_true (by kernel_rfl)) (by unfold Func.isWrapper; first | (rw [if_pos (by decide +kernel)]; kernel_rfl) | (rw [if_neg (by decide +kernel)]; exact ⟨rfl, rfl⟩))
    (fun os started H enc _ => lifted os started H enc)
#print axioms proved
end Go.Proofs.Ythafeggcmojbdaa.classHangul
