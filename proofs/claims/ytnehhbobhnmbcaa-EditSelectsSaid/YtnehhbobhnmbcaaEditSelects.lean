/- EditSelects: what may be selected is, and the front and the back are told, and the sign is turned where there may be one, or it is refused: of whatever state (the first eight numbers of each list; raw, and made one that may be), whatever two numbers (raw, and made 0 to 12) and whatever limits; no conditions. -/
import Derived.Test.YtnehhbobhnmbcaaRows
import Derived.WalkKit
import Derived.ProofKit
import Derived.OpenShut
import Derived.ShutString
import Derived.ChangeOld
import Derived.Below
import Derived.Lib.SmallJoins
import Derived.Test.YtnehhbobhnmbcaaR00
import Derived.Test.YtnehhbobhnmbcaaR02
import Derived.Test.YtnehhbobhnmbcaaR46
set_option linter.unusedVariables false
set_option linter.unusedSimpArgs false
namespace Go.Proofs.Ytnehhbobhnmbcaa.editSelects
open Go.ChangeShapes Go.WideShapes Go.ChangeAt Go.RowKit
open Go.ChangeMaps (open_string shut_string)

theorem own : ownKnob Try.prog.godebug = none := by kernel_rfl
theorem laidOut : laidOutB Try.prog = true := by kernel_rfl


set_option maxHeartbeats 8000000 in
set_option maxRecDepth 100000 in
theorem walk (w : World) (g0_0 : Bool) (f0_1 : Value) (xs0_1 : List Int) (w0_1 : Lst w f0_1 xs0_1) (b0_1 : ∀ n ∈ xs0_1, -9223372036854775808 ≤ n ∧ n ≤ 9223372036854775807) (g0_2 : Bool) (f0_3 : Value) (xs0_3 : List Int) (w0_3 : Lst w f0_3 xs0_3) (b0_3 : ∀ n ∈ xs0_3, -9223372036854775808 ≤ n ∧ n ≤ 9223372036854775807) (s0_4 : Int) (ws0_4 : -9223372036854775808 ≤ s0_4 ∧ s0_4 ≤ 9223372036854775807) (s0_5 : Int) (ws0_5 : -9223372036854775808 ≤ s0_5 ∧ s0_5 ≤ 9223372036854775807) (a1 : Int) (w1 : -9223372036854775808 ≤ a1 ∧ a1 ≤ 9223372036854775807) (a2 : Int) (w2 : -9223372036854775808 ≤ a2 ∧ a2 ≤ 9223372036854775807) (s3_0 : Int) (ws3_0 : -9223372036854775808 ≤ s3_0 ∧ s3_0 ≤ 9223372036854775807) (s3_1 : Int) (ws3_1 : -9223372036854775808 ≤ s3_1 ∧ s3_1 ≤ 9223372036854775807) (g3_2 : Bool) :
    Calls Try.prog 6 #[.agg #[.bool g0_0, f0_1, .bool g0_2, f0_3, .int .i64 s0_4, .int .i64 s0_5], .int .i64 a1, .int .i64 a2, .agg #[.int .i64 s3_0, .int .i64 s3_1, .bool g3_2]] w fun e w' => e = .returned (.bool true) ∧ Q w w' := by
  obtain ⟨A0, C0, rfl, ha0, hc0⟩ := w0_1.shape2
  obtain ⟨E0, G0, rfl, he0, hg0⟩ := w0_3.shape2
  exact El.law_selects g0_0 g0_2 A0 E0 xs0_1.length xs0_3.length C0 G0 xs0_1 xs0_3 s0_4 s0_5 a1 a2 s3_0 s3_1 g3_2 w w0_1 w0_3 rfl rfl b0_1 b0_3 ws0_4 ws0_5 w1 w2 ws3_0 ws3_1

set_option maxRecDepth 100000 in
theorem lifted (os : Os) (started : os.Started) (H : Type) (enc : TypeId × Value → H) :
    ReturnsInHanded {} Try.checked os 6 .any (Rows.editSelectsSpec.pre6 enc Try.prog Try.f6 Rows.editSelectsRow.domain false) (Rows.editSelectsSpec.post enc Try.prog Try.f6 false true false false) := by
  refine returnsInHanded_of_change (C := Try.checked) own started (by kernel_rfl) Try.func6
    (ChangeSpec.witness6 (enc := enc) (C := Try.checked) false ⟨#[], #[.agg #[.bool false, .slice none 0 0, .bool false, .slice none 0 0, .int .i64 0, .int .i64 0], .int .i64 0, .int .i64 0, .agg #[.int .i64 0, .int .i64 0, .bool false]], []⟩ 8 (by kernel_rfl) (by kernel_rfl) (by kernel_rfl) (by kernel_rfl)) ?_
  intro W base args ds gs before hval0 hW hcnd _
  have hval : ∀ (j : Nat) t v, Try.f6.params[j]? = some t → args[j]? = some v → Value.okWide Try.prog W .any base t v := hval0
  have hW' := hW
  obtain ⟨p, q, hA0, hV, rfl, hfz, hnd⟩ := hW
  have hA : DataW.TrodAll enc Try.prog W 0 (fun _ => true) true Try.f6.params.toList args.toList ds p := hA0
  rw [Try.params6] at hA hval
  obtain ⟨v0, vs0, d0, ds0, p0, q0, hargs, rfl, rfl, h0, r0⟩ := trodAll_cons hA
  obtain ⟨v1, vs1, d1, ds1, p1, q1, rfl, rfl, rfl, h1, r1⟩ := trodAll_cons r0
  obtain ⟨v2, vs2, d2, ds2, p2, q2, rfl, rfl, rfl, h2, r2⟩ := trodAll_cons r1
  obtain ⟨v3, vs3, d3, ds3, p3, q3, rfl, rfl, rfl, h3, r3⟩ := trodAll_cons r2
  obtain ⟨rfl, rfl, rfl⟩ := trodAll_nil r3
  obtain rfl : args = #[v0, v1, v2, v3] := by cases args; simp_all
  obtain ⟨rfl, rfl⟩ := trodVars_none hV
  have k0 := h0
  have lt0 : ∀ x ∈ p0, x.block < W.heap.size := by obtain ⟨m, hm⟩ := k0; exact DataW.trod_lt m _ _ _ hm
  obtain ⟨cs0, rfl, hc0, hf0⟩ := FrH.open_any Try.underlying26 (k := 6) (by kernel_rfl) (hval 0 26 v0 rfl rfl) h0
  obtain ⟨f0_0, f0_1, f0_2, f0_3, f0_4, f0_5, rfl⟩ := FrH.arr6 hc0
  have hn0_1 := FrH.nest Try.underlying26 hf0 0 rfl 0 4 rfl (T := 24) rfl (by kernel_rfl) (l := [f0_0, f0_1, f0_2, f0_3]) rfl
  have hn0_2 := FrH.nest Try.underlying24 hn0_1 0 rfl 0 1 rfl (T := 4) rfl (by kernel_rfl) (l := [f0_0]) rfl
  have hn0_3 := FrH.nest Try.underlying24 hn0_1 1 rfl 1 1 rfl (T := 22) rfl (by kernel_rfl) (l := [f0_1]) rfl
  have hn0_4 := FrH.nest Try.underlying24 hn0_1 2 rfl 2 1 rfl (T := 4) rfl (by kernel_rfl) (l := [f0_2]) rfl
  have hn0_5 := FrH.nest Try.underlying24 hn0_1 3 rfl 3 1 rfl (T := 22) rfl (by kernel_rfl) (l := [f0_3]) rfl
  have hn0_6 := FrH.nest Try.underlying26 hf0 1 rfl 4 1 rfl (T := 3) rfl (by kernel_rfl) (l := [f0_4]) rfl
  have hn0_7 := FrH.nest Try.underlying26 hf0 2 rfl 5 1 rfl (T := 3) rfl (by kernel_rfl) (l := [f0_5]) rfl
  obtain ⟨g0_0, rfl⟩ := FrH.bool_of Try.underlying4 hn0_2
  obtain ⟨xs0_1, w0_1, b0_1⟩ := FrH.lst_of Try.underlying22 Try.underlying3 (by kernel_rfl) hn0_3
  obtain ⟨g0_2, rfl⟩ := FrH.bool_of Try.underlying4 hn0_4
  obtain ⟨xs0_3, w0_3, b0_3⟩ := FrH.lst_of Try.underlying22 Try.underlying3 (by kernel_rfl) hn0_5
  obtain ⟨s0_4, rfl, ws0_4⟩ := FrH.int_of Try.underlying3 hn0_6
  obtain ⟨s0_5, rfl, ws0_5⟩ := FrH.int_of Try.underlying3 hn0_7
  obtain ⟨a1, rfl, rfl, rfl, w1⟩ := open_int Try.underlying3 (hval 1 3 v1 rfl rfl) h1
  obtain ⟨a2, rfl, rfl, rfl, w2⟩ := open_int Try.underlying3 (hval 2 3 v2 rfl rfl) h2
  have k3 := h3
  have lt3 : ∀ x ∈ p3, x.block < W.heap.size := by obtain ⟨m, hm⟩ := k3; exact DataW.trod_lt m _ _ _ hm
  obtain ⟨cs3, rfl, hc3, hf3⟩ := FrH.open_any Try.underlying28 (k := 3) (by kernel_rfl) (hval 3 28 v3 rfl rfl) h3
  obtain ⟨f3_0, f3_1, f3_2, rfl⟩ := FrH.arr3 hc3
  have hn3_1 := FrH.nest Try.underlying28 hf3 0 rfl 0 1 rfl (T := 3) rfl (by kernel_rfl) (l := [f3_0]) rfl
  have hn3_2 := FrH.nest Try.underlying28 hf3 1 rfl 1 1 rfl (T := 3) rfl (by kernel_rfl) (l := [f3_1]) rfl
  have hn3_3 := FrH.nest Try.underlying28 hf3 2 rfl 2 1 rfl (T := 4) rfl (by kernel_rfl) (l := [f3_2]) rfl
  obtain ⟨s3_0, rfl, ws3_0⟩ := FrH.int_of Try.underlying3 hn3_1
  obtain ⟨s3_1, rfl, ws3_1⟩ := FrH.int_of Try.underlying3 hn3_2
  obtain ⟨g3_2, rfl⟩ := FrH.bool_of Try.underlying4 hn3_3
  clear hA0 hval0
  refine (walk W g0_0 f0_1 xs0_1 w0_1 b0_1 g0_2 f0_3 xs0_3 w0_3 b0_3 s0_4 ws0_4 s0_5 ws0_5 a1 (bounds_i64 w1) a2 (bounds_i64 w2) s3_0 ws3_0 s3_1 ws3_1 g3_2).mono fun e W' ⟨he, bel⟩ => ?_
  subst he
  exact ⟨_, rfl, _, _, _, [], _, [], hW', trodAll_mk1 (shut_bool Try.underlying4 _), (trodAll_cons_mk (Below.trod laidOut (by kernel_rfl) (of_decide_eq_true (by kernel_rfl)) k0 bel lt0) (trodAll_cons_mk (shut_int Try.underlying3 w1) (trodAll_cons_mk (shut_int Try.underlying3 w2) (trodAll_cons_mk (Below.trod laidOut (by kernel_rfl) (of_decide_eq_true (by kernel_rfl)) k3 bel lt3) trodAll_mk0)))), rfl, bel.below.frame _, fun h => by cases h⟩

/-- The statement. -/
theorem proved : Rows.EditSelectsSaid :=
  OpenClaim.holds_of_wide 6 Try.f6 rfl rfl rfl rfl rfl rfl rfl ⟨rfl, rfl, rfl, rfl, rfl⟩ rfl rfl rfl rfl rfl (by kernel_rfl) Try.func6 (by kernel_rfl)
    (of_decide_eq_true (by kernel_rfl)) (by unfold Func.isWrapper; first | (rw [if_pos (by decide +kernel)]; kernel_rfl) | (rw [if_neg (by decide +kernel)]; exact ⟨rfl, rfl⟩))
    (fun os started H enc _ => lifted os started H enc)
#print axioms proved
end Go.Proofs.Ytnehhbobhnmbcaa.editSelects
