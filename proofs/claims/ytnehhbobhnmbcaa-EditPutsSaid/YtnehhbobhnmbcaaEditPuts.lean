/- EditPuts: what comes of a clip that is put in is the document's, sign and all, or it is refused: of whatever state (the first eight numbers of each list; raw, and made one that may be, and that with all atoms selected), whatever limits (made such) and whatever clip (the first five numbers, made atoms); no conditions. -/
import Derived.Test.YtnehhbobhnmbcaaRows
import Derived.WalkKit
import Derived.ProofKit
import Derived.OpenShut
import Derived.ShutString
import Derived.ChangeOld
import Derived.Below
import Derived.Lib.SmallJoins
import Derived.Test.YtnehhbobhnmbcaaR00
import Derived.Test.YtnehhbobhnmbcaaR02
import Derived.Test.YtnehhbobhnmbcaaR46
set_option linter.unusedVariables false
set_option linter.unusedSimpArgs false
namespace Go.Proofs.Ytnehhbobhnmbcaa.editPuts
open Go.ChangeShapes Go.WideShapes Go.ChangeAt Go.RowKit
open Go.ChangeMaps (open_string shut_string)

theorem own : ownKnob Try.prog.godebug = none := by kernel_rfl
theorem laidOut : laidOutB Try.prog = true := by kernel_rfl


set_option maxHeartbeats 8000000 in
set_option maxRecDepth 100000 in
theorem walk (w : World) (g0_0 : Bool) (f0_1 : Value) (xs0_1 : List Int) (w0_1 : Lst w f0_1 xs0_1) (b0_1 : ∀ n ∈ xs0_1, -9223372036854775808 ≤ n ∧ n ≤ 9223372036854775807) (g0_2 : Bool) (f0_3 : Value) (xs0_3 : List Int) (w0_3 : Lst w f0_3 xs0_3) (b0_3 : ∀ n ∈ xs0_3, -9223372036854775808 ≤ n ∧ n ≤ 9223372036854775807) (s0_4 : Int) (ws0_4 : -9223372036854775808 ≤ s0_4 ∧ s0_4 ≤ 9223372036854775807) (s0_5 : Int) (ws0_5 : -9223372036854775808 ≤ s0_5 ∧ s0_5 ≤ 9223372036854775807) (s1_0 : Int) (ws1_0 : -9223372036854775808 ≤ s1_0 ∧ s1_0 ≤ 9223372036854775807) (s1_1 : Int) (ws1_1 : -9223372036854775808 ≤ s1_1 ∧ s1_1 ≤ 9223372036854775807) (g1_2 : Bool) (g2_0 : Bool) (f2_1 : Value) (xs2_1 : List Int) (w2_1 : Lst w f2_1 xs2_1) (b2_1 : ∀ n ∈ xs2_1, -9223372036854775808 ≤ n ∧ n ≤ 9223372036854775807) :
    Calls Try.prog 3 #[.agg #[.bool g0_0, f0_1, .bool g0_2, f0_3, .int .i64 s0_4, .int .i64 s0_5], .agg #[.int .i64 s1_0, .int .i64 s1_1, .bool g1_2], .agg #[.bool g2_0, f2_1]] w fun e w' => e = .returned (.bool true) ∧ Q w w' := by
  obtain ⟨A0, C0, rfl, ha0, hc0⟩ := w0_1.shape2
  obtain ⟨E0, G0, rfl, he0, hg0⟩ := w0_3.shape2
  obtain ⟨A2, C2, rfl, ha2, hc2⟩ := w2_1.shape2
  exact El.law_puts g0_0 g0_2 A0 E0 xs0_1.length xs0_3.length C0 G0 xs0_1 xs0_3 s0_4 s0_5 s1_0 s1_1 g1_2 g2_0 A2 xs2_1.length C2 xs2_1 w w0_1 w0_3 rfl rfl b0_1 b0_3 ws0_4 ws0_5 ws1_0 ws1_1 w2_1 rfl b2_1

set_option maxRecDepth 100000 in
theorem lifted (os : Os) (started : os.Started) (H : Type) (enc : TypeId × Value → H) :
    ReturnsInHanded {} Try.checked os 3 .any (Rows.editPutsSpec.pre6 enc Try.prog Try.f3 Rows.editPutsRow.domain false) (Rows.editPutsSpec.post enc Try.prog Try.f3 false true false false) := by
  refine returnsInHanded_of_change (C := Try.checked) own started (by kernel_rfl) Try.func3
    (ChangeSpec.witness6 (enc := enc) (C := Try.checked) false ⟨#[], #[.agg #[.bool false, .slice none 0 0, .bool false, .slice none 0 0, .int .i64 0, .int .i64 0], .agg #[.int .i64 0, .int .i64 0, .bool false], .agg #[.bool false, .slice none 0 0]], []⟩ 8 (by kernel_rfl) (by kernel_rfl) (by kernel_rfl) (by kernel_rfl)) ?_
  intro W base args ds gs before hval0 hW hcnd _
  have hval : ∀ (j : Nat) t v, Try.f3.params[j]? = some t → args[j]? = some v → Value.okWide Try.prog W .any base t v := hval0
  have hW' := hW
  obtain ⟨p, q, hA0, hV, rfl, hfz, hnd⟩ := hW
  have hA : DataW.TrodAll enc Try.prog W 0 (fun _ => true) true Try.f3.params.toList args.toList ds p := hA0
  rw [Try.params3] at hA hval
  obtain ⟨v0, vs0, d0, ds0, p0, q0, hargs, rfl, rfl, h0, r0⟩ := trodAll_cons hA
  obtain ⟨v1, vs1, d1, ds1, p1, q1, rfl, rfl, rfl, h1, r1⟩ := trodAll_cons r0
  obtain ⟨v2, vs2, d2, ds2, p2, q2, rfl, rfl, rfl, h2, r2⟩ := trodAll_cons r1
  obtain ⟨rfl, rfl, rfl⟩ := trodAll_nil r2
  obtain rfl : args = #[v0, v1, v2] := by cases args; simp_all
  obtain ⟨rfl, rfl⟩ := trodVars_none hV
  have k0 := h0
  have lt0 : ∀ x ∈ p0, x.block < W.heap.size := by obtain ⟨m, hm⟩ := k0; exact DataW.trod_lt m _ _ _ hm
  obtain ⟨cs0, rfl, hc0, hf0⟩ := FrH.open_any Try.underlying26 (k := 6) (by kernel_rfl) (hval 0 26 v0 rfl rfl) h0
  obtain ⟨f0_0, f0_1, f0_2, f0_3, f0_4, f0_5, rfl⟩ := FrH.arr6 hc0
  have hn0_1 := FrH.nest Try.underlying26 hf0 0 rfl 0 4 rfl (T := 24) rfl (by kernel_rfl) (l := [f0_0, f0_1, f0_2, f0_3]) rfl
  have hn0_2 := FrH.nest Try.underlying24 hn0_1 0 rfl 0 1 rfl (T := 4) rfl (by kernel_rfl) (l := [f0_0]) rfl
  have hn0_3 := FrH.nest Try.underlying24 hn0_1 1 rfl 1 1 rfl (T := 22) rfl (by kernel_rfl) (l := [f0_1]) rfl
  have hn0_4 := FrH.nest Try.underlying24 hn0_1 2 rfl 2 1 rfl (T := 4) rfl (by kernel_rfl) (l := [f0_2]) rfl
  have hn0_5 := FrH.nest Try.underlying24 hn0_1 3 rfl 3 1 rfl (T := 22) rfl (by kernel_rfl) (l := [f0_3]) rfl
  have hn0_6 := FrH.nest Try.underlying26 hf0 1 rfl 4 1 rfl (T := 3) rfl (by kernel_rfl) (l := [f0_4]) rfl
  have hn0_7 := FrH.nest Try.underlying26 hf0 2 rfl 5 1 rfl (T := 3) rfl (by kernel_rfl) (l := [f0_5]) rfl
  obtain ⟨g0_0, rfl⟩ := FrH.bool_of Try.underlying4 hn0_2
  obtain ⟨xs0_1, w0_1, b0_1⟩ := FrH.lst_of Try.underlying22 Try.underlying3 (by kernel_rfl) hn0_3
  obtain ⟨g0_2, rfl⟩ := FrH.bool_of Try.underlying4 hn0_4
  obtain ⟨xs0_3, w0_3, b0_3⟩ := FrH.lst_of Try.underlying22 Try.underlying3 (by kernel_rfl) hn0_5
  obtain ⟨s0_4, rfl, ws0_4⟩ := FrH.int_of Try.underlying3 hn0_6
  obtain ⟨s0_5, rfl, ws0_5⟩ := FrH.int_of Try.underlying3 hn0_7
  have k1 := h1
  have lt1 : ∀ x ∈ p1, x.block < W.heap.size := by obtain ⟨m, hm⟩ := k1; exact DataW.trod_lt m _ _ _ hm
  obtain ⟨cs1, rfl, hc1, hf1⟩ := FrH.open_any Try.underlying28 (k := 3) (by kernel_rfl) (hval 1 28 v1 rfl rfl) h1
  obtain ⟨f1_0, f1_1, f1_2, rfl⟩ := FrH.arr3 hc1
  have hn1_1 := FrH.nest Try.underlying28 hf1 0 rfl 0 1 rfl (T := 3) rfl (by kernel_rfl) (l := [f1_0]) rfl
  have hn1_2 := FrH.nest Try.underlying28 hf1 1 rfl 1 1 rfl (T := 3) rfl (by kernel_rfl) (l := [f1_1]) rfl
  have hn1_3 := FrH.nest Try.underlying28 hf1 2 rfl 2 1 rfl (T := 4) rfl (by kernel_rfl) (l := [f1_2]) rfl
  obtain ⟨s1_0, rfl, ws1_0⟩ := FrH.int_of Try.underlying3 hn1_1
  obtain ⟨s1_1, rfl, ws1_1⟩ := FrH.int_of Try.underlying3 hn1_2
  obtain ⟨g1_2, rfl⟩ := FrH.bool_of Try.underlying4 hn1_3
  have k2 := h2
  have lt2 : ∀ x ∈ p2, x.block < W.heap.size := by obtain ⟨m, hm⟩ := k2; exact DataW.trod_lt m _ _ _ hm
  obtain ⟨cs2, rfl, hc2, hf2⟩ := FrH.open_any Try.underlying30 (k := 2) (by kernel_rfl) (hval 2 30 v2 rfl rfl) h2
  obtain ⟨f2_0, f2_1, rfl⟩ := FrH.arr2 hc2
  have hn2_1 := FrH.nest Try.underlying30 hf2 0 rfl 0 1 rfl (T := 4) rfl (by kernel_rfl) (l := [f2_0]) rfl
  have hn2_2 := FrH.nest Try.underlying30 hf2 1 rfl 1 1 rfl (T := 22) rfl (by kernel_rfl) (l := [f2_1]) rfl
  obtain ⟨g2_0, rfl⟩ := FrH.bool_of Try.underlying4 hn2_1
  obtain ⟨xs2_1, w2_1, b2_1⟩ := FrH.lst_of Try.underlying22 Try.underlying3 (by kernel_rfl) hn2_2
  clear hA0 hval0
  refine (walk W g0_0 f0_1 xs0_1 w0_1 b0_1 g0_2 f0_3 xs0_3 w0_3 b0_3 s0_4 ws0_4 s0_5 ws0_5 s1_0 ws1_0 s1_1 ws1_1 g1_2 g2_0 f2_1 xs2_1 w2_1 b2_1).mono fun e W' ⟨he, bel⟩ => ?_
  subst he
  exact ⟨_, rfl, _, _, _, [], _, [], hW', trodAll_mk1 (shut_bool Try.underlying4 _), (trodAll_cons_mk (Below.trod laidOut (by kernel_rfl) (of_decide_eq_true (by kernel_rfl)) k0 bel lt0) (trodAll_cons_mk (Below.trod laidOut (by kernel_rfl) (of_decide_eq_true (by kernel_rfl)) k1 bel lt1) (trodAll_cons_mk (Below.trod laidOut (by kernel_rfl) (of_decide_eq_true (by kernel_rfl)) k2 bel lt2) trodAll_mk0))), rfl, bel.below.frame _, fun h => by cases h⟩

/-- The statement. -/
theorem proved : Rows.EditPutsSaid :=
  OpenClaim.holds_of_wide 3 Try.f3 rfl rfl rfl rfl rfl rfl rfl ⟨rfl, rfl, rfl, rfl, rfl⟩ rfl rfl rfl rfl rfl (by kernel_rfl) Try.func3 (by kernel_rfl)
    (of_decide_eq_true (by kernel_rfl)) (by unfold Func.isWrapper; first | (rw [if_pos (by decide +kernel)]; kernel_rfl) | (rw [if_neg (by decide +kernel)]; exact ⟨rfl, rfl⟩))
    (fun os started H enc _ => lifted os started H enc)
#print axioms proved
end Go.Proofs.Ytnehhbobhnmbcaa.editPuts
