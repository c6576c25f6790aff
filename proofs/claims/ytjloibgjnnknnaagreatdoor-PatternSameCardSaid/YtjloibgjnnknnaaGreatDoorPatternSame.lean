/- PatternSame: whether two patterns are the same is told as the document says, of whatever two patterns' texts made of any, and one of the first one's number with the second one's pieces. Condition: the package-level variables that the row lists hold at the call what the program's text lays in them (the card ties them to that text; that nothing else writes them is the translator's report, over the seat's pruned copy of the project). -/
import Derived.Test.YtjloibgjnnknnaaGreatDoorRows
import Derived.WalkKit
import Derived.ProofKit
import Derived.OpenShut
import Derived.ShutString
import Derived.ChangeOld
import Derived.Below
import Derived.Lib.SmallJoins
import Derived.Test.YtjloibgjnnknnaaGreatDoorInts
import Derived.SevenTiedAt
import Derived.Handed
import Derived.Test.YtjloibgjnnknnaaGreatDoorCards
import Derived.Test.YtjloibgjnnknnaaGreatDoorTie
import Derived.Test.YtjloibgjnnknnaaGreatDoorCardP
import Derived.Test.YtjloibgjnnknnaaGreatDoorPgMg
set_option linter.unusedVariables false
set_option linter.unusedSimpArgs false
namespace Go.Proofs.YtjloibgjnnknnaaGreatDoor.patternSame
open Go.ChangeShapes Go.WideShapes Go.ChangeAt Go.RowKit
open Go.ChangeMaps (open_string shut_string)

theorem own : ownKnob Tryz.prog.godebug = none := by kernel_rfl
theorem laidOut : laidOutB Tryz.prog = true := by kernel_rfl


set_option maxHeartbeats 8000000 in
set_option maxRecDepth 100000 in
theorem walk (w : World) (f0_0 : Value) (xs0_0 : List Int) (w0_0 : Lst w f0_0 xs0_0) (b0_0 : ∀ n ∈ xs0_0, -9223372036854775808 ≤ n ∧ n ≤ 9223372036854775807) (f0_1 : Value) (xs0_1 : List Int) (w0_1 : Lst w f0_1 xs0_1) (b0_1 : ∀ n ∈ xs0_1, -9223372036854775808 ≤ n ∧ n ≤ 9223372036854775807) (g0_2 : Bool) (f0_3 : Value) (xs0_3 : List Int) (w0_3 : Lst w f0_3 xs0_3) (b0_3 : ∀ n ∈ xs0_3, -9223372036854775808 ≤ n ∧ n ≤ 9223372036854775807) (f0_4 : Value) (xs0_4 : List Int) (w0_4 : Lst w f0_4 xs0_4) (b0_4 : ∀ n ∈ xs0_4, -9223372036854775808 ≤ n ∧ n ≤ 9223372036854775807) (s0_5 : Int) (ws0_5 : -9223372036854775808 ≤ s0_5 ∧ s0_5 ≤ 9223372036854775807) (s0_6 : Int) (ws0_6 : -9223372036854775808 ≤ s0_6 ∧ s0_6 ≤ 9223372036854775807) (s0_7 : Int) (ws0_7 : -9223372036854775808 ≤ s0_7 ∧ s0_7 ≤ 9223372036854775807) (s0_8 : Int) (ws0_8 : -9223372036854775808 ≤ s0_8 ∧ s0_8 ≤ 9223372036854775807) (s0_9 : Int) (ws0_9 : -9223372036854775808 ≤ s0_9 ∧ s0_9 ≤ 9223372036854775807) (f1_0 : Value) (xs1_0 : List Int) (w1_0 : Lst w f1_0 xs1_0) (b1_0 : ∀ n ∈ xs1_0, -9223372036854775808 ≤ n ∧ n ≤ 9223372036854775807) (f1_1 : Value) (xs1_1 : List Int) (w1_1 : Lst w f1_1 xs1_1) (b1_1 : ∀ n ∈ xs1_1, -9223372036854775808 ≤ n ∧ n ≤ 9223372036854775807) (g1_2 : Bool) (f1_3 : Value) (xs1_3 : List Int) (w1_3 : Lst w f1_3 xs1_3) (b1_3 : ∀ n ∈ xs1_3, -9223372036854775808 ≤ n ∧ n ≤ 9223372036854775807) (f1_4 : Value) (xs1_4 : List Int) (w1_4 : Lst w f1_4 xs1_4) (b1_4 : ∀ n ∈ xs1_4, -9223372036854775808 ≤ n ∧ n ≤ 9223372036854775807) (s1_5 : Int) (ws1_5 : -9223372036854775808 ≤ s1_5 ∧ s1_5 ≤ 9223372036854775807) (s1_6 : Int) (ws1_6 : -9223372036854775808 ≤ s1_6 ∧ s1_6 ≤ 9223372036854775807) (s1_7 : Int) (ws1_7 : -9223372036854775808 ≤ s1_7 ∧ s1_7 ≤ 9223372036854775807) (s1_8 : Int) (ws1_8 : -9223372036854775808 ≤ s1_8 ∧ s1_8 ≤ 9223372036854775807) (s1_9 : Int) (ws1_9 : -9223372036854775808 ≤ s1_9 ∧ s1_9 ≤ 9223372036854775807) :
    Calls Tryz.prog 3 #[.agg #[f0_0, f0_1, .bool g0_2, f0_3, f0_4, .int .i64 s0_5, .int .i64 s0_6, .int .i64 s0_7, .int .i64 s0_8, .int .i64 s0_9], .agg #[f1_0, f1_1, .bool g1_2, f1_3, f1_4, .int .i64 s1_5, .int .i64 s1_6, .int .i64 s1_7, .int .i64 s1_8, .int .i64 s1_9]] w fun e w' => e = .returned (.bool true) ∧ Q w w' := by
  exact Pg.law_same _ _ _ _ xs0_0 xs0_1 xs0_3 xs0_4 g0_2 s0_5 s0_6 s0_7 s0_8 s0_9 _ _ _ _ xs1_0 xs1_1 xs1_3 xs1_4 g1_2 s1_5 s1_6 s1_7 s1_8 s1_9 w w0_0 w0_1 w0_3 w0_4 b0_0 b0_1 b0_3 b0_4 ws0_5 ws0_6 ws0_7 ws0_8 ws0_9 w1_0 w1_1 w1_3 w1_4 b1_0 b1_1 b1_3 b1_4 ws1_5 ws1_6 ws1_7 ws1_8 ws1_9

set_option maxRecDepth 100000 in
theorem lifted (os : Os) (started : os.Started) (H : Type) (enc : TypeId × Value → H) :
    ReturnsInHanded {} Tryz.checked os 3 .any (fun w args => (Rows.patternSameSpec.pre enc Tryz.prog Tryz.f3 [] false w args ∧ laidMetH Tryz.prog laidL w) ∧ sizedMet enc Tryz.prog Tryz.f3 (OpenSpec.ofChange Rows.patternSameSpec) false w args)
      (Rows.patternSameSpec.post enc Tryz.prog Tryz.f3 false true false false) := by
  refine returnsInHanded_of_change_and (C := Tryz.checked) (X := fun w _ => laidMetH Tryz.prog laidL w) (fun _ _ _ hh h => h.of_heap hh) own started (by kernel_rfl) Tryz.func3
    (ChangeSpec.witness_at (enc := enc) (C := Tryz.checked) (os := os) (X := fun w _ => laidMetH Tryz.prog laidL w) false (laidWorld os) #[.agg #[.slice none 0 0, .slice none 0 0, .bool false, .slice none 0 0, .slice none 0 0, .int .i64 0, .int .i64 0, .int .i64 0, .int .i64 0, .int .i64 0], .agg #[.slice none 0 0, .slice none 0 0, .bool false, .slice none 0 0, .slice none 0 0, .int .i64 0, .int .i64 0, .int .i64 0, .int .i64 0, .int .i64 0]] 8 rfl (by kernel_rfl) (by kernel_rfl) (by kernel_rfl) (by kernel_rfl) (by kernel_rfl) (laidWorld_met os _)) ?_
  intro W base args ds gs before hval0 hW _ _ hL _
  have hval : ∀ (j : Nat) t v, Tryz.f3.params[j]? = some t → args[j]? = some v → Value.okWide Tryz.prog W .any base t v := hval0
  have hW' := hW
  obtain ⟨p, q, hA0, hV, rfl, hfz, hnd⟩ := hW
  have hA : DataW.TrodAll enc Tryz.prog W 0 (fun _ => true) true Tryz.f3.params.toList args.toList ds p := hA0
  rw [Tryz.params3] at hA hval
  obtain ⟨v0, vs0, d0, ds0, p0, q0, hargs, rfl, rfl, h0, r0⟩ := trodAll_cons hA
  obtain ⟨v1, vs1, d1, ds1, p1, q1, rfl, rfl, rfl, h1, r1⟩ := trodAll_cons r0
  obtain ⟨rfl, rfl, rfl⟩ := trodAll_nil r1
  obtain rfl : args = #[v0, v1] := by cases args; simp_all
  obtain ⟨rfl, rfl⟩ := trodVars_none hV
  have k0 := h0
  have lt0 : ∀ x ∈ p0, x.block < W.heap.size := by obtain ⟨m, hm⟩ := k0; exact DataW.trod_lt m _ _ _ hm
  obtain ⟨cs0, rfl, hc0, hf0⟩ := FrG.open_fields Tryz.underlying24 (by kernel_rfl) (by kernel_rfl) (hval 0 24 v0 rfl rfl) h0
  obtain ⟨f0_0, f0_1, f0_2, f0_3, f0_4, f0_5, f0_6, f0_7, f0_8, f0_9, rfl⟩ := FrG.arr10 hc0
  obtain ⟨xs0_0, w0_0, b0_0⟩ := FrG.lst_of Tryz.underlying22 Tryz.underlying3 (by kernel_rfl) (hf0 0 _ _ rfl rfl)
  obtain ⟨xs0_1, w0_1, b0_1⟩ := FrG.lst_of Tryz.underlying22 Tryz.underlying3 (by kernel_rfl) (hf0 1 _ _ rfl rfl)
  obtain ⟨g0_2, rfl⟩ := FrG.bool_of Tryz.underlying4 (hf0 2 _ _ rfl rfl)
  obtain ⟨xs0_3, w0_3, b0_3⟩ := FrG.lst_of Tryz.underlying22 Tryz.underlying3 (by kernel_rfl) (hf0 3 _ _ rfl rfl)
  obtain ⟨xs0_4, w0_4, b0_4⟩ := FrG.lst_of Tryz.underlying22 Tryz.underlying3 (by kernel_rfl) (hf0 4 _ _ rfl rfl)
  obtain ⟨s0_5, rfl, ws0_5⟩ := FrG.int_of Tryz.underlying3 (hf0 5 _ _ rfl rfl)
  obtain ⟨s0_6, rfl, ws0_6⟩ := FrG.int_of Tryz.underlying3 (hf0 6 _ _ rfl rfl)
  obtain ⟨s0_7, rfl, ws0_7⟩ := FrG.int_of Tryz.underlying3 (hf0 7 _ _ rfl rfl)
  obtain ⟨s0_8, rfl, ws0_8⟩ := FrG.int_of Tryz.underlying3 (hf0 8 _ _ rfl rfl)
  obtain ⟨s0_9, rfl, ws0_9⟩ := FrG.int_of Tryz.underlying3 (hf0 9 _ _ rfl rfl)
  have k1 := h1
  have lt1 : ∀ x ∈ p1, x.block < W.heap.size := by obtain ⟨m, hm⟩ := k1; exact DataW.trod_lt m _ _ _ hm
  obtain ⟨cs1, rfl, hc1, hf1⟩ := FrG.open_fields Tryz.underlying24 (by kernel_rfl) (by kernel_rfl) (hval 1 24 v1 rfl rfl) h1
  obtain ⟨f1_0, f1_1, f1_2, f1_3, f1_4, f1_5, f1_6, f1_7, f1_8, f1_9, rfl⟩ := FrG.arr10 hc1
  obtain ⟨xs1_0, w1_0, b1_0⟩ := FrG.lst_of Tryz.underlying22 Tryz.underlying3 (by kernel_rfl) (hf1 0 _ _ rfl rfl)
  obtain ⟨xs1_1, w1_1, b1_1⟩ := FrG.lst_of Tryz.underlying22 Tryz.underlying3 (by kernel_rfl) (hf1 1 _ _ rfl rfl)
  obtain ⟨g1_2, rfl⟩ := FrG.bool_of Tryz.underlying4 (hf1 2 _ _ rfl rfl)
  obtain ⟨xs1_3, w1_3, b1_3⟩ := FrG.lst_of Tryz.underlying22 Tryz.underlying3 (by kernel_rfl) (hf1 3 _ _ rfl rfl)
  obtain ⟨xs1_4, w1_4, b1_4⟩ := FrG.lst_of Tryz.underlying22 Tryz.underlying3 (by kernel_rfl) (hf1 4 _ _ rfl rfl)
  obtain ⟨s1_5, rfl, ws1_5⟩ := FrG.int_of Tryz.underlying3 (hf1 5 _ _ rfl rfl)
  obtain ⟨s1_6, rfl, ws1_6⟩ := FrG.int_of Tryz.underlying3 (hf1 6 _ _ rfl rfl)
  obtain ⟨s1_7, rfl, ws1_7⟩ := FrG.int_of Tryz.underlying3 (hf1 7 _ _ rfl rfl)
  obtain ⟨s1_8, rfl, ws1_8⟩ := FrG.int_of Tryz.underlying3 (hf1 8 _ _ rfl rfl)
  obtain ⟨s1_9, rfl, ws1_9⟩ := FrG.int_of Tryz.underlying3 (hf1 9 _ _ rfl rfl)
  clear hA0 hval0
  refine (walk W f0_0 xs0_0 w0_0 b0_0 f0_1 xs0_1 w0_1 b0_1 g0_2 f0_3 xs0_3 w0_3 b0_3 f0_4 xs0_4 w0_4 b0_4 s0_5 ws0_5 s0_6 ws0_6 s0_7 ws0_7 s0_8 ws0_8 s0_9 ws0_9 f1_0 xs1_0 w1_0 b1_0 f1_1 xs1_1 w1_1 b1_1 g1_2 f1_3 xs1_3 w1_3 b1_3 f1_4 xs1_4 w1_4 b1_4 s1_5 ws1_5 s1_6 ws1_6 s1_7 ws1_7 s1_8 ws1_8 s1_9 ws1_9).mono fun e W' ⟨he, bel⟩ => ?_
  subst he
  exact ⟨_, rfl, _, _, _, [], _, [], hW', trodAll_mk1 (shut_bool Tryz.underlying4 _), (trodAll_cons_mk (Below.trod laidOut (by kernel_rfl) (of_decide_eq_true (by kernel_rfl)) k0 bel lt0) (trodAll_cons_mk (Below.trod laidOut (by kernel_rfl) (of_decide_eq_true (by kernel_rfl)) k1 bel lt1) trodAll_mk0)), rfl, bel.below.frame _, fun h => by cases h⟩

/-- The row. -/
theorem row : Rows.PatternSameSaid :=
  OpenClaim.holds_of_wide 3 Tryz.f3 rfl rfl rfl rfl rfl rfl rfl ⟨rfl, rfl, rfl, rfl, rfl⟩ rfl rfl rfl rfl rfl (by kernel_rfl) Tryz.func3 (by kernel_rfl)
    (of_decide_eq_true (by kernel_rfl)) (by unfold Func.isWrapper; first | (rw [if_pos (by decide +kernel)]; kernel_rfl) | (rw [if_neg (by decide +kernel)]; exact ⟨rfl, rfl⟩))
    (fun os started H enc _ => lifted os started H enc)
/-- The statement: the row, tied. -/
theorem proved : Rows.PatternSameCardSaid :=
  Claim7.holds_tied_plain_at .later [] [.data, .pinned] true (true, "a464eda7718461928f662d5d4cbe6b6c66b23b5613f7044f537abd798348fe6b") true
    row (fun _ h => by cases h) (by kernel_rfl) (fun _ h => by cases h) patternSame_row_tie rfl ⟨rfl, rfl⟩ (by kernel_rfl) rfl
    (fun f fn hf hfn => by
      obtain rfl : f = 3 := Option.some.inj ((show Tryz.prog.funcNamed Rows.patternSameRow.func = some 3 by kernel_rfl).symm.trans hf) |>.symm
      obtain rfl : fn = Tryz.f3 := (Option.some.inj (Tryz.func3.symm.trans hfn)).symm
      refine ⟨by kernel_rfl, fun j t ht => ?_⟩
      rw [Tryz.params3] at ht
      have h3 : t = 24 := by
        rcases j with _ | _ | _ <;> simp at ht <;> simp [← ht]
      subst h3
      exact (show Tryz.prog.wantsStandIn 24 = false by kernel_rfl))
    (by kernel_rfl)
#print axioms proved
end Go.Proofs.YtjloibgjnnknnaaGreatDoor.patternSame
