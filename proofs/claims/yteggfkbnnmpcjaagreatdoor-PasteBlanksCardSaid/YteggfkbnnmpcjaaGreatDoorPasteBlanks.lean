/- PasteBlanks: blanks, put at whatever two places of what a locale shows of a draft, change nothing of what is read: by whatever locale (one of the forty, or one made so), of whatever draft made one that may be, with an atom; no conditions. Condition: the package-level variables that the row lists hold at the call what the program's text lays in them (the card ties them to that text; that nothing else writes them is the translator's report, over the seat's pruned copy of the project). -/
import Derived.Test.YteggfkbnnmpcjaaGreatDoorRows
import Derived.WalkKit
import Derived.ProofKit
import Derived.OpenShut
import Derived.ShutString
import Derived.ChangeOld
import Derived.Below
import Derived.Lib.SmallJoins
import Derived.Test.YteggfkbnnmpcjaaGreatDoorR00
import Derived.SevenTiedAt
import Derived.Handed
import Derived.Test.YteggfkbnnmpcjaaGreatDoorCards
import Derived.Test.YteggfkbnnmpcjaaGreatDoorTie
import Derived.Test.YteggfkbnnmpcjaaGreatDoorR05
import Derived.Test.YteggfkbnnmpcjaaGreatDoorR02
import Derived.Test.YteggfkbnnmpcjaaGreatDoorR45
import Derived.Test.YteggfkbnnmpcjaaGreatDoorR59
set_option linter.unusedVariables false
set_option linter.unusedSimpArgs false
namespace Go.Proofs.YteggfkbnnmpcjaaGreatDoor.pasteBlanks
open Go.ChangeShapes Go.WideShapes Go.ChangeAt Go.RowKit
open Go.ChangeMaps (open_string shut_string)

theorem own : ownKnob Tryz.prog.godebug = none := by kernel_rfl
theorem laidOut : laidOutB Tryz.prog = true := by kernel_rfl


set_option maxHeartbeats 8000000 in
set_option maxRecDepth 100000 in
theorem walk (w : World) (s0_0 : Int) (ws0_0 : -9223372036854775808 ≤ s0_0 ∧ s0_0 ≤ 9223372036854775807) (s0_1 : Int) (ws0_1 : -9223372036854775808 ≤ s0_1 ∧ s0_1 ≤ 9223372036854775807) (s0_2 : Int) (ws0_2 : -9223372036854775808 ≤ s0_2 ∧ s0_2 ≤ 9223372036854775807) (s0_3 : Int) (ws0_3 : -9223372036854775808 ≤ s0_3 ∧ s0_3 ≤ 9223372036854775807) (s0_4 : Int) (ws0_4 : -9223372036854775808 ≤ s0_4 ∧ s0_4 ≤ 9223372036854775807) (s0_5 : Int) (ws0_5 : -9223372036854775808 ≤ s0_5 ∧ s0_5 ≤ 9223372036854775807) (a1 : Int) (w1 : -9223372036854775808 ≤ a1 ∧ a1 ≤ 9223372036854775807) (g2_0 : Bool) (f2_1 : Value) (xs2_1 : List Int) (w2_1 : Lst w f2_1 xs2_1) (b2_1 : ∀ n ∈ xs2_1, -9223372036854775808 ≤ n ∧ n ≤ 9223372036854775807) (g2_2 : Bool) (f2_3 : Value) (xs2_3 : List Int) (w2_3 : Lst w f2_3 xs2_3) (b2_3 : ∀ n ∈ xs2_3, -9223372036854775808 ≤ n ∧ n ≤ 9223372036854775807) (a3 : Int) (w3 : -9223372036854775808 ≤ a3 ∧ a3 ≤ 9223372036854775807) (a4 : Int) (w4 : -9223372036854775808 ≤ a4 ∧ a4 ≤ 9223372036854775807) :
    Calls Tryz.prog 7 #[.agg #[.int .i64 s0_0, .int .i64 s0_1, .int .i64 s0_2, .int .i64 s0_3, .int .i64 s0_4, .int .i64 s0_5], .int .i64 a1, .agg #[.bool g2_0, f2_1, .bool g2_2, f2_3], .int .i64 a3, .int .i64 a4] w fun e w' => e = .returned (.bool true) ∧ Q w w' := by
  obtain ⟨A0, C0, rfl, ha0, hc0⟩ := w2_1.shape2
  obtain ⟨E0, F0, rfl, he0, hg0⟩ := w2_3.shape2
  exact Ps.law_blanks s0_0 s0_1 s0_2 s0_3 s0_4 s0_5 a1 g2_0 g2_2 A0 E0 xs2_1.length xs2_3.length C0 F0 xs2_1 xs2_3 a3 a4 w ws0_0 ws0_1 ws0_2 ws0_3 ws0_4 ws0_5 w1 w2_1 w2_3 rfl rfl b2_1 b2_3 w3 w4

set_option maxRecDepth 100000 in
theorem lifted (os : Os) (started : os.Started) (H : Type) (enc : TypeId × Value → H) :
    ReturnsInHanded {} Tryz.checked os 7 .any (fun w args => (Rows.pasteBlanksSpec.pre enc Tryz.prog Tryz.f7 [] false w args ∧ laidMetH Tryz.prog laidL w) ∧ sizedMet enc Tryz.prog Tryz.f7 (OpenSpec.ofChange Rows.pasteBlanksSpec) false w args)
      (Rows.pasteBlanksSpec.post enc Tryz.prog Tryz.f7 false true false false) := by
  refine returnsInHanded_of_change_and (C := Tryz.checked) (X := fun w _ => laidMetH Tryz.prog laidL w) (fun _ _ _ hh h => h.of_heap hh) own started (by kernel_rfl) Tryz.func7
    (ChangeSpec.witness_at (enc := enc) (C := Tryz.checked) (os := os) (X := fun w _ => laidMetH Tryz.prog laidL w) false (laidWorld os) #[.agg #[.int .i64 0, .int .i64 0, .int .i64 0, .int .i64 0, .int .i64 0, .int .i64 0], .int .i64 0, .agg #[.bool false, .slice none 0 0, .bool false, .slice none 0 0], .int .i64 0, .int .i64 0] 8 rfl (by kernel_rfl) (by kernel_rfl) (by kernel_rfl) (by kernel_rfl) (by kernel_rfl) (laidWorld_met os _)) ?_
  intro W base args ds gs before hval0 hW _ _ hL _
  have hval : ∀ (j : Nat) t v, Tryz.f7.params[j]? = some t → args[j]? = some v → Value.okWide Tryz.prog W .any base t v := hval0
  have hW' := hW
  obtain ⟨p, q, hA0, hV, rfl, hfz, hnd⟩ := hW
  have hA : DataW.TrodAll enc Tryz.prog W 0 (fun _ => true) true Tryz.f7.params.toList args.toList ds p := hA0
  rw [Tryz.params7] at hA hval
  obtain ⟨v0, vs0, d0, ds0, p0, q0, hargs, rfl, rfl, h0, r0⟩ := trodAll_cons hA
  obtain ⟨v1, vs1, d1, ds1, p1, q1, rfl, rfl, rfl, h1, r1⟩ := trodAll_cons r0
  obtain ⟨v2, vs2, d2, ds2, p2, q2, rfl, rfl, rfl, h2, r2⟩ := trodAll_cons r1
  obtain ⟨v3, vs3, d3, ds3, p3, q3, rfl, rfl, rfl, h3, r3⟩ := trodAll_cons r2
  obtain ⟨v4, vs4, d4, ds4, p4, q4, rfl, rfl, rfl, h4, r4⟩ := trodAll_cons r3
  obtain ⟨rfl, rfl, rfl⟩ := trodAll_nil r4
  obtain rfl : args = #[v0, v1, v2, v3, v4] := by cases args; simp_all
  obtain ⟨rfl, rfl⟩ := trodVars_none hV
  have k0 := h0
  have lt0 : ∀ x ∈ p0, x.block < W.heap.size := by obtain ⟨m, hm⟩ := k0; exact DataW.trod_lt m _ _ _ hm
  obtain ⟨cs0, rfl, hc0, hf0⟩ := FrG.open_fields Tryz.underlying23 (by kernel_rfl) (by kernel_rfl) (hval 0 23 v0 rfl rfl) h0
  obtain ⟨f0_0, f0_1, f0_2, f0_3, f0_4, f0_5, rfl⟩ := Ro.arr6 hc0
  obtain ⟨s0_0, rfl, ws0_0⟩ := FrG.int_of Tryz.underlying3 (hf0 0 _ _ rfl rfl)
  obtain ⟨s0_1, rfl, ws0_1⟩ := FrG.int_of Tryz.underlying3 (hf0 1 _ _ rfl rfl)
  obtain ⟨s0_2, rfl, ws0_2⟩ := FrG.int_of Tryz.underlying3 (hf0 2 _ _ rfl rfl)
  obtain ⟨s0_3, rfl, ws0_3⟩ := FrG.int_of Tryz.underlying3 (hf0 3 _ _ rfl rfl)
  obtain ⟨s0_4, rfl, ws0_4⟩ := FrG.int_of Tryz.underlying3 (hf0 4 _ _ rfl rfl)
  obtain ⟨s0_5, rfl, ws0_5⟩ := FrG.int_of Tryz.underlying3 (hf0 5 _ _ rfl rfl)
  obtain ⟨a1, rfl, rfl, rfl, w1⟩ := open_int Tryz.underlying3 (hval 1 3 v1 rfl rfl) h1
  have k2 := h2
  have lt2 : ∀ x ∈ p2, x.block < W.heap.size := by obtain ⟨m, hm⟩ := k2; exact DataW.trod_lt m _ _ _ hm
  obtain ⟨cs2, rfl, hc2, hf2⟩ := FrH.open_any Tryz.underlying43 (k := 4) (by kernel_rfl) (hval 2 43 v2 rfl rfl) h2
  obtain ⟨f2_0, f2_1, f2_2, f2_3, rfl⟩ := FrH.arr4 hc2
  have hn2_1 := FrH.nest Tryz.underlying43 hf2 0 rfl 0 1 rfl (T := 4) rfl (by kernel_rfl) (l := [f2_0]) rfl
  have hn2_2 := FrH.nest Tryz.underlying43 hf2 1 rfl 1 1 rfl (T := 41) rfl (by kernel_rfl) (l := [f2_1]) rfl
  have hn2_3 := FrH.nest Tryz.underlying43 hf2 2 rfl 2 1 rfl (T := 4) rfl (by kernel_rfl) (l := [f2_2]) rfl
  have hn2_4 := FrH.nest Tryz.underlying43 hf2 3 rfl 3 1 rfl (T := 41) rfl (by kernel_rfl) (l := [f2_3]) rfl
  obtain ⟨g2_0, rfl⟩ := FrH.bool_of Tryz.underlying4 hn2_1
  obtain ⟨xs2_1, w2_1, b2_1⟩ := FrH.lst_of Tryz.underlying41 Tryz.underlying3 (by kernel_rfl) hn2_2
  obtain ⟨g2_2, rfl⟩ := FrH.bool_of Tryz.underlying4 hn2_3
  obtain ⟨xs2_3, w2_3, b2_3⟩ := FrH.lst_of Tryz.underlying41 Tryz.underlying3 (by kernel_rfl) hn2_4
  obtain ⟨a3, rfl, rfl, rfl, w3⟩ := open_int Tryz.underlying3 (hval 3 3 v3 rfl rfl) h3
  obtain ⟨a4, rfl, rfl, rfl, w4⟩ := open_int Tryz.underlying3 (hval 4 3 v4 rfl rfl) h4
  clear hA0 hval0
  refine (walk W s0_0 ws0_0 s0_1 ws0_1 s0_2 ws0_2 s0_3 ws0_3 s0_4 ws0_4 s0_5 ws0_5 a1 (bounds_i64 w1) g2_0 f2_1 xs2_1 w2_1 b2_1 g2_2 f2_3 xs2_3 w2_3 b2_3 a3 (bounds_i64 w3) a4 (bounds_i64 w4)).mono fun e W' ⟨he, bel⟩ => ?_
  subst he
  exact ⟨_, rfl, _, _, _, [], _, [], hW', trodAll_mk1 (shut_bool Tryz.underlying4 _), (trodAll_cons_mk (Below.trod laidOut (by kernel_rfl) (of_decide_eq_true (by kernel_rfl)) k0 bel lt0) (trodAll_cons_mk (shut_int Tryz.underlying3 w1) (trodAll_cons_mk (Below.trod laidOut (by kernel_rfl) (of_decide_eq_true (by kernel_rfl)) k2 bel lt2) (trodAll_cons_mk (shut_int Tryz.underlying3 w3) (trodAll_cons_mk (shut_int Tryz.underlying3 w4) trodAll_mk0))))), rfl, bel.below.frame _, fun h => by cases h⟩

/-- The row. -/
theorem row : Rows.PasteBlanksSaid :=
  OpenClaim.holds_of_wide 7 Tryz.f7 rfl rfl rfl rfl rfl rfl rfl ⟨rfl, rfl, rfl, rfl, rfl⟩ rfl rfl rfl rfl rfl (by kernel_rfl) Tryz.func7 (by kernel_rfl)
    (of_decide_eq_true (by kernel_rfl)) (by unfold Func.isWrapper; first | (rw [if_pos (by decide +kernel)]; kernel_rfl) | (rw [if_neg (by decide +kernel)]; exact ⟨rfl, rfl⟩))
    (fun os started H enc _ => lifted os started H enc)
/-- The statement: the row, tied. -/
theorem proved : Rows.PasteBlanksCardSaid :=
  Claim7.holds_tied_plain_at .later [] [.data, .pinned] true (true, "bfccb7a770af46ed0ee6ffb208c706769f1f69c336aad148ac82fb4fc26ff202") true
    row (fun _ h => by cases h) (by kernel_rfl) (fun _ h => by cases h) pasteBlanks_row_tie rfl ⟨rfl, rfl⟩ (by kernel_rfl) rfl
    (fun f fn hf hfn => by
      obtain rfl : f = 7 := Option.some.inj ((show Tryz.prog.funcNamed Rows.pasteBlanksRow.func = some 7 by kernel_rfl).symm.trans hf) |>.symm
      obtain rfl : fn = Tryz.f7 := (Option.some.inj (Tryz.func7.symm.trans hfn)).symm
      refine ⟨by kernel_rfl, fun j t ht => ?_⟩
      rw [Tryz.params7] at ht
      have h3 : t = 3 ∨ t = 23 ∨ t = 43 := by
        rcases j with _ | _ | _ | _ | _ | _ <;> simp at ht <;> simp [← ht]
      rcases h3 with rfl | rfl | rfl
      · exact (show Tryz.prog.wantsStandIn 3 = false by kernel_rfl)
      · exact (show Tryz.prog.wantsStandIn 23 = false by kernel_rfl)
      · exact (show Tryz.prog.wantsStandIn 43 = false by kernel_rfl))
    (by kernel_rfl)
#print axioms proved
end Go.Proofs.YteggfkbnnmpcjaaGreatDoor.pasteBlanks
