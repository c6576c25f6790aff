/- PasteLong: a text of more than 4096 bytes is refused ahead of all else, and one of 4096 is read: by whatever locale (one of the forty, or one made so), of whatever number of sevens, made 4090 to 4100; no conditions. Condition: the package-level variables that the row lists hold at the call what the program's text lays in them (the card ties them to that text; that nothing else writes them is the translator's report, over the seat's pruned copy of the project). -/
import Derived.Test.YteggfkbnnmpcjaaGreatDoorRows
import Derived.WalkKit
import Derived.ProofKit
import Derived.OpenShut
import Derived.ShutString
import Derived.ChangeOld
import Derived.Below
import Derived.Lib.SmallJoins
import Derived.Test.YteggfkbnnmpcjaaGreatDoorR00
import Derived.SevenTiedAt
import Derived.Handed
import Derived.Test.YteggfkbnnmpcjaaGreatDoorCards
import Derived.Test.YteggfkbnnmpcjaaGreatDoorTie
import Derived.Test.YteggfkbnnmpcjaaGreatDoorR05
import Derived.Test.YteggfkbnnmpcjaaGreatDoorR02
import Derived.Test.YteggfkbnnmpcjaaGreatDoorR45
import Derived.Test.YteggfkbnnmpcjaaGreatDoorR58
set_option linter.unusedVariables false
set_option linter.unusedSimpArgs false
namespace Go.Proofs.YteggfkbnnmpcjaaGreatDoor.pasteLong
open Go.ChangeShapes Go.WideShapes Go.ChangeAt Go.RowKit
open Go.ChangeMaps (open_string shut_string)

theorem own : ownKnob Tryz.prog.godebug = none := by kernel_rfl
theorem laidOut : laidOutB Tryz.prog = true := by kernel_rfl


set_option maxHeartbeats 8000000 in
set_option maxRecDepth 100000 in
theorem walk (w : World) (s0_0 : Int) (ws0_0 : -9223372036854775808 ≤ s0_0 ∧ s0_0 ≤ 9223372036854775807) (s0_1 : Int) (ws0_1 : -9223372036854775808 ≤ s0_1 ∧ s0_1 ≤ 9223372036854775807) (s0_2 : Int) (ws0_2 : -9223372036854775808 ≤ s0_2 ∧ s0_2 ≤ 9223372036854775807) (s0_3 : Int) (ws0_3 : -9223372036854775808 ≤ s0_3 ∧ s0_3 ≤ 9223372036854775807) (s0_4 : Int) (ws0_4 : -9223372036854775808 ≤ s0_4 ∧ s0_4 ≤ 9223372036854775807) (s0_5 : Int) (ws0_5 : -9223372036854775808 ≤ s0_5 ∧ s0_5 ≤ 9223372036854775807) (a1 : Int) (w1 : -9223372036854775808 ≤ a1 ∧ a1 ≤ 9223372036854775807) (a2 : Int) (w2 : -9223372036854775808 ≤ a2 ∧ a2 ≤ 9223372036854775807) :
    Calls Tryz.prog 6 #[.agg #[.int .i64 s0_0, .int .i64 s0_1, .int .i64 s0_2, .int .i64 s0_3, .int .i64 s0_4, .int .i64 s0_5], .int .i64 a1, .int .i64 a2] w fun e w' => e = .returned (.bool true) ∧ Q w w' := by
  exact Ps.law_long s0_0 s0_1 s0_2 s0_3 s0_4 s0_5 a1 a2 w ws0_0 ws0_1 ws0_2 ws0_3 ws0_4 ws0_5 w1 w2

set_option maxRecDepth 100000 in
theorem lifted (os : Os) (started : os.Started) (H : Type) (enc : TypeId × Value → H) :
    ReturnsInHanded {} Tryz.checked os 6 .any (fun w args => (Rows.pasteLongSpec.pre enc Tryz.prog Tryz.f6 [] false w args ∧ laidMetH Tryz.prog laidL w) ∧ sizedMet enc Tryz.prog Tryz.f6 (OpenSpec.ofChange Rows.pasteLongSpec) false w args)
      (Rows.pasteLongSpec.post enc Tryz.prog Tryz.f6 false true false false) := by
  refine returnsInHanded_of_change_and (C := Tryz.checked) (X := fun w _ => laidMetH Tryz.prog laidL w) (fun _ _ _ hh h => h.of_heap hh) own started (by kernel_rfl) Tryz.func6
    (ChangeSpec.witness_at (enc := enc) (C := Tryz.checked) (os := os) (X := fun w _ => laidMetH Tryz.prog laidL w) false (laidWorld os) #[.agg #[.int .i64 0, .int .i64 0, .int .i64 0, .int .i64 0, .int .i64 0, .int .i64 0], .int .i64 0, .int .i64 0] 8 rfl (by kernel_rfl) (by kernel_rfl) (by kernel_rfl) (by kernel_rfl) (by kernel_rfl) (laidWorld_met os _)) ?_
  intro W base args ds gs before hval0 hW _ _ hL _
  have hval : ∀ (j : Nat) t v, Tryz.f6.params[j]? = some t → args[j]? = some v → Value.okWide Tryz.prog W .any base t v := hval0
  have hW' := hW
  obtain ⟨p, q, hA0, hV, rfl, hfz, hnd⟩ := hW
  have hA : DataW.TrodAll enc Tryz.prog W 0 (fun _ => true) true Tryz.f6.params.toList args.toList ds p := hA0
  rw [Tryz.params6] at hA hval
  obtain ⟨v0, vs0, d0, ds0, p0, q0, hargs, rfl, rfl, h0, r0⟩ := trodAll_cons hA
  obtain ⟨v1, vs1, d1, ds1, p1, q1, rfl, rfl, rfl, h1, r1⟩ := trodAll_cons r0
  obtain ⟨v2, vs2, d2, ds2, p2, q2, rfl, rfl, rfl, h2, r2⟩ := trodAll_cons r1
  obtain ⟨rfl, rfl, rfl⟩ := trodAll_nil r2
  obtain rfl : args = #[v0, v1, v2] := by cases args; simp_all
  obtain ⟨rfl, rfl⟩ := trodVars_none hV
  have k0 := h0
  have lt0 : ∀ x ∈ p0, x.block < W.heap.size := by obtain ⟨m, hm⟩ := k0; exact DataW.trod_lt m _ _ _ hm
  obtain ⟨cs0, rfl, hc0, hf0⟩ := FrG.open_fields Tryz.underlying23 (by kernel_rfl) (by kernel_rfl) (hval 0 23 v0 rfl rfl) h0
  obtain ⟨f0_0, f0_1, f0_2, f0_3, f0_4, f0_5, rfl⟩ := Ro.arr6 hc0
  obtain ⟨s0_0, rfl, ws0_0⟩ := FrG.int_of Tryz.underlying3 (hf0 0 _ _ rfl rfl)
  obtain ⟨s0_1, rfl, ws0_1⟩ := FrG.int_of Tryz.underlying3 (hf0 1 _ _ rfl rfl)
  obtain ⟨s0_2, rfl, ws0_2⟩ := FrG.int_of Tryz.underlying3 (hf0 2 _ _ rfl rfl)
  obtain ⟨s0_3, rfl, ws0_3⟩ := FrG.int_of Tryz.underlying3 (hf0 3 _ _ rfl rfl)
  obtain ⟨s0_4, rfl, ws0_4⟩ := FrG.int_of Tryz.underlying3 (hf0 4 _ _ rfl rfl)
  obtain ⟨s0_5, rfl, ws0_5⟩ := FrG.int_of Tryz.underlying3 (hf0 5 _ _ rfl rfl)
  obtain ⟨a1, rfl, rfl, rfl, w1⟩ := open_int Tryz.underlying3 (hval 1 3 v1 rfl rfl) h1
  obtain ⟨a2, rfl, rfl, rfl, w2⟩ := open_int Tryz.underlying3 (hval 2 3 v2 rfl rfl) h2
  clear hA0 hval0
  refine (walk W s0_0 ws0_0 s0_1 ws0_1 s0_2 ws0_2 s0_3 ws0_3 s0_4 ws0_4 s0_5 ws0_5 a1 (bounds_i64 w1) a2 (bounds_i64 w2)).mono fun e W' ⟨he, bel⟩ => ?_
  subst he
  exact ⟨_, rfl, _, _, _, [], _, [], hW', trodAll_mk1 (shut_bool Tryz.underlying4 _), (trodAll_cons_mk (Below.trod laidOut (by kernel_rfl) (of_decide_eq_true (by kernel_rfl)) k0 bel lt0) (trodAll_cons_mk (shut_int Tryz.underlying3 w1) (trodAll_cons_mk (shut_int Tryz.underlying3 w2) trodAll_mk0))), rfl, bel.below.frame _, fun h => by cases h⟩

/-- The row. -/
theorem row : Rows.PasteLongSaid :=
  OpenClaim.holds_of_wide 6 Tryz.f6 rfl rfl rfl rfl rfl rfl rfl ⟨rfl, rfl, rfl, rfl, rfl⟩ rfl rfl rfl rfl rfl (by kernel_rfl) Tryz.func6 (by kernel_rfl)
    (of_decide_eq_true (by kernel_rfl)) (by unfold Func.isWrapper; first | (rw [if_pos (by decide +kernel)]; kernel_rfl) | (rw [if_neg (by decide +kernel)]; exact ⟨rfl, rfl⟩))
    (fun os started H enc _ => lifted os started H enc)
/-- The statement: the row, tied. -/
theorem proved : Rows.PasteLongCardSaid :=
  Claim7.holds_tied_plain_at .later [] [.data, .pinned] true (true, "bfccb7a770af46ed0ee6ffb208c706769f1f69c336aad148ac82fb4fc26ff202") true
    row (fun _ h => by cases h) (by kernel_rfl) (fun _ h => by cases h) pasteLong_row_tie rfl ⟨rfl, rfl⟩ (by kernel_rfl) rfl
    (fun f fn hf hfn => by
      obtain rfl : f = 6 := Option.some.inj ((show Tryz.prog.funcNamed Rows.pasteLongRow.func = some 6 by kernel_rfl).symm.trans hf) |>.symm
      obtain rfl : fn = Tryz.f6 := (Option.some.inj (Tryz.func6.symm.trans hfn)).symm
      refine ⟨by kernel_rfl, fun j t ht => ?_⟩
      rw [Tryz.params6] at ht
      have h3 : t = 3 ∨ t = 23 := by
        rcases j with _ | _ | _ | _ <;> simp at ht <;> simp [← ht]
      rcases h3 with rfl | rfl
      · exact (show Tryz.prog.wantsStandIn 3 = false by kernel_rfl)
      · exact (show Tryz.prog.wantsStandIn 23 = false by kernel_rfl))
    (by kernel_rfl)
#print axioms proved
end Go.Proofs.YteggfkbnnmpcjaaGreatDoor.pasteLong
