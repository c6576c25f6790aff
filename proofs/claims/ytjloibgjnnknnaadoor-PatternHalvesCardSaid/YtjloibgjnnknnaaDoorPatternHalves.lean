/- PatternHalves: a pattern without a second half is that whose second half has a minus ahead of the prefix, of whatever pattern's text of one half made of any. Condition: the package-level variables that the row lists hold at the call what the program's text lays in them (the card ties them to that text; that nothing else writes them is the translator's report, over the seat's pruned copy of the project). -/
import Derived.Test.YtjloibgjnnknnaaDoorRows
import Derived.WalkKit
import Derived.ProofKit
import Derived.OpenShut
import Derived.ShutString
import Derived.ChangeOld
import Derived.Below
import Derived.Lib.SmallJoins
import Derived.Test.YtjloibgjnnknnaaDoorInts
import Derived.SevenTiedAt
import Derived.Handed
import Derived.Test.YtjloibgjnnknnaaDoorCards
import Derived.Test.YtjloibgjnnknnaaDoorTie
import Derived.Test.YtjloibgjnnknnaaDoorCardP
import Derived.Test.YtjloibgjnnknnaaDoorFrG
import Derived.Test.YtjloibgjnnknnaaDoorPgZ
set_option linter.unusedVariables false
set_option linter.unusedSimpArgs false
namespace Go.Proofs.YtjloibgjnnknnaaDoor.patternHalves
open Go.ChangeShapes Go.WideShapes Go.ChangeAt Go.RowKit
open Go.ChangeMaps (open_string shut_string)

theorem own : ownKnob Tryd.prog.godebug = none := by kernel_rfl
theorem laidOut : laidOutB Tryd.prog = true := by kernel_rfl


set_option maxHeartbeats 8000000 in
set_option maxRecDepth 100000 in
theorem walk (w : World) (f0_0 : Value) (xs0_0 : List Int) (w0_0 : Lst w f0_0 xs0_0) (b0_0 : ∀ n ∈ xs0_0, -9223372036854775808 ≤ n ∧ n ≤ 9223372036854775807) (f0_1 : Value) (xs0_1 : List Int) (w0_1 : Lst w f0_1 xs0_1) (b0_1 : ∀ n ∈ xs0_1, -9223372036854775808 ≤ n ∧ n ≤ 9223372036854775807) (g0_2 : Bool) (f0_3 : Value) (xs0_3 : List Int) (w0_3 : Lst w f0_3 xs0_3) (b0_3 : ∀ n ∈ xs0_3, -9223372036854775808 ≤ n ∧ n ≤ 9223372036854775807) (f0_4 : Value) (xs0_4 : List Int) (w0_4 : Lst w f0_4 xs0_4) (b0_4 : ∀ n ∈ xs0_4, -9223372036854775808 ≤ n ∧ n ≤ 9223372036854775807) (s0_5 : Int) (ws0_5 : -9223372036854775808 ≤ s0_5 ∧ s0_5 ≤ 9223372036854775807) (s0_6 : Int) (ws0_6 : -9223372036854775808 ≤ s0_6 ∧ s0_6 ≤ 9223372036854775807) (s0_7 : Int) (ws0_7 : -9223372036854775808 ≤ s0_7 ∧ s0_7 ≤ 9223372036854775807) (s0_8 : Int) (ws0_8 : -9223372036854775808 ≤ s0_8 ∧ s0_8 ≤ 9223372036854775807) (s0_9 : Int) (ws0_9 : -9223372036854775808 ≤ s0_9 ∧ s0_9 ≤ 9223372036854775807) :
    Calls Tryd.prog 4 #[.agg #[f0_0, f0_1, .bool g0_2, f0_3, f0_4, .int .i64 s0_5, .int .i64 s0_6, .int .i64 s0_7, .int .i64 s0_8, .int .i64 s0_9]] w fun e w' => e = .returned (.bool true) ∧ Q w w' := by
  exact Pg.law_halves _ _ _ _ xs0_0 xs0_1 xs0_3 xs0_4 g0_2 s0_5 s0_6 s0_7 s0_8 s0_9 w w0_0 w0_1 w0_3 w0_4 b0_0 b0_1 b0_3 b0_4 ws0_5 ws0_6 ws0_7 ws0_8 ws0_9

set_option maxRecDepth 100000 in
theorem lifted (os : Os) (started : os.Started) (H : Type) (enc : TypeId × Value → H) :
    ReturnsInHanded {} Tryd.checked os 4 .any (fun w args => (Rows.patternHalvesSpec.pre enc Tryd.prog Tryd.f4 [] false w args ∧ laidMetH Tryd.prog laidL w) ∧ sizedMet enc Tryd.prog Tryd.f4 (OpenSpec.ofChange Rows.patternHalvesSpec) false w args)
      (Rows.patternHalvesSpec.post enc Tryd.prog Tryd.f4 false true false false) := by
  refine returnsInHanded_of_change_and (C := Tryd.checked) (X := fun w _ => laidMetH Tryd.prog laidL w) (fun _ _ _ hh h => h.of_heap hh) own started (by kernel_rfl) Tryd.func4
    (ChangeSpec.witness_at (enc := enc) (C := Tryd.checked) (os := os) (X := fun w _ => laidMetH Tryd.prog laidL w) false (laidWorld os) #[.agg #[.slice none 0 0, .slice none 0 0, .bool false, .slice none 0 0, .slice none 0 0, .int .i64 0, .int .i64 0, .int .i64 0, .int .i64 0, .int .i64 0]] 8 rfl (by kernel_rfl) (by kernel_rfl) (by kernel_rfl) (by kernel_rfl) (by kernel_rfl) (laidWorld_met os _)) ?_
  intro W base args ds gs before hval0 hW _ _ hL _
  have hval : ∀ (j : Nat) t v, Tryd.f4.params[j]? = some t → args[j]? = some v → Value.okWide Tryd.prog W .any base t v := hval0
  have hW' := hW
  obtain ⟨p, q, hA0, hV, rfl, hfz, hnd⟩ := hW
  have hA : DataW.TrodAll enc Tryd.prog W 0 (fun _ => true) true Tryd.f4.params.toList args.toList ds p := hA0
  rw [Tryd.params4] at hA hval
  obtain ⟨v0, vs0, d0, ds0, p0, q0, hargs, rfl, rfl, h0, r0⟩ := trodAll_cons hA
  obtain ⟨rfl, rfl, rfl⟩ := trodAll_nil r0
  obtain rfl : args = #[v0] := by cases args; simp_all
  obtain ⟨rfl, rfl⟩ := trodVars_none hV
  have k0 := h0
  have lt0 : ∀ x ∈ p0, x.block < W.heap.size := by obtain ⟨m, hm⟩ := k0; exact DataW.trod_lt m _ _ _ hm
  obtain ⟨cs0, rfl, hc0, hf0⟩ := FrG.open_fields Tryd.underlying36 (by kernel_rfl) (by kernel_rfl) (hval 0 36 v0 rfl rfl) h0
  obtain ⟨f0_0, f0_1, f0_2, f0_3, f0_4, f0_5, f0_6, f0_7, f0_8, f0_9, rfl⟩ := FrG.arr10 hc0
  obtain ⟨xs0_0, w0_0, b0_0⟩ := FrG.lst_of Tryd.underlying34 Tryd.underlying3 (by kernel_rfl) (hf0 0 _ _ rfl rfl)
  obtain ⟨xs0_1, w0_1, b0_1⟩ := FrG.lst_of Tryd.underlying34 Tryd.underlying3 (by kernel_rfl) (hf0 1 _ _ rfl rfl)
  obtain ⟨g0_2, rfl⟩ := FrG.bool_of Tryd.underlying4 (hf0 2 _ _ rfl rfl)
  obtain ⟨xs0_3, w0_3, b0_3⟩ := FrG.lst_of Tryd.underlying34 Tryd.underlying3 (by kernel_rfl) (hf0 3 _ _ rfl rfl)
  obtain ⟨xs0_4, w0_4, b0_4⟩ := FrG.lst_of Tryd.underlying34 Tryd.underlying3 (by kernel_rfl) (hf0 4 _ _ rfl rfl)
  obtain ⟨s0_5, rfl, ws0_5⟩ := FrG.int_of Tryd.underlying3 (hf0 5 _ _ rfl rfl)
  obtain ⟨s0_6, rfl, ws0_6⟩ := FrG.int_of Tryd.underlying3 (hf0 6 _ _ rfl rfl)
  obtain ⟨s0_7, rfl, ws0_7⟩ := FrG.int_of Tryd.underlying3 (hf0 7 _ _ rfl rfl)
  obtain ⟨s0_8, rfl, ws0_8⟩ := FrG.int_of Tryd.underlying3 (hf0 8 _ _ rfl rfl)
  obtain ⟨s0_9, rfl, ws0_9⟩ := FrG.int_of Tryd.underlying3 (hf0 9 _ _ rfl rfl)
  clear hA0 hval0
  refine (walk W f0_0 xs0_0 w0_0 b0_0 f0_1 xs0_1 w0_1 b0_1 g0_2 f0_3 xs0_3 w0_3 b0_3 f0_4 xs0_4 w0_4 b0_4 s0_5 ws0_5 s0_6 ws0_6 s0_7 ws0_7 s0_8 ws0_8 s0_9 ws0_9).mono fun e W' ⟨he, bel⟩ => ?_
  subst he
  exact ⟨_, rfl, _, _, _, [], _, [], hW', trodAll_mk1 (shut_bool Tryd.underlying4 _), (trodAll_cons_mk (Below.trod laidOut (by kernel_rfl) (of_decide_eq_true (by kernel_rfl)) k0 bel lt0) trodAll_mk0), rfl, bel.below.frame _, fun h => by cases h⟩

/-- The row. -/
theorem row : Rows.PatternHalvesSaid :=
  OpenClaim.holds_of_wide 4 Tryd.f4 rfl rfl rfl rfl rfl rfl rfl ⟨rfl, rfl, rfl, rfl, rfl⟩ rfl rfl rfl rfl rfl (by kernel_rfl) Tryd.func4 (by kernel_rfl)
    (of_decide_eq_true (by kernel_rfl)) (by unfold Func.isWrapper; first | (rw [if_pos (by decide +kernel)]; kernel_rfl) | (rw [if_neg (by decide +kernel)]; exact ⟨rfl, rfl⟩))
    (fun os started H enc _ => lifted os started H enc)
/-- The statement: the row, tied. -/
theorem proved : Rows.PatternHalvesCardSaid :=
  Claim7.holds_tied_plain_at .later [] [.data, .pinned] true (true, "3a5831d1583c3fdfa1d799b91bdda199c2c862da9f57e32d9c7262929cd651b5") true
    row (fun _ h => by cases h) (by kernel_rfl) (fun _ h => by cases h) patternHalves_row_tie rfl ⟨rfl, rfl⟩ (by kernel_rfl) rfl
    (fun f fn hf hfn => by
      obtain rfl : f = 4 := Option.some.inj ((show Tryd.prog.funcNamed Rows.patternHalvesRow.func = some 4 by kernel_rfl).symm.trans hf) |>.symm
      obtain rfl : fn = Tryd.f4 := (Option.some.inj (Tryd.func4.symm.trans hfn)).symm
      refine ⟨by kernel_rfl, fun j t ht => ?_⟩
      rw [Tryd.params4] at ht
      have h3 : t = 36 := by
        rcases j with _ | _ <;> simp at ht <;> simp [← ht]
      subst h3
      exact (show Tryd.prog.wantsStandIn 36 = false by kernel_rfl))
    (by kernel_rfl)
#print axioms proved
end Go.Proofs.YtjloibgjnnknnaaDoor.patternHalves
