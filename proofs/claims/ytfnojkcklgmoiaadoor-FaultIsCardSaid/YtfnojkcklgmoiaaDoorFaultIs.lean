/- The library finds the code that is in a fault, and no other one: whatever the two numbers and the texts. Condition: the package-level variables that the row lists hold at the call what the program's text lays in them (the card ties them to that text; that nothing else writes them is the translator's report, over the seat's pruned copy of the project). -/
import Derived.Test.YtfnojkcklgmoiaaDoorRows
import Derived.WalkKit
import Derived.ProofKit
import Derived.OpenShut
import Derived.ShutString
import Derived.ChangeOld
import Derived.Below
import Derived.Lib.SmallJoins
import Derived.Test.YtfnojkcklgmoiaaDoorInts
import Derived.SevenTiedAt
import Derived.Handed
import Derived.Test.YtfnojkcklgmoiaaDoorCards
import Derived.Test.YtfnojkcklgmoiaaDoorTie
import Derived.Test.YtfnojkcklgmoiaaDoorCard
import Derived.Test.YtfnojkcklgmoiaaDoorErrL
set_option linter.unusedVariables false
set_option linter.unusedSimpArgs false
namespace Go.Proofs.YtfnojkcklgmoiaaDoor.faultIs
open Go.ChangeShapes Go.WideShapes Go.ChangeAt Go.RowKit
open Go.ChangeMaps (open_string shut_string)

theorem own : ownKnob Tryd.prog.godebug = none := by kernel_rfl
theorem laidOut : laidOutB Tryd.prog = true := by kernel_rfl


set_option maxHeartbeats 8000000 in
set_option maxRecDepth 100000 in
theorem walk (w : World) (he : Fe.Env w) (a0 : Int) (w0 : -9223372036854775808 ≤ a0 ∧ a0 ≤ 9223372036854775807) (a1 : Int) (w1 : -9223372036854775808 ≤ a1 ∧ a1 ≤ 9223372036854775807) (v2 : Value) (xs2 : List ByteArray) (w2 : SLst w v2 xs2) (b2 : ∀ s ∈ xs2, s.size ≤ maxLen) (n2 : xs2.length ≤ maxLen) :
    Calls Tryd.prog 8 #[.int .i64 a0, .int .i64 a1, v2] w fun e w' => e = .returned (.bool true) ∧ Q w w' := by
  obtain ⟨hd0, hd1⟩ := Fe.cod_bd a0 w0.1 w0.2
  have hpl := Fe.pth_length xs2 (Fe.six xs2)
  have hpc := Fe.pth_cat xs2 (Fe.six xs2)
  have h6 : Fe.six xs2 ≤ 6 := Nat.min_le_right _ _
  have hb := Lib.hid (Fe.begin_any a0 v2 xs2 w he w2 b2 n2 w0.1 w0.2)
  have HE := Lib.hid he
  have hdn := Fe.cod_ne a0
  generalize Fe.cod a0 = d at hd0 hd1 hb hdn
  generalize Fe.pth xs2 (Fe.six xs2) = P at hpl hpc hb
  have hpl6 : P.length ≤ 6 := by omega
  have hpc72 : (cat P).length ≤ 72 := by omega
  have hpc6 : (cat P).length ≤ 1000000 := by omega
  obtain ⟨a2, c2, rfl⟩ := w2.shape
  have HN := Lib.hid hdn
  clear hpl hpc h6 hdn he w2 b2 n2
  by_cases hod : a1 = d
  · subst hod
    go_enter Tryd.func8, Tryd.ntmps8
    go_wp2_with fail
    refine hb.out.mono ?_
    rintro e w1 ⟨⟨x, y, rfl, hx, hy⟩, hq1⟩
    obtain ⟨tx, vx, rfl⟩ := hx.iface
    obtain ⟨ya, yc, rfl⟩ := hy.shape
    have he1 := HE.out.q hq1
    clear hb
    have hx1 := hx
    have hy1 := hy
    have hdd : (a1 == a1) = true := beq_self_eq_true _
    have hh := Lib.hid (fun u n (h : Fe.EV u a1 P (.iface tx vx)) => Fe.Is_code a1 n P _ u h)
    go_wp2_with fail
    refine (hh.out _ a1 hx1).mono ?_
    rintro e wz ⟨rfl, rfl⟩
    rw [hdd]
    go_wp2_with fail
    refine (Fe.lives_any _ he1).mono ?_
    rintro e w2 ⟨rfl, hr2⟩
    have hq2 := hq1.trans hr2
    have hx2 := hx1.q hr2
    have hy2 := hy1.q hr2
    have he2 := he1.q hr2
    go_wp2_with fail
    go_ret
    exact ⟨rfl, hq2⟩

  · have ho1 : (a1 == d) = false := beq_eq_false_iff_ne.2 hod
    have ho2 : (d == a1) = false := beq_eq_false_iff_ne.2 (Ne.symm hod)
    clear hod
    go_enter Tryd.func8, Tryd.ntmps8
    go_wp2_with fail
    refine hb.out.mono ?_
    rintro e w1 ⟨⟨x, y, rfl, hx, hy⟩, hq1⟩
    obtain ⟨tx, vx, rfl⟩ := hx.iface
    obtain ⟨ya, yc, rfl⟩ := hy.shape
    have he1 := HE.out.q hq1
    clear hb
    have hx1 := hx
    have hy1 := hy
    have hdd : (d == d) = true := beq_self_eq_true _
    have hh := Lib.hid (fun u n (h : Fe.EV u d P (.iface tx vx)) => Fe.Is_code d n P _ u h)
    go_wp2_with fail
    refine (hh.out _ d hx1).mono ?_
    rintro e wz ⟨rfl, rfl⟩
    rw [hdd]
    go_wp2_with fail
    refine (hh.out _ a1 hx1).mono ?_
    rintro e wz ⟨rfl, rfl⟩
    rw [ho2]
    go_wp2_with fail
    refine (Fe.lives_any _ he1).mono ?_
    rintro e w2 ⟨rfl, hr2⟩
    have hq2 := hq1.trans hr2
    have hx2 := hx1.q hr2
    have hy2 := hy1.q hr2
    have he2 := he1.q hr2
    go_wp2_with fail
    go_ret
    exact ⟨rfl, hq2⟩

set_option maxRecDepth 100000 in
theorem lifted (os : Os) (started : os.Started) (H : Type) (enc : TypeId × Value → H) :
    ReturnsInHanded {} Tryd.checked os 8 .any (fun w args => (Rows.faultIsSpec.pre enc Tryd.prog Tryd.f8 [] false w args ∧ laidMetH Tryd.prog laidL w) ∧ sizedMet enc Tryd.prog Tryd.f8 (OpenSpec.ofChange Rows.faultIsSpec) false w args)
      (Rows.faultIsSpec.post enc Tryd.prog Tryd.f8 false true false false) := by
  refine returnsInHanded_of_change_and (C := Tryd.checked) (X := fun w _ => laidMetH Tryd.prog laidL w) (fun _ _ _ hh h => h.of_heap hh) own started (by kernel_rfl) Tryd.func8
    (ChangeSpec.witness_at (enc := enc) (C := Tryd.checked) (os := os) (X := fun w _ => laidMetH Tryd.prog laidL w) false (laidWorld os) #[.int .i64 0, .int .i64 0, .slice none 0 0] 8 rfl (by kernel_rfl) (by kernel_rfl) (by kernel_rfl) (by kernel_rfl) (by kernel_rfl) (laidWorld_met os _)) ?_
  intro W base args ds gs before hval0 hW _ _ hL _
  have hval : ∀ (j : Nat) t v, Tryd.f8.params[j]? = some t → args[j]? = some v → Value.okWide Tryd.prog W .any base t v := hval0
  have hW' := hW
  obtain ⟨p, q, hA0, hV, rfl, hfz, hnd⟩ := hW
  have hA : DataW.TrodAll enc Tryd.prog W 0 (fun _ => true) true Tryd.f8.params.toList args.toList ds p := hA0
  rw [Tryd.params8] at hA hval
  obtain ⟨v0, vs0, d0, ds0, p0, q0, hargs, rfl, rfl, h0, r0⟩ := trodAll_cons hA
  obtain ⟨v1, vs1, d1, ds1, p1, q1, rfl, rfl, rfl, h1, r1⟩ := trodAll_cons r0
  obtain ⟨v2, vs2, d2, ds2, p2, q2, rfl, rfl, rfl, h2, r2⟩ := trodAll_cons r1
  obtain ⟨rfl, rfl, rfl⟩ := trodAll_nil r2
  obtain rfl : args = #[v0, v1, v2] := by cases args; simp_all
  obtain ⟨rfl, rfl⟩ := trodVars_none hV
  obtain ⟨a0, rfl, rfl, rfl, w0⟩ := open_int Tryd.underlying3 (hval 0 3 v0 rfl rfl) h0
  obtain ⟨a1, rfl, rfl, rfl, w1⟩ := open_int Tryd.underlying3 (hval 1 3 v1 rfl rfl) h1
  obtain ⟨a2, len2, cap2, rfl⟩ := okWide_slice Tryd.underlying22 (hval 2 22 v2 rfl rfl)
  have k2 := h2
  have lt2 : ∀ x ∈ p2, x.block < W.heap.size := by obtain ⟨m, hm⟩ := k2; exact DataW.trod_lt m _ _ _ hm
  obtain ⟨z2, w2⟩ : ∃ zs, IsTexts W a2 len2 cap2 zs := by
    obtain ⟨fuel, hf⟩ := h2
    rcases open_strings Tryd.underlying22 Tryd.underlying9 (by kernel_rfl) hf with ⟨hcs, _⟩ | ⟨x, l, c, zs, hcs, _, hl, hm, hz, _, hcell, hwz⟩
    · simp [Value.cells] at hcs
      obtain ⟨rfl, rfl, rfl⟩ := hcs
      exact ⟨[], .inl ⟨rfl, rfl, rfl, rfl⟩⟩
    · simp [Value.cells] at hcs
      obtain ⟨rfl, rfl, rfl⟩ := hcs
      exact ⟨zs, .inr ⟨_, rfl, hl, hm, by simpa using hz, hcell, hwz⟩⟩
  obtain ⟨xs2, l2, _, n2, b2⟩ := w2.lst
  clear hA0 hval0
  refine (walk W (env_of_laid hL) a0 (bounds_i64 w0) a1 (bounds_i64 w1) (.slice a2 len2 cap2) xs2 l2 b2 n2).mono fun e W' ⟨he, bel⟩ => ?_
  subst he
  exact ⟨_, rfl, _, _, _, [], _, [], hW', trodAll_mk1 (shut_bool Tryd.underlying4 _), (trodAll_cons_mk (shut_int Tryd.underlying3 w0) (trodAll_cons_mk (shut_int Tryd.underlying3 w1) (trodAll_cons_mk (Below.trod laidOut (by kernel_rfl) (of_decide_eq_true (by kernel_rfl)) k2 bel lt2) trodAll_mk0))), rfl, bel.below.frame _, fun h => by cases h⟩

/-- The row. -/
theorem row : Rows.FaultIsSaid :=
  OpenClaim.holds_of_wide 8 Tryd.f8 rfl rfl rfl rfl rfl rfl rfl ⟨rfl, rfl, rfl, rfl, rfl⟩ rfl rfl rfl rfl rfl (by kernel_rfl) Tryd.func8 (by kernel_rfl)
    (of_decide_eq_true (by kernel_rfl)) (by unfold Func.isWrapper; first | (rw [if_pos (by decide +kernel)]; kernel_rfl) | (rw [if_neg (by decide +kernel)]; exact ⟨rfl, rfl⟩))
    (fun os started H enc _ => lifted os started H enc)
/-- The statement: the row, tied. -/
theorem proved : Rows.FaultIsCardSaid :=
  Claim7.holds_tied_plain_at .later [] [.data, .data, .data, .handle] true (true, "da2e50619fe1d643bec864bc4610d25edd3840a000d0e7dabf91df069dca5290") true
    row (fun _ h => by cases h) (by kernel_rfl) (fun _ h => by cases h) faultIs_row_tie rfl ⟨rfl, rfl⟩ (by kernel_rfl) rfl
    (fun f fn hf hfn => by
      obtain rfl : f = 8 := Option.some.inj ((show Tryd.prog.funcNamed Rows.faultIsRow.func = some 8 by kernel_rfl).symm.trans hf) |>.symm
      obtain rfl : fn = Tryd.f8 := (Option.some.inj (Tryd.func8.symm.trans hfn)).symm
      refine ⟨by kernel_rfl, fun j t ht => ?_⟩
      rw [Tryd.params8] at ht
      have h3 : t = 3 ∨ t = 22 := by
        rcases j with _ | _ | _ | _ <;> simp at ht <;> simp [← ht]
      rcases h3 with rfl | rfl
      · exact (show Tryd.prog.wantsStandIn 3 = false by kernel_rfl)
      · exact (show Tryd.prog.wantsStandIn 22 = false by kernel_rfl))
    (by kernel_rfl)
#print axioms proved
end Go.Proofs.YtfnojkcklgmoiaaDoor.faultIs
