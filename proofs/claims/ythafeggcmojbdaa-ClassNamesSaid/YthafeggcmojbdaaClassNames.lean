/- ClassNames: of whatever two numbers, raw and made 0 to 14, classes' names are no two the same, and there is none of no class; no conditions. -/
import Derived.Test.YthafeggcmojbdaaRows
import Derived.WalkKit
import Derived.ProofKit
import Derived.OpenShut
import Derived.ShutString
import Derived.ChangeOld
import Derived.Below
import Derived.Test.YthafeggcmojbdaaInts
import Derived.Test.YthafeggcmojbdaaUtfM
import Derived.Test.YthafeggcmojbdaaUtfG
import Derived.Test.YthafeggcmojbdaaClsM
import Derived.Test.YthafeggcmojbdaaPairs
import Derived.Test.YthafeggcmojbdaaClsE
import Derived.Test.YthafeggcmojbdaaClsW
import Derived.Test.YthafeggcmojbdaaClsN
set_option linter.unusedVariables false
set_option linter.unusedSimpArgs false
namespace Go.Proofs.Ythafeggcmojbdaa.classNames
open Go.ChangeShapes Go.WideShapes Go.ChangeAt Go.RowKit
open Go.ChangeMaps (open_string shut_string)

theorem own : ownKnob Try.prog.godebug = none := by kernel_rfl
theorem laidOut : laidOutB Try.prog = true := by kernel_rfl

open Um Cm
/-- What holds of each world on the way: the names that the statement has laid, and that nothing older has changed. -/
def SN (w : World) (m : Nat) (u : World) : Prop := u.cell? ⟨w.heap.size, m, none⟩ = some (.string (nameB m)) ∧ (w.heap.size < u.heap.size ∧ Q w u)
theorem SN.q {w u u' : World} {m : Nat} (h : SN w m u) (hq : Q u u') : SN w m u' :=
  ⟨(World.cell?_of_block (w := u) (hq.block h.2.1)).trans h.1, Nat.lt_of_lt_of_le h.2.1 hq.le, h.2.2.trans hq⟩
theorem nameS (w : World) (m : Nat) (k : Int) (u : World) (h : SN w m u) : Calls Try.prog 18 #[.int .i64 k] u fun e u' => e = .returned (.string (nameB k)) ∧ (u'.cell? ⟨w.heap.size, m, none⟩ = some (.string (nameB m)) ∧ (w.heap.size < u'.heap.size ∧ Q w u')) := by
  refine (name_any k u).mono ?_
  rintro e u' ⟨he, hq⟩
  exact ⟨he, h.q hq⟩
theorem livesS (w : World) (m : Nat) (u : World) (h : SN w m u) : Calls Try.prog 14 #[] u fun e u' => e = .returned (.bool true) ∧ (u'.cell? ⟨w.heap.size, m, none⟩ = some (.string (nameB m)) ∧ (w.heap.size < u'.heap.size ∧ Q w u')) := by
  refine (lives2_any u).mono ?_
  rintro e u' ⟨he, hq⟩
  exact ⟨he, h.q hq⟩
theorem startS (w : World) (t : TypeId) (m : Nat) (h : m < 15) : SN w m (w.alloc (.cells (nms.map Value.string).toArray t)).drew :=
  ⟨by rw [← nameB_nat h |>.symm]; exact nms_cell w t m h, by simp, ((Q.refl _).alloc _).drew⟩

set_option maxHeartbeats 8000000 in
set_option maxRecDepth 100000 in
theorem walk (w : World) (a0 : Int) (w0 : -9223372036854775808 ≤ a0 ∧ a0 ≤ 9223372036854775807) (a1 : Int) (w1 : -9223372036854775808 ≤ a1 ∧ a1 ≤ 9223372036854775807) :
    Calls Try.prog 6 #[.int .i64 a0, .int .i64 a1] w fun e w' => e = .returned (.bool true) ∧ Q w w' := by
  have hX := around_bd a0 15 (by omega)
  have hY := around_bd a1 15 (by omega)
  obtain ⟨m, hm⟩ : ∃ m : Nat, around a0 15 = (m : Int) := ⟨(around a0 15).toNat, by omega⟩
  obtain ⟨p, hp⟩ : ∃ p : Nat, around a1 15 = (p : Int) := ⟨(around a1 15).toNat, by omega⟩
  have hm15 : m < 15 := by omega
  have hp15 : p < 15 := by omega
  have A0 := fun w => Ur.around_any a0 15 w w0.1 w0.2 (by omega) (by omega)
  have A1 := fun w => Ur.around_any a1 15 w w1.1 w1.2 (by omega) (by omega)
  rw [hm] at A0
  rw [hp] at A1
  have A0 := Lib.hid A0
  have A1 := Lib.hid A1
  have hst := startS w 9 m hm15
  unfold SN at hst
  simp only [nms, List.map_cons, List.map_nil] at hst
  have hn1 : (nameB (-1)).toList = [] := by rw [nameB_none (by omega), ByteArray.toList_eq]
  have hn15 : (nameB 15).toList = [] := by rw [nameB_none (by omega), ByteArray.toList_eq]
  have hap := nameB_apart hm15 hp15
  have hraw : (0 ≤ a0 ∧ a0 < 15 ∧ (nameB a0).toList.isEmpty = false) ∨ (¬ 0 ≤ a0 ∧ (nameB a0).toList.isEmpty = true ∧ (nameB a0).toList = []) ∨ (0 ≤ a0 ∧ ¬ a0 < 15 ∧ (nameB a0).toList.isEmpty = true ∧ (nameB a0).toList = []) := by
    by_cases h1 : 0 ≤ a0
    · by_cases h2 : a0 < 15
      · have := nameB_some (i := a0.toNat) (by omega)
        rw [show ((a0.toNat : Nat) : Int) = a0 from by omega] at this
        exact .inl ⟨h1, h2, this⟩
      · have : (nameB a0).toList = [] := by rw [nameB_none (by omega), ByteArray.toList_eq]
        exact .inr (.inr ⟨h1, h2, by rw [this]; rfl, this⟩)
    · have : (nameB a0).toList = [] := by rw [nameB_none (by omega), ByteArray.toList_eq]
      exact .inr (.inl ⟨h1, by rw [this]; rfl, this⟩)
  clear hX hY w0 w1 hm hp
  have hcase : ∃ b, ((m : Int) == (p : Int)) = b ∧ ((nameB m).toList == (nameB p).toList) = b := ⟨m == p, by rw [Bool.eq_iff_iff, beq_iff_eq, beq_iff_eq]; omega, hap⟩
  clear hap
  have mi0 : (0 : Int) ≤ (m : Int) := by omega
  have mi1 : (m : Int) < 15 := by omega
  obtain ⟨b, e1, e2⟩ := hcase
  · rcases hraw with ⟨r1, r2, r3⟩ | ⟨r1, r3, r4⟩ | ⟨r1, r2, r3, r4⟩
    · have d1 : decide (0 ≤ a0) = true := decide_eq_true r1
      have d2 : decide (a0 < 15) = true := decide_eq_true r2
      go_enter Try.func6, Try.ntmps6
      go_wp2_with fail
      refine (A0.out _).mono ?_
      rintro e w1 ⟨rfl, rfl⟩
      go_wp2_with fail
      refine (A1.out _).mono ?_
      rintro e w1 ⟨rfl, rfl⟩
      go_wp2_with fail
      go_region_held3 (fun u => u.cell? ⟨w.heap.size, m, none⟩ = some (.string (nameB m)) ∧ (w.heap.size < u.heap.size ∧ Q w u)) (first | exact hst | assumption) (first | (go_at_call 18; refine (nameS w m _ _ ?_).mono ?_; assumption; rintro e u ⟨rfl, hS⟩) | (go_at_call 14; refine (livesS w m _ ?_).mono ?_; assumption; rintro e u ⟨rfl, hS⟩))
      all_goals
        go_wp2_with fail
        go_ret
        exact ⟨rfl, ‹_ ∧ (_ ∧ Q w _)›.2.2⟩
    · have d1 : decide (0 ≤ a0) = false := decide_eq_false r1
      go_enter Try.func6, Try.ntmps6
      go_wp2_with fail
      refine (A0.out _).mono ?_
      rintro e w1 ⟨rfl, rfl⟩
      go_wp2_with fail
      refine (A1.out _).mono ?_
      rintro e w1 ⟨rfl, rfl⟩
      go_wp2_with fail
      first | (go_region_with (first | (go_at_call 18; refine (nameS w m _ _ ?_).mono ?_; (first | exact hst | assumption); rintro e u ⟨rfl, hS⟩) | (go_at_call 14; refine (livesS w m _ ?_).mono ?_; (first | exact hst | assumption); rintro e u ⟨rfl, hS⟩))) | fail
      all_goals
        go_wp2_with fail
        go_ret
        exact ⟨rfl, ‹_ ∧ (_ ∧ Q w _)›.2.2⟩
    · have d1 : decide (0 ≤ a0) = true := decide_eq_true r1
      have d2 : decide (a0 < 15) = false := decide_eq_false r2
      go_enter Try.func6, Try.ntmps6
      go_wp2_with fail
      refine (A0.out _).mono ?_
      rintro e w1 ⟨rfl, rfl⟩
      go_wp2_with fail
      refine (A1.out _).mono ?_
      rintro e w1 ⟨rfl, rfl⟩
      go_wp2_with fail
      go_region_held3 (fun u => u.cell? ⟨w.heap.size, m, none⟩ = some (.string (nameB m)) ∧ (w.heap.size < u.heap.size ∧ Q w u)) (first | exact hst | assumption) (first | (go_at_call 18; refine (nameS w m _ _ ?_).mono ?_; assumption; rintro e u ⟨rfl, hS⟩) | (go_at_call 14; refine (livesS w m _ ?_).mono ?_; assumption; rintro e u ⟨rfl, hS⟩))
      all_goals
        go_wp2_with fail
        go_ret
        exact ⟨rfl, ‹_ ∧ (_ ∧ Q w _)›.2.2⟩

set_option maxRecDepth 100000 in
theorem lifted (os : Os) (started : os.Started) (H : Type) (enc : TypeId × Value → H) :
    ReturnsInHanded {} Try.checked os 6 .any (Rows.classNamesSpec.pre6 enc Try.prog Try.f6 Rows.classNamesRow.domain false) (Rows.classNamesSpec.post enc Try.prog Try.f6 false true false false) := by
  refine returnsInHanded_of_change (C := Try.checked) own started (by kernel_rfl) Try.func6
    (ChangeSpec.witness6 (enc := enc) (C := Try.checked) false ⟨#[], #[.int .i64 0, .int .i64 0], []⟩ 8 (by kernel_rfl) (by kernel_rfl) (by kernel_rfl) (by kernel_rfl)) ?_
  intro W base args ds gs before hval0 hW hcnd _
  have hval : ∀ (j : Nat) t v, Try.f6.params[j]? = some t → args[j]? = some v → Value.okWide Try.prog W .any base t v := hval0
  have hW' := hW
  obtain ⟨p, q, hA0, hV, rfl, hfz, hnd⟩ := hW
  have hA : DataW.TrodAll enc Try.prog W 0 (fun _ => true) true Try.f6.params.toList args.toList ds p := hA0
  rw [Try.params6] at hA hval
  obtain ⟨v0, vs0, d0, ds0, p0, q0, hargs, rfl, rfl, h0, r0⟩ := trodAll_cons hA
  obtain ⟨v1, vs1, d1, ds1, p1, q1, rfl, rfl, rfl, h1, r1⟩ := trodAll_cons r0
  obtain ⟨rfl, rfl, rfl⟩ := trodAll_nil r1
  obtain rfl : args = #[v0, v1] := by cases args; simp_all
  obtain ⟨rfl, rfl⟩ := trodVars_none hV
  obtain ⟨a0, rfl, rfl, rfl, w0⟩ := open_int Try.underlying3 (hval 0 3 v0 rfl rfl) h0
  obtain ⟨a1, rfl, rfl, rfl, w1⟩ := open_int Try.underlying3 (hval 1 3 v1 rfl rfl) h1
  clear hA0 hval0
  refine (walk W a0 (bounds_i64 w0) a1 (bounds_i64 w1)).mono fun e W' ⟨he, bel⟩ => ?_
  subst he
  exact ⟨_, rfl, _, _, _, [], _, [], hW', trodAll_mk1 (shut_bool Try.underlying4 _), (trodAll_cons_mk (shut_int Try.underlying3 w0) (trodAll_cons_mk (shut_int Try.underlying3 w1) trodAll_mk0)), rfl, bel.below.frame _, fun h => by cases h⟩

/-- The statement. -/
theorem proved : Rows.ClassNamesSaid :=
  OpenClaim.holds_of_wide 6 Try.f6 rfl rfl rfl rfl rfl rfl rfl ⟨rfl, rfl, rfl, rfl, rfl⟩ rfl rfl rfl rfl rfl (by kernel_rfl) Try.func6 (by kernel_rfl)
    (of_decide_eq_true (by kernel_rfl)) (by unfold Func.isWrapper; first | (rw [if_pos (by decide +kernel)]; kernel_rfl) | (rw [if_neg (by decide +kernel)]; exact ⟨rfl, rfl⟩))
    (fun os started H enc _ => lifted os started H enc)
#print axioms proved
end Go.Proofs.Ythafeggcmojbdaa.classNames
