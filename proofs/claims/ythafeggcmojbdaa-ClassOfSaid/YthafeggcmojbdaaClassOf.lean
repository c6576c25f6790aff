/- ClassOf: whatever the number, raw, made a character and made one at the edge of a range, its class is the document's; no conditions. -/
import Derived.Test.YthafeggcmojbdaaRows
import Derived.WalkKit
import Derived.ProofKit
import Derived.OpenShut
import Derived.ShutString
import Derived.ChangeOld
import Derived.Below
import Derived.Test.YthafeggcmojbdaaInts
import Derived.Test.YthafeggcmojbdaaUtfM
import Derived.Test.YthafeggcmojbdaaUtfG
import Derived.Test.YthafeggcmojbdaaClsM
import Derived.Test.YthafeggcmojbdaaPairs
import Derived.Test.YthafeggcmojbdaaRun
import Derived.Test.YthafeggcmojbdaaClsE
import Derived.Test.YthafeggcmojbdaaClsW
import Derived.Test.YthafeggcmojbdaaClsR
set_option linter.unusedVariables false
set_option linter.unusedSimpArgs false
namespace Go.Proofs.Ythafeggcmojbdaa.classOf
open Go.ChangeShapes Go.WideShapes Go.ChangeAt Go.RowKit
open Go.ChangeMaps (open_string shut_string)

theorem own : ownKnob Try.prog.godebug = none := by kernel_rfl
theorem laidOut : laidOutB Try.prog = true := by kernel_rfl

open Um Cm
/-- One of the three. -/
theorem one (c : Int) (k : Nat) (hk : k = cls c) (w : World) : Calls Try.prog 12 #[.int .i64 c] w fun e w' => e = .returned (.int .i64 k) ∧ Q w w' := by subst hk; exact of_any c w
theorem two (c : Int) (k : Nat) (hk : k = cls c) (w : World) : Calls Try.prog 11 #[.int .i64 c] w fun e w' => e = .returned (.int .i64 k) ∧ Q w w' := by subst hk; exact Cr.of_any c w
theorem three (c : Int) (k : Nat) (hk : k = cls c) (w : World) : Calls Try.prog 13 #[.int .i64 k, .int .i64 c] w fun e w' => e = .returned (.bool true) ∧ Q w w' := by
  subst hk
  have := has_any (cls c) c w
  rw [show ((cls c : Int) == (cls c : Int)) = true from by simp] at this
  exact this
theorem four (c : Int) (k : Nat) (hk : k = cls c) (w : World) : Calls Try.prog 13 #[.int .i64 ((k : Int) + 1), .int .i64 c] w fun e w' => e = .returned (.bool false) ∧ Q w w' := by
  subst hk
  have := has_any ((cls c : Int) + 1) c w
  rw [show ((cls c : Int) == (cls c : Int) + 1) = false from by rw [beq_eq_false_iff_ne]; omega] at this
  exact this

set_option maxHeartbeats 2000000 in
set_option maxRecDepth 100000 in
theorem walk (w : World) (a0 : Int) (w0 : -9223372036854775808 ≤ a0 ∧ a0 ≤ 9223372036854775807) (a1 : Int) (w1 : -9223372036854775808 ≤ a1 ∧ a1 ≤ 9223372036854775807) :
    Calls Try.prog 3 #[.int .i64 a0, .int .i64 a1] w fun e w' => e = .returned (.bool true) ∧ Q w w' := by
  have A0 := Lib.hid (fun w => Ur.good_any a0 w w0.1 w0.2)
  have A1 := Lib.hid (fun w => Cr.edge_any a0 a1 w w0.1 w0.2)
  generalize good a0 = N at *
  generalize edge a0 a1 = E at *
  go_enter Try.func3, Try.ntmps3
  go_wp2_with fail
  refine (A0.out _).mono ?_
  rintro e w1 ⟨rfl, rfl⟩
  go_wp2_with fail
  refine (A1.out _).mono ?_
  rintro e w1 ⟨rfl, hq1⟩
  have hl := Lst.made w1 [a0, N, E] 3 rfl (by unfold maxLen; omega)
  simp only [List.map_cons, List.map_nil] at hl
  have HL := Lib.hid hl
  clear hl
  go_wp2_with fail
  go_loopw [6] (fun i wr => ∃ j : Nat, i = .int .i64 j ∧ j ≤ 3 ∧ Q (w1.alloc (.cells #[.int .i64 a0, .int .i64 N, .int .i64 E] 3)) wr) (fun i _ => 3 - (intOf i).toNat)
  case atStart => exact ⟨0, rfl, by omega, Q.refl _⟩
  case round =>
    obtain ⟨j, rfl, hj, hq⟩ := hrel
    by_cases hlt : j < 3
    · obtain ⟨g, off, cap, hv, hg, _, _, c0⟩ := (HL.out.q (Q.refl _)).cellOf (n := 3) rfl hlt
      cases hv
      have c1 : (w1.alloc (.cells #[.int .i64 a0, .int .i64 N, .int .i64 E] 3)).cell? ⟨w1.heap.size, j, none⟩ = some (.int .i64 ([a0, N, E].getD j 0)) := by have := c0; rw [Nat.zero_add] at this; exact this
      have hgs : w1.heap.size < (w1.alloc (.cells #[.int .i64 a0, .int .i64 N, .int .i64 E] 3)).heap.size := by simp
      obtain ⟨c, hc⟩ : ∃ c, c = [a0, N, E].getD j 0 := ⟨_, rfl⟩
      rw [← hc] at c1
      obtain ⟨k, hk⟩ : ∃ k, k = cls c := ⟨_, rfl⟩
      have hk14 := cls_le c
      rw [← hk] at hk14
      have K1 := Lib.hid (one c k hk)
      have K2 := Lib.hid (two c k hk)
      have K3 := Lib.hid (three c k hk)
      have K4 := Lib.hid (four c k hk)
      have C1 := Lib.hid c1
      clear hc hk c0 c1 HL
      have c1 := (World.cell?_of_block (w := w1.alloc (.cells #[.int .i64 a0, .int .i64 N, .int .i64 E] 3)) (hq.block hgs)).trans C1.out
      go_wp2_with fail
      refine (K2.out _).mono ?_
      rintro e w2 ⟨rfl, hq2⟩
      have hqa := hq.trans hq2
      have d1 := (World.cell?_of_block (w := w1.alloc (.cells #[.int .i64 a0, .int .i64 N, .int .i64 E] 3)) (hqa.block hgs)).trans C1.out
      go_wp2_with fail
      refine (K1.out _).mono ?_
      rintro e w3 ⟨rfl, hq3⟩
      have hqb := hqa.trans hq3
      have d2 := (World.cell?_of_block (w := w1.alloc (.cells #[.int .i64 a0, .int .i64 N, .int .i64 E] 3)) (hqb.block hgs)).trans C1.out
      go_wp2_with fail
      refine (K3.out _).mono ?_
      rintro e w4 ⟨rfl, hq4⟩
      have hqc := hqb.trans hq4
      have d3 := (World.cell?_of_block (w := w1.alloc (.cells #[.int .i64 a0, .int .i64 N, .int .i64 E] 3)) (hqc.block hgs)).trans C1.out
      go_wp2_with fail
      refine (K4.out _).mono ?_
      rintro e w5 ⟨rfl, hq5⟩
      go_wp2_with fail
      go_roundw
      case rel => exact ⟨j + 1, by go_num, by omega, hqc.trans hq5⟩
      case measure => simp [intOf]; omega
    · clear HL
      go_wp2_with fail
      refine (lives2_any _).mono ?_
      rintro e w2 ⟨rfl, hq2⟩
      go_wp2_with fail
      go_ret
      exact ⟨rfl, ((hq1.alloc _).trans hq).trans hq2⟩

set_option maxRecDepth 100000 in
theorem lifted (os : Os) (started : os.Started) (H : Type) (enc : TypeId × Value → H) :
    ReturnsInHanded {} Try.checked os 3 .any (Rows.classOfSpec.pre6 enc Try.prog Try.f3 Rows.classOfRow.domain false) (Rows.classOfSpec.post enc Try.prog Try.f3 false true false false) := by
  refine returnsInHanded_of_change (C := Try.checked) own started (by kernel_rfl) Try.func3
    (ChangeSpec.witness6 (enc := enc) (C := Try.checked) false ⟨#[], #[.int .i64 0, .int .i64 0], []⟩ 8 (by kernel_rfl) (by kernel_rfl) (by kernel_rfl) (by kernel_rfl)) ?_
  intro W base args ds gs before hval0 hW hcnd _
  have hval : ∀ (j : Nat) t v, Try.f3.params[j]? = some t → args[j]? = some v → Value.okWide Try.prog W .any base t v := hval0
  have hW' := hW
  obtain ⟨p, q, hA0, hV, rfl, hfz, hnd⟩ := hW
  have hA : DataW.TrodAll enc Try.prog W 0 (fun _ => true) true Try.f3.params.toList args.toList ds p := hA0
  rw [Try.params3] at hA hval
  obtain ⟨v0, vs0, d0, ds0, p0, q0, hargs, rfl, rfl, h0, r0⟩ := trodAll_cons hA
  obtain ⟨v1, vs1, d1, ds1, p1, q1, rfl, rfl, rfl, h1, r1⟩ := trodAll_cons r0
  obtain ⟨rfl, rfl, rfl⟩ := trodAll_nil r1
  obtain rfl : args = #[v0, v1] := by cases args; simp_all
  obtain ⟨rfl, rfl⟩ := trodVars_none hV
  obtain ⟨a0, rfl, rfl, rfl, w0⟩ := open_int Try.underlying3 (hval 0 3 v0 rfl rfl) h0
  obtain ⟨a1, rfl, rfl, rfl, w1⟩ := open_int Try.underlying3 (hval 1 3 v1 rfl rfl) h1
  clear hA0 hval0
  refine (walk W a0 (bounds_i64 w0) a1 (bounds_i64 w1)).mono fun e W' ⟨he, bel⟩ => ?_
  subst he
  exact ⟨_, rfl, _, _, _, [], _, [], hW', trodAll_mk1 (shut_bool Try.underlying4 _), (trodAll_cons_mk (shut_int Try.underlying3 w0) (trodAll_cons_mk (shut_int Try.underlying3 w1) trodAll_mk0)), rfl, bel.below.frame _, fun h => by cases h⟩

/-- The statement. -/
theorem proved : Rows.ClassOfSaid :=
  OpenClaim.holds_of_wide 3 Try.f3 rfl rfl rfl rfl rfl rfl rfl ⟨rfl, rfl, rfl, rfl, rfl⟩ rfl rfl rfl rfl rfl (by kernel_rfl) Try.func3 (by kernel_rfl)
    (of_decide_eq_true (by kernel_rfl)) (by unfold Func.isWrapper; first | (rw [if_pos (by decide +kernel)]; kernel_rfl) | (rw [if_neg (by decide +kernel)]; exact ⟨rfl, rfl⟩))
    (fun os started H enc _ => lifted os started H enc)
#print axioms proved
end Go.Proofs.Ythafeggcmojbdaa.classOf
