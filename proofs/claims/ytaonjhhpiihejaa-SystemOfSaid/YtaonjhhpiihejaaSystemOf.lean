/- SystemOf: of whatever numbers (the first raw, and made a character; and a digit of any system) of which system a character is a digit, and which, is the document's; no conditions. -/
import Derived.Test.YtaonjhhpiihejaaRows
import Derived.WalkKit
import Derived.ProofKit
import Derived.OpenShut
import Derived.ShutString
import Derived.ChangeOld
import Derived.Below
import Derived.Lib.SmallJoins
import Derived.Test.YtaonjhhpiihejaaInts
import Derived.Test.YtaonjhhpiihejaaUtfM
import Derived.Test.YtaonjhhpiihejaaUtfG
import Derived.Test.YtaonjhhpiihejaaUtfR
import Derived.Test.YtaonjhhpiihejaaEls
import Derived.Test.YtaonjhhpiihejaaSto
import Derived.Test.YtaonjhhpiihejaaSysM
import Derived.Test.YtaonjhhpiihejaaSysN
import Derived.Test.YtaonjhhpiihejaaSysR
import Derived.Test.YtaonjhhpiihejaaSysT
set_option linter.unusedVariables false
set_option linter.unusedSimpArgs false
namespace Go.Proofs.Ytaonjhhpiihejaa.systemOf
open Go.ChangeShapes Go.WideShapes Go.ChangeAt Go.RowKit
open Go.ChangeMaps (open_string shut_string)

theorem own : ownKnob Try.prog.godebug = none := by kernel_rfl
theorem laidOut : laidOutB Try.prog = true := by kernel_rfl

open Sm

set_option maxHeartbeats 8000000 in
set_option maxRecDepth 100000 in
theorem walk (w : World) (a0 : Int) (w0 : -9223372036854775808 ≤ a0 ∧ a0 ≤ 9223372036854775807) (a1 : Int) (w1 : -9223372036854775808 ≤ a1 ∧ a1 ≤ 9223372036854775807) :
    Calls Try.prog 8 #[.int .i64 a0, .int .i64 a1] w fun e w' => e = .returned (.bool true) ∧ Q w w' := by
  have N0 := fun w => Sr.name_any a0 w w0.1 w0.2
  obtain ⟨p, z, hp, hz, hzb, hps, hmem⟩ := Sr.made a0
  rw [← hp] at N0
  have A0 := fun w => Ur.around_any a1 10 w w1.1 w1.2 (by omega) (by omega)
  have hkb := Um.around_bd a1 10 (by omega)
  have G0 := fun w => Ur.good_any a0 w w0.1 w0.2
  have hgb := (Um.vld_iff _).1 (Um.good_vld a0)
  have Z1 := fun w => Sr.zero_any p w
  rw [hz] at Z1
  generalize Um.around a1 10 = k at *
  generalize Um.good a0 = d at *
  have hof : ofC (z + k) = (p.data.toList, k) := by
    rw [ofC_mem hmem (by omega) (by omega)]
    exact Prod.ext rfl (by show z + k - z = k; omega)
  have HN0 := Lib.hid N0
  have HA0 := Lib.hid A0
  have HG0 := Lib.hid G0
  have HZ1 := Lib.hid Z1
  have hlast := fun w => Sy.of_any (z + k) w
  rw [hof] at hlast
  have hpd : (⟨p.data.toList.toArray⟩ : ByteArray) = p := Um.ba_ext rfl
  simp only [hpd] at hlast
  have HLA := Lib.hid hlast
  clear N0 A0 G0 Z1 hp hz hof hmem hlast hpd
  obtain ⟨l, hl⟩ : ∃ l : List Int, l = [a0, d, z + k] := ⟨_, rfl⟩
  have hll : l.length = 3 := by rw [hl]; rfl
  have hl2 : l.getD 2 0 = z + k := by rw [hl]; rfl
  have hmade := fun w => Lst.made w l 3 hll (by unfold maxLen; omega)
  have hcel : l.map (Value.int .i64) = [.int .i64 a0, .int .i64 d, .int .i64 (z + k)] := by rw [hl]; rfl
  have hmade2 : ∀ w : World, Lst (w.alloc (.cells #[.int .i64 a0, .int .i64 d, .int .i64 (z + k)] 3)) (.slice (some ⟨w.heap.size, 0, none⟩) 3 3) l := by
    intro w
    have := hmade w
    rw [hcel] at this
    exact this
  have HM := Lib.hid hmade2
  have HLL := Lib.hid hll
  have HL2 := Lib.hid hl2
  clear hmade hmade2 hcel hl hll hl2
  go_enter Try.func8, Try.ntmps8
  go_wp2_with fail
  refine (HN0.out _).mono ?_
  rintro e w2 ⟨rfl, hq2⟩
  go_wp2_with fail
  refine (HA0.out _).mono ?_
  rintro e w3 ⟨rfl, rfl⟩
  go_wp2_with fail
  refine (HG0.out _).mono ?_
  rintro e w4 ⟨rfl, rfl⟩
  go_wp2_with fail
  refine (HZ1.out _).mono ?_
  rintro e w5 ⟨rfl, hq5⟩
  have hq25 := hq2.trans hq5
  have HLS := HM.out w5
  have hq6 := hq25.alloc (.cells #[.int .i64 a0, .int .i64 d, .int .i64 (z + k)] 3)
  go_wp2_with fail
  generalize hw6 : w5.alloc (.cells #[.int .i64 a0, .int .i64 d, .int .i64 (z + k)] 3) = w6 at *
  have HW6 := Lib.hid hw6
  clear hw6
  generalize w5.heap.size = g at *
  go_loopw [8] (fun i wr => ∃ j : Nat, i = .int .i64 j ∧ j ≤ 3 ∧ Q w6 wr) (fun i _ => 3 - (intOf i).toNat)
  case atStart => exact ⟨0, rfl, by omega, Q.refl _⟩
  case round =>
    obtain ⟨j, rfl, hj, hq⟩ := hrel
    by_cases hlt : j < 3
    · obtain ⟨g', off, cap, hvv, hg, _, _, hca⟩ := HLS.cellOf HLL.out hlt
      cases hvv
      have c1 : wr.cell? ⟨g, j, none⟩ = some (.int .i64 (l.getD j 0)) := by
        have := (World.cell?_of_block (w := w6) (hq.block hg) (a := ⟨g, 0 + j, none⟩)).trans hca
        rwa [Nat.zero_add] at this
      have c1k : ∀ w', Q wr w' → w'.cell? ⟨g, j, none⟩ = some (.int .i64 (l.getD j 0)) := fun w' q => (World.cell?_of_block (w := wr) (q.block (Nat.lt_of_lt_of_le hg hq.le))).trans c1
      generalize l.getD j 0 = c at *
      have P0 := fun w => Sy.of_any c w
      have R0 := fun w => Sr.of_any c w
      generalize ofC c = oc at *
      obtain ⟨on, od⟩ := oc
      simp only at P0 R0
      generalize (⟨on.toArray⟩ : ByteArray) = os at *
      have HP0 := Lib.hid P0
      have HR0 := Lib.hid R0
      clear P0 R0 hca HLS
      go_wp2_with fail
      refine (HP0.out _).mono ?_
      rintro e w7 ⟨rfl, hq7⟩
      have c2 := c1k w7 hq7
      go_wp2_with fail
      refine (HR0.out _).mono ?_
      rintro e w8 ⟨rfl, hq8⟩
      go_wp2_with fail
      exact ⟨⟨j + 1, by go_num, by omega, (hq.trans hq7).trans hq8⟩, by simp [intOf]; omega⟩
    · have hj3 : j = 3 := by omega
      subst hj3
      obtain ⟨g', off, cap, hvv, hg, _, _, hca⟩ := HLS.cellOf (k := 2) HLL.out (by omega)
      cases hvv
      have c1 : wr.cell? ⟨g, 2, none⟩ = some (.int .i64 (z + k)) := by
        have := (World.cell?_of_block (w := w6) (hq.block hg) (a := ⟨g, 0 + 2, none⟩)).trans hca
        rw [HL2.out] at this
        exact this
      clear hca HLS
      go_wp2_with fail
      refine (HLA.out _).mono ?_
      rintro e w7 ⟨rfl, hq7⟩
      go_wp2_with fail
      refine (Sr.lives_any _).mono ?_
      rintro e w8 ⟨rfl, hq8⟩
      go_wp2_with fail
      go_ret
      exact ⟨rfl, ((hq6.trans hq).trans hq7).trans hq8⟩

set_option maxRecDepth 100000 in
theorem lifted (os : Os) (started : os.Started) (H : Type) (enc : TypeId × Value → H) :
    ReturnsInHanded {} Try.checked os 8 .any (Rows.systemOfSpec.pre6 enc Try.prog Try.f8 Rows.systemOfRow.domain false) (Rows.systemOfSpec.post enc Try.prog Try.f8 false true false false) := by
  refine returnsInHanded_of_change (C := Try.checked) own started (by kernel_rfl) Try.func8
    (ChangeSpec.witness6 (enc := enc) (C := Try.checked) false ⟨#[], #[.int .i64 0, .int .i64 0], []⟩ 8 (by kernel_rfl) (by kernel_rfl) (by kernel_rfl) (by kernel_rfl)) ?_
  intro W base args ds gs before hval0 hW hcnd _
  have hval : ∀ (j : Nat) t v, Try.f8.params[j]? = some t → args[j]? = some v → Value.okWide Try.prog W .any base t v := hval0
  have hW' := hW
  obtain ⟨p, q, hA0, hV, rfl, hfz, hnd⟩ := hW
  have hA : DataW.TrodAll enc Try.prog W 0 (fun _ => true) true Try.f8.params.toList args.toList ds p := hA0
  rw [Try.params8] at hA hval
  obtain ⟨v0, vs0, d0, ds0, p0, q0, hargs, rfl, rfl, h0, r0⟩ := trodAll_cons hA
  obtain ⟨v1, vs1, d1, ds1, p1, q1, rfl, rfl, rfl, h1, r1⟩ := trodAll_cons r0
  obtain ⟨rfl, rfl, rfl⟩ := trodAll_nil r1
  obtain rfl : args = #[v0, v1] := by cases args; simp_all
  obtain ⟨rfl, rfl⟩ := trodVars_none hV
  obtain ⟨a0, rfl, rfl, rfl, w0⟩ := open_int Try.underlying3 (hval 0 3 v0 rfl rfl) h0
  obtain ⟨a1, rfl, rfl, rfl, w1⟩ := open_int Try.underlying3 (hval 1 3 v1 rfl rfl) h1
  clear hA0 hval0
  refine (walk W a0 (bounds_i64 w0) a1 (bounds_i64 w1)).mono fun e W' ⟨he, bel⟩ => ?_
  subst he
  exact ⟨_, rfl, _, _, _, [], _, [], hW', trodAll_mk1 (shut_bool Try.underlying4 _), (trodAll_cons_mk (shut_int Try.underlying3 w0) (trodAll_cons_mk (shut_int Try.underlying3 w1) trodAll_mk0)), rfl, bel.below.frame _, fun h => by cases h⟩

/-- The statement. -/
theorem proved : Rows.SystemOfSaid :=
  OpenClaim.holds_of_wide 8 Try.f8 rfl rfl rfl rfl rfl rfl rfl ⟨rfl, rfl, rfl, rfl, rfl⟩ rfl rfl rfl rfl rfl (by kernel_rfl) Try.func8 (by kernel_rfl)
    (of_decide_eq_true (by kernel_rfl)) (by unfold Func.isWrapper; first | (rw [if_pos (by decide +kernel)]; kernel_rfl) | (rw [if_neg (by decide +kernel)]; exact ⟨rfl, rfl⟩))
    (fun os started H enc _ => lifted os started H enc)
#print axioms proved
end Go.Proofs.Ytaonjhhpiihejaa.systemOf
