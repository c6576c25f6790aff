/- ItemEnds: where a group ends, and how many do, is told as the document says, also where no digits are behind, and without groups: of whatever three numbers; no conditions. -/
import Derived.Test.YtnlfeamhedihpaaRows
import Derived.WalkKit
import Derived.ProofKit
import Derived.OpenShut
import Derived.ShutString
import Derived.ChangeOld
import Derived.Below
import Derived.Lib.SmallJoins
import Derived.Test.YtnlfeamhedihpaaInts
import Derived.Test.YtnlfeamhedihpaaInts
import Derived.Test.YtnlfeamhedihpaaUtfM
import Derived.Test.YtnlfeamhedihpaaUtfG
import Derived.Test.YtnlfeamhedihpaaItM
import Derived.Test.YtnlfeamhedihpaaItE
set_option linter.unusedVariables false
set_option linter.unusedSimpArgs false
namespace Go.Proofs.Ytnlfeamhedihpaa.itemEnds
open Go.ChangeShapes Go.WideShapes Go.ChangeAt Go.RowKit
open Go.ChangeMaps (open_string shut_string)

theorem own : ownKnob Try.prog.godebug = none := by kernel_rfl
theorem laidOut : laidOutB Try.prog = true := by kernel_rfl


set_option maxHeartbeats 3000000 in
set_option maxRecDepth 100000 in
theorem walk (w : World) (a0 : Int) (w0 : -9223372036854775808 ≤ a0 ∧ a0 ≤ 9223372036854775807) (a1 : Int) (w1 : -9223372036854775808 ≤ a1 ∧ a1 ≤ 9223372036854775807) (a2 : Int) (w2 : -9223372036854775808 ≤ a2 ∧ a2 ≤ 9223372036854775807) :
    Calls Try.prog 3 #[.int .i64 a0, .int .i64 a1, .int .i64 a2] w fun e w' => e = .returned (.bool true) ∧ Q w w' := by
  have HA := Lib.hid (fun u => Ur.around_any a0 71 u w0.1 w0.2 (by omega) (by omega))
  have HB := Lib.hid (fun u => Ur.around_any a1 6 u w1.1 w1.2 (by omega) (by omega))
  have HC := Lib.hid (fun u => Ur.around_any a2 6 u w2.1 w2.2 (by omega) (by omega))
  have hn := Um.around_bd a0 71 (by omega)
  have hp := Um.around_bd a1 6 (by omega)
  have hs := Um.around_bd a2 6 (by omega)
  generalize Um.around a0 71 = n at *
  generalize Um.around a1 6 = p at *
  generalize Um.around a2 6 = s at *
  obtain ⟨N, rfl⟩ : ∃ N : Nat, n = (N : Int) := ⟨n.toNat, by omega⟩
  have HC0 := Lib.hid (Im.cntE_zero p s)
  have HCS := Lib.hid (Im.cntE_succ p s)
  have HCL := Lib.hid (Im.cntE_le p s)
  have HCE := Lib.hid (Im.cntE_eq p s N hp.1)
  have HE1 := Lib.hid (fun u => It.ends_any (N : Int) p s u (by omega) (by omega))
  have HE2 := Lib.hid (fun (i : Nat) u (h : i ≤ N) => It.rends_any (i : Int) p s u (by omega) (by omega) (by omega) (by omega))
  have HE3 := Lib.hid (fun y u (h : -9223372036854775808 ≤ y) (h2 : y ≤ 0) => by have h3 := It.ends_any y p s u h (by omega); rwa [Im.endB_low h2] at h3)
  have HE4 := Lib.hid (fun u => by have h3 := It.ends_any (N : Int) 0 s u (by omega) (by omega); rwa [Im.endB_none] at h3)
  have HG1 := Lib.hid (fun u => It.groups_any (N : Int) p s u (by omega) (by omega) (by omega))
  have HG2 := Lib.hid (fun y u (h : -9223372036854775808 ≤ y) (h2 : y ≤ 0) => by have h3 := It.groups_any y p s u h (by omega) (by omega); rwa [Im.grp_low h2 hp.1] at h3)
  have HL := Lib.hid (fun u => It.lives_any u)
  rw [← HCE.out] at HG1
  go_enter Try.func3, Try.ntmps3
  go_wp2_with fail
  refine (HA.out _).mono ?_
  rintro e wa ⟨rfl, rfl⟩
  go_wp2_with fail
  refine (HB.out _).mono ?_
  rintro e wa ⟨rfl, rfl⟩
  go_wp2_with fail
  refine (HC.out _).mono ?_
  rintro e wa ⟨rfl, rfl⟩
  go_wp2_with fail
  go_loop [10, 11] (fun m i => ∃ k : Nat, m = .int .i64 (Im.cntE p s k : Nat) ∧ i = .int .i64 k ∧ k ≤ N) (fun _ i => N - (intOf i).toNat)
  case atStart => exact ⟨0, by rw [HC0.out]; rfl, rfl, by omega⟩
  case round =>
    obtain ⟨k, rfl, rfl, hk⟩ := hrel
    have hcl := HCL.out k
    have hcs := HCS.out k
    obtain ⟨c, hc⟩ : ∃ c, c = Im.cntE p s k := ⟨_, rfl⟩
    by_cases hlt : k < N
    · have HKS := Lib.hid hcs
      rw [← hc] at hcl HKS ⊢
      clear hcs hc
      go_wp2_with fail
      refine (HE2.out k _ hk).mono ?_
      rintro e wa ⟨rfl, rfl⟩
      cases hb : Im.endB (k : Int) p s
      · have HKE := Lib.hid (show Im.cntE p s (k + 1) = c by rw [HKS.out, hb]; simp)
        clear HKS hb
        go_wp2_with fail
        exact ⟨⟨k + 1, by rw [HKE.out]; try rfl, by go_num, by omega⟩, by simp [intOf]; omega⟩
      · have HKE := Lib.hid (show Im.cntE p s (k + 1) = c + 1 by rw [HKS.out, hb]; simp)
        clear HKS hb
        go_wp2_with fail
        exact ⟨⟨k + 1, by rw [HKE.out]; go_num, by go_num, by omega⟩, by simp [intOf]; omega⟩
    · obtain rfl : k = N := by omega
      rw [← hc] at hcl HG1 ⊢
      clear hcs hc
      go_upto_region 10 with fail
      go_cut [12] (fun y wx => ∃ b : Int, y = .int .i64 b ∧ -9223372036854775808 ≤ b ∧ b ≤ 0 ∧ wx = w)
      case first =>
        by_cases h0 : 0 ≤ a0
        · by_cases h00 : a0 = 0
          · subst h00
            go_wp2_with fail
            go_meet
            exact ⟨0, rfl, by omega, by omega, rfl⟩
          · have h01 : -a0 ≤ a0 := by omega
            have h02 : ¬ a0 ≤ -a0 := by omega
            have h03 : -a0 ≤ 0 := by omega
            have h04 : ¬ (0 : Int) ≤ -a0 := by omega
            go_wp2_with fail
            go_meet
            exact ⟨_, rfl, by omega, by omega, rfl⟩
        · by_cases hm : a0 = -9223372036854775808
          · subst hm
            have hwr : wrap64 9223372036854775808 = -9223372036854775808 := by unfold wrap64; rfl
            go_wp2_with fail
            go_meet
            exact ⟨_, rfl, by omega, by omega, rfl⟩
          · have h01 : a0 ≤ -a0 := by omega
            have h03 : a0 ≤ 0 := by omega
            go_wp2_with fail
            go_meet
            exact ⟨_, rfl, by omega, by omega, rfl⟩
      case rest =>
        obtain ⟨y, rfl, hy0, hy1, rfl⟩ := hcut
        have HE3y := Lib.hid (fun u => HE3.out y u hy0 hy1)
        have HG2y := Lib.hid (fun u => HG2.out y u hy0 hy1)
        have HE2k := Lib.hid (fun u => HE2.out k u (Nat.le_refl k))
        clear HE3 HG2 HE2
        go_wp2_with fail
        refine (HE1.out _).mono ?_
        rintro e wa ⟨rfl, rfl⟩
        go_wp2_with fail
        refine (HE2k.out _).mono ?_
        rintro e wa ⟨rfl, rfl⟩
        generalize Im.endB (k : Int) p s = eb at *
        have hbb : (eb == eb) = true := by cases eb <;> rfl
        go_wp2_with fail
        refine (HG1.out _).mono ?_
        rintro e wa ⟨rfl, rfl⟩
        go_wp2_with fail
        refine (HE3y.out _).mono ?_
        rintro e wa ⟨rfl, rfl⟩
        go_wp2_with fail
        refine (HG2y.out _).mono ?_
        rintro e wa ⟨rfl, rfl⟩
        go_wp2_with fail
        refine (HE4.out _).mono ?_
        rintro e wa ⟨rfl, rfl⟩
        go_wp2_with fail
        refine (HL.out _).mono ?_
        rintro e wa ⟨rfl, rfl⟩
        go_wp2_with fail
        go_ret
        exact ⟨rfl, Q.refl _⟩

set_option maxRecDepth 100000 in
theorem lifted (os : Os) (started : os.Started) (H : Type) (enc : TypeId × Value → H) :
    ReturnsInHanded {} Try.checked os 3 .any (Rows.itemEndsSpec.pre6 enc Try.prog Try.f3 Rows.itemEndsRow.domain false) (Rows.itemEndsSpec.post enc Try.prog Try.f3 false true false false) := by
  refine returnsInHanded_of_change (C := Try.checked) own started (by kernel_rfl) Try.func3
    (ChangeSpec.witness6 (enc := enc) (C := Try.checked) false ⟨#[], #[.int .i64 0, .int .i64 0, .int .i64 0], []⟩ 8 (by kernel_rfl) (by kernel_rfl) (by kernel_rfl) (by kernel_rfl)) ?_
  intro W base args ds gs before hval0 hW hcnd _
  have hval : ∀ (j : Nat) t v, Try.f3.params[j]? = some t → args[j]? = some v → Value.okWide Try.prog W .any base t v := hval0
  have hW' := hW
  obtain ⟨p, q, hA0, hV, rfl, hfz, hnd⟩ := hW
  have hA : DataW.TrodAll enc Try.prog W 0 (fun _ => true) true Try.f3.params.toList args.toList ds p := hA0
  rw [Try.params3] at hA hval
  obtain ⟨v0, vs0, d0, ds0, p0, q0, hargs, rfl, rfl, h0, r0⟩ := trodAll_cons hA
  obtain ⟨v1, vs1, d1, ds1, p1, q1, rfl, rfl, rfl, h1, r1⟩ := trodAll_cons r0
  obtain ⟨v2, vs2, d2, ds2, p2, q2, rfl, rfl, rfl, h2, r2⟩ := trodAll_cons r1
  obtain ⟨rfl, rfl, rfl⟩ := trodAll_nil r2
  obtain rfl : args = #[v0, v1, v2] := by cases args; simp_all
  obtain ⟨rfl, rfl⟩ := trodVars_none hV
  obtain ⟨a0, rfl, rfl, rfl, w0⟩ := open_int Try.underlying3 (hval 0 3 v0 rfl rfl) h0
  obtain ⟨a1, rfl, rfl, rfl, w1⟩ := open_int Try.underlying3 (hval 1 3 v1 rfl rfl) h1
  obtain ⟨a2, rfl, rfl, rfl, w2⟩ := open_int Try.underlying3 (hval 2 3 v2 rfl rfl) h2
  clear hA0 hval0
  refine (walk W a0 (bounds_i64 w0) a1 (bounds_i64 w1) a2 (bounds_i64 w2)).mono fun e W' ⟨he, bel⟩ => ?_
  subst he
  exact ⟨_, rfl, _, _, _, [], _, [], hW', trodAll_mk1 (shut_bool Try.underlying4 _), (trodAll_cons_mk (shut_int Try.underlying3 w0) (trodAll_cons_mk (shut_int Try.underlying3 w1) (trodAll_cons_mk (shut_int Try.underlying3 w2) trodAll_mk0))), rfl, bel.below.frame _, fun h => by cases h⟩

/-- The statement. -/
theorem proved : Rows.ItemEndsSaid :=
  OpenClaim.holds_of_wide 3 Try.f3 rfl rfl rfl rfl rfl rfl rfl ⟨rfl, rfl, rfl, rfl, rfl⟩ rfl rfl rfl rfl rfl (by kernel_rfl) Try.func3 (by kernel_rfl)
    (of_decide_eq_true (by kernel_rfl)) (by unfold Func.isWrapper; first | (rw [if_pos (by decide +kernel)]; kernel_rfl) | (rw [if_neg (by decide +kernel)]; exact ⟨rfl, rfl⟩))
    (fun os started H enc _ => lifted os started H enc)
#print axioms proved
end Go.Proofs.Ytnlfeamhedihpaa.itemEnds
