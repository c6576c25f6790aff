/- ClusterFlags: any number of Regionals (made 0 to 20) is half as many clusters, rounded up, alone and between letters; no conditions. -/
import Derived.Test.YtmbmopiicofhdaaRows
import Derived.WalkKit
import Derived.ProofKit
import Derived.OpenShut
import Derived.ShutString
import Derived.ChangeOld
import Derived.Below
import Derived.Test.YtmbmopiicofhdaaInts
import Derived.Test.YtmbmopiicofhdaaUtfM
import Derived.Test.YtmbmopiicofhdaaUtfG
import Derived.Test.YtmbmopiicofhdaaClsM
import Derived.Test.YtmbmopiicofhdaaPairs
import Derived.Test.YtmbmopiicofhdaaRun
import Derived.Test.YtmbmopiicofhdaaClsE
import Derived.Test.YtmbmopiicofhdaaClsW
import Derived.Test.YtmbmopiicofhdaaClsR
import Derived.Test.YtmbmopiicofhdaaUtfR
import Derived.Test.YtmbmopiicofhdaaUtfW
import Derived.Test.YtmbmopiicofhdaaGap
import Derived.Test.YtmbmopiicofhdaaRng
import Derived.Test.YtmbmopiicofhdaaEls
import Derived.Test.YtmbmopiicofhdaaCluM
import Derived.Test.YtmbmopiicofhdaaCluJ
import Derived.Test.YtmbmopiicofhdaaCluB
import Derived.Test.YtmbmopiicofhdaaCluS
import Derived.Test.YtmbmopiicofhdaaCluN
import Derived.Test.YtmbmopiicofhdaaCluL
import Derived.Test.YtmbmopiicofhdaaCluP
import Derived.Test.YtmbmopiicofhdaaCluR
import Derived.Test.YtmbmopiicofhdaaCluK
set_option linter.unusedVariables false
set_option linter.unusedSimpArgs false
namespace Go.Proofs.Ytmbmopiicofhdaa.clusterFlags
open Go.ChangeShapes Go.WideShapes Go.ChangeAt Go.RowKit
open Go.ChangeMaps (open_string shut_string)

theorem own : ownKnob Try.prog.godebug = none := by kernel_rfl
theorem laidOut : laidOutB Try.prog = true := by kernel_rfl

open Um Cm Gm
theorem cls_flag : ∀ n : Nat, n < 26 → cls (127462 + (n : Int)) = 6 := by decide +kernel
theorem cnt_flags : ∀ k : Nat, k < 21 → cntF st0 (List.replicate k 6) = (k + 1) / 2 := by decide +kernel
theorem cnt_flags2 : ∀ k : Nat, k < 21 → cntF st0 (0 :: (List.replicate k 6 ++ [0])) = (k + 1) / 2 + 2 := by decide +kernel
theorem flags1 (c : Int) (k : Nat) (hk : k < 21) (hv : vld c = true) (hc : cls c = 6) : (begL (joinL (List.replicate k c))).length = (k + 1) / 2 := by
  rw [begL_join _ (fun d hd => by rw [List.eq_of_mem_replicate hd]; exact hv), List.map_replicate, hc]
  exact cnt_flags k hk
theorem flags2 (c : Int) (k : Nat) (hk : k < 21) (hv : vld c = true) (hc : cls c = 6) : (begL ([120] ++ joinL (List.replicate k c) ++ [120])).length = (k + 1) / 2 + 2 := by
  have e : ([120] : List UInt8) ++ joinL (List.replicate k c) ++ [120] = joinL (120 :: (List.replicate k c ++ [120])) := by
    have h1 : joinL [120] = [120] := by decide +kernel
    have : joinL (120 :: (List.replicate k c ++ [120])) = joinL [120] ++ (joinL (List.replicate k c) ++ joinL [120]) := by
      unfold joinL
      simp
    rw [this, h1, List.append_assoc]
  rw [e, begL_join]
  · rw [List.map_cons, List.map_append, List.map_replicate, hc]
    exact cnt_flags2 k hk
  · intro d hd
    have h120 : vld 120 = true := by decide +kernel
    rcases List.mem_cons.1 hd with rfl | hd
    · exact h120
    · rcases List.mem_append.1 hd with hd | hd
      · rw [List.eq_of_mem_replicate hd]; exact hv
      · rw [List.mem_singleton.1 hd]; exact h120
theorem join_more (c : Int) (j : Nat) (hv : vld c = true) : joinL (List.replicate (j + 1) c) = joinL (List.replicate j c) ++ enc c := by
  unfold joinL
  rw [List.replicate_succ', List.flatMap_append]
  simp [one, hv]

set_option maxHeartbeats 2000000 in
set_option maxRecDepth 100000 in
theorem walk (w : World) (a0 : Int) (w0 : -9223372036854775808 ≤ a0 ∧ a0 ≤ 9223372036854775807) (a1 : Int) (w1 : -9223372036854775808 ≤ a1 ∧ a1 ≤ 9223372036854775807) :
    Calls Try.prog 6 #[.int .i64 a0, .int .i64 a1] w fun e w' => e = .returned (.bool true) ∧ Q w w' := by
  have a21 := fun w => Ur.around_any a0 21 w w0.1 w0.2 (by omega) (by omega)
  have a26 := fun w => Ur.around_any a1 26 w w1.1 w1.2 (by omega) (by omega)
  have b21 := around_bd a0 21 (by omega)
  have b26 := around_bd a1 26 (by omega)
  obtain ⟨k, hk⟩ : ∃ k : Nat, (k : Int) = around a0 21 := ⟨(around a0 21).toNat, by omega⟩
  obtain ⟨m, hm⟩ : ∃ m : Nat, (m : Int) = around a1 26 := ⟨(around a1 26).toNat, by omega⟩
  rw [← hk] at a21 b21
  rw [← hm] at a26 b26
  have hc := cls_flag m (by omega)
  have hv : vld (127462 + (m : Int)) = true := (vld_iff _).2 (by omega)
  have hf1 := flags1 _ k (by omega) hv hc
  have hf2 := flags2 _ k (by omega) hv hc
  have hjm := fun j => join_more _ j hv
  have hel := encB_list _ hv
  have hes := encB_size (127462 + (m : Int))
  have hl4 := fun j => joinL_length (List.replicate j (127462 + (m : Int)))
  obtain ⟨c, hcc⟩ : ∃ c, c = 127462 + (m : Int) := ⟨_, rfl⟩
  have HE := Lib.hid (fun w => encode_any (127462 + (m : Int)) w)
  obtain ⟨E, hE⟩ : ∃ E, E = encB (127462 + (m : Int)) := ⟨_, rfl⟩
  rw [← hE] at hel hes HE
  rw [← hcc] at hf1 hf2 hjm hel hl4
  have A21 := Lib.hid a21
  have A26 := Lib.hid a26
  have F1 := Lib.hid hf1
  have F2 := Lib.hid hf2
  have JM := Lib.hid hjm
  have EL := Lib.hid hel
  have L4 := Lib.hid hl4
  clear a21 a26 hk hm hc hv hf1 hf2 hjm hel hl4 hcc hE
  go_enter Try.func6, Try.ntmps6
  go_wp2_with fail
  refine (A21.out _).mono ?_
  rintro e u1 ⟨rfl, rfl⟩
  go_wp2_with fail
  go_loopw [6, 7] (fun p i wr => ∃ (j : Nat) (P : ByteArray), i = .int .i64 j ∧ p = .string P ∧ j ≤ k ∧ P.data.toList = joinL (List.replicate j c) ∧ Q w wr) (fun _ i _ => k - (intOf i).toNat)
  case atStart => exact ⟨0, ByteArray.empty, rfl, rfl, by omega, rfl, Q.refl _⟩
  case round =>
    obtain ⟨j, P, rfl, rfl, hj, hP, hq⟩ := hrel
    have hPs : P.size ≤ 4 * j := by
      have := L4.out j
      rw [← hP, size_list, List.length_replicate] at this
      exact this
    have HP := Lib.hid hP
    clear hP
    by_cases hlt : j < k
    · go_wp2_with fail
      refine (A26.out _).mono ?_
      rintro e u1 ⟨rfl, rfl⟩
      go_wp2_with fail
      refine (HE.out _).mono ?_
      rintro e u1 ⟨rfl, rfl⟩
      go_wp2_with fail
      go_roundw
      case rel => exact ⟨j + 1, P ++ E, by go_num, rfl, by omega, by rw [ByteArray.data_append, Array.toList_append, HP.out, EL.out, JM.out], hq⟩
      case measure => simp [intOf]; omega
    · have hjk : j = k := by omega
      subst hjk
      have hl1 := fun w => clen_any P w (by omega)
      rw [HP.out, F1.out, show (((j + 1) / 2 : Nat) : Int) = ((j : Int) + 1) / 2 from by omega] at hl1
      have hl2 := fun w => clen_any (⟨#[120]⟩ ++ P ++ ⟨#[120]⟩) w (by rw [ByteArray.size_append, ByteArray.size_append]; show 1 + P.size + 1 ≤ _; omega)
      have hd : (⟨#[120]⟩ ++ P ++ ⟨#[120]⟩ : ByteArray).data.toList = [120] ++ joinL (List.replicate j c) ++ [120] := by
        rw [ByteArray.data_append, Array.toList_append, ByteArray.data_append, Array.toList_append, HP.out]
      rw [hd, F2.out, show (((j + 1) / 2 + 2 : Nat) : Int) = ((j : Int) + 1) / 2 + 2 from by omega] at hl2
      have HL1 := Lib.hid hl1
      have HL2 := Lib.hid hl2
      clear hl1 hl2 hd hlt
      go_wp2_with fail
      refine (HL1.out _).mono ?_
      rintro e u1 ⟨rfl, hq1⟩
      go_wp2_with fail
      refine (HL2.out _).mono ?_
      rintro e u2 ⟨rfl, hq2⟩
      go_wp2_with fail
      refine (Gr.lives_any _).mono ?_
      rintro e u3 ⟨rfl, hq3⟩
      go_wp2_with fail
      go_ret
      exact ⟨rfl, ((hq.trans hq1).trans hq2).trans hq3⟩

set_option maxRecDepth 100000 in
theorem lifted (os : Os) (started : os.Started) (H : Type) (enc : TypeId × Value → H) :
    ReturnsInHanded {} Try.checked os 6 .any (Rows.clusterFlagsSpec.pre6 enc Try.prog Try.f6 Rows.clusterFlagsRow.domain false) (Rows.clusterFlagsSpec.post enc Try.prog Try.f6 false true false false) := by
  refine returnsInHanded_of_change (C := Try.checked) own started (by kernel_rfl) Try.func6
    (ChangeSpec.witness6 (enc := enc) (C := Try.checked) false ⟨#[], #[.int .i64 0, .int .i64 0], []⟩ 8 (by kernel_rfl) (by kernel_rfl) (by kernel_rfl) (by kernel_rfl)) ?_
  intro W base args ds gs before hval0 hW hcnd _
  have hval : ∀ (j : Nat) t v, Try.f6.params[j]? = some t → args[j]? = some v → Value.okWide Try.prog W .any base t v := hval0
  have hW' := hW
  obtain ⟨p, q, hA0, hV, rfl, hfz, hnd⟩ := hW
  have hA : DataW.TrodAll enc Try.prog W 0 (fun _ => true) true Try.f6.params.toList args.toList ds p := hA0
  rw [Try.params6] at hA hval
  obtain ⟨v0, vs0, d0, ds0, p0, q0, hargs, rfl, rfl, h0, r0⟩ := trodAll_cons hA
  obtain ⟨v1, vs1, d1, ds1, p1, q1, rfl, rfl, rfl, h1, r1⟩ := trodAll_cons r0
  obtain ⟨rfl, rfl, rfl⟩ := trodAll_nil r1
  obtain rfl : args = #[v0, v1] := by cases args; simp_all
  obtain ⟨rfl, rfl⟩ := trodVars_none hV
  obtain ⟨a0, rfl, rfl, rfl, w0⟩ := open_int Try.underlying3 (hval 0 3 v0 rfl rfl) h0
  obtain ⟨a1, rfl, rfl, rfl, w1⟩ := open_int Try.underlying3 (hval 1 3 v1 rfl rfl) h1
  clear hA0 hval0
  refine (walk W a0 (bounds_i64 w0) a1 (bounds_i64 w1)).mono fun e W' ⟨he, bel⟩ => ?_
  subst he
  exact ⟨_, rfl, _, _, _, [], _, [], hW', trodAll_mk1 (shut_bool Try.underlying4 _), (trodAll_cons_mk (shut_int Try.underlying3 w0) (trodAll_cons_mk (shut_int Try.underlying3 w1) trodAll_mk0)), rfl, bel.below.frame _, fun h => by cases h⟩

/-- The statement. -/
theorem proved : Rows.ClusterFlagsSaid :=
  OpenClaim.holds_of_wide 6 Try.f6 rfl rfl rfl rfl rfl rfl rfl ⟨rfl, rfl, rfl, rfl, rfl⟩ rfl rfl rfl rfl rfl (by kernel_rfl) Try.func6 (by kernel_rfl)
    (of_decide_eq_true (by kernel_rfl)) (by unfold Func.isWrapper; first | (rw [if_pos (by decide +kernel)]; kernel_rfl) | (rw [if_neg (by decide +kernel)]; exact ⟨rfl, rfl⟩))
    (fun os started H enc _ => lifted os started H enc)
#print axioms proved
end Go.Proofs.Ytmbmopiicofhdaa.clusterFlags
