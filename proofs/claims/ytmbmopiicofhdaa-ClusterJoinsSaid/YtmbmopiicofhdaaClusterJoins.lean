/- ClusterJoins: of whatever list (its first 8 numbers) and whatever number, raw and made characters of any class, whether they are joined is told as the document's rules say; no conditions. -/
import Derived.Test.YtmbmopiicofhdaaRows
import Derived.WalkKit
import Derived.ProofKit
import Derived.OpenShut
import Derived.ShutString
import Derived.ChangeOld
import Derived.Below
import Derived.Test.YtmbmopiicofhdaaInts
import Derived.Test.YtmbmopiicofhdaaUtfM
import Derived.Test.YtmbmopiicofhdaaUtfG
import Derived.Test.YtmbmopiicofhdaaClsM
import Derived.Test.YtmbmopiicofhdaaPairs
import Derived.Test.YtmbmopiicofhdaaRun
import Derived.Test.YtmbmopiicofhdaaClsE
import Derived.Test.YtmbmopiicofhdaaClsW
import Derived.Test.YtmbmopiicofhdaaClsR
import Derived.Test.YtmbmopiicofhdaaUtfR
import Derived.Test.YtmbmopiicofhdaaGap
import Derived.Test.YtmbmopiicofhdaaCluM
import Derived.Test.YtmbmopiicofhdaaCluJ
import Derived.Test.YtmbmopiicofhdaaCluN
import Derived.Test.YtmbmopiicofhdaaCluL
import Derived.Test.YtmbmopiicofhdaaCluP
import Derived.Test.YtmbmopiicofhdaaCluR
import Derived.Test.YtmbmopiicofhdaaCluQ
import Derived.Test.YtmbmopiicofhdaaCluK
set_option linter.unusedVariables false
set_option linter.unusedSimpArgs false
namespace Go.Proofs.Ytmbmopiicofhdaa.clusterJoins
open Go.ChangeShapes Go.WideShapes Go.ChangeAt Go.RowKit
open Go.ChangeMaps (open_string shut_string)

theorem own : ownKnob Try.prog.godebug = none := by kernel_rfl
theorem laidOut : laidOutB Try.prog = true := by kernel_rfl

open Um Cm Gm
theorem map_take (X : List Int) (k : Nat) (h : k < X.length) : (X.take (k + 1)).map Gr.kindZ = (X.take k).map Gr.kindZ ++ [Gr.kindZ (X.getD k 0)] := by
  rw [List.take_succ_eq_append_getElem h, List.map_append, List.getD_eq_getElem?_getD, List.getElem?_eq_getElem h]; rfl

set_option maxHeartbeats 4000000 in
set_option maxRecDepth 100000 in
theorem walk (w : World) (v0 : Value) (xs0 : List Int) (w0 : Lst w v0 xs0) (b0 : ∀ n ∈ xs0, -9223372036854775808 ≤ n ∧ n ≤ 9223372036854775807) (a1 : Int) (w1 : -9223372036854775808 ≤ a1 ∧ a1 ≤ 9223372036854775807) :
    Calls Try.prog 3 #[v0, .int .i64 a1] w fun e w' => e = .returned (.bool true) ∧ Q w w' := by
  obtain ⟨ad0, cp0, rfl, hlc0, hcm0⟩ := w0.shape2
  unfold maxLen at hcm0
  obtain ⟨n0, hn0⟩ : ∃ n : Nat, n = min xs0.length 8 := ⟨_, rfl⟩
  have hnl0 : n0 ≤ xs0.length := by omega
  have h60 : n0 ≤ 8 := by omega
  have hr0 := w0.take n0 hnl0
  have hb0 : ∀ n ∈ xs0.take n0, -9223372036854775808 ≤ n ∧ n ≤ 9223372036854775807 := fun n hn => b0 n (List.mem_of_mem_take hn)
  have ht0 : (xs0.take n0).length = n0 := by rw [List.length_take]; omega
  generalize hX : xs0.take n0 = X at *
  obtain ⟨L0, hL0⟩ : ∃ L, L = xs0.length := ⟨_, rfl⟩
  rw [← hL0] at hlc0 hnl0 ⊢
  have hcase0 : (L0 ≤ 8 ∧ L0 = n0) ∨ (8 < L0 ∧ n0 = 8) := by omega
  have hcn0 : n0 ≤ cp0 := by omega
  clear hn0 hX hL0 w0 b0
  have H0 := Lib.hid hr0
  have HT := Lib.hid ht0
  have HB := Lib.hid hb0
  have P1 := Lib.hid (fun (w : World) (v : Value) (c : Int) (h : Lst w v X) => joined_any v X c w h (by omega))
  have P2 := Lib.hid (fun (w : World) (v : Value) (c : Int) (h : Lst w v X) => Gr.joined_any v X c w h (by omega))
  have P3 := Lib.hid (fun (w : World) (v : Value) (c : Int) (h : Lst w v (X.map Gr.kindZ)) => joined_any v (X.map Gr.kindZ) c w h (by rw [List.length_map]; omega))
  have P4 := Lib.hid (fun (w : World) (v : Value) (c : Int) (h : Lst w v (X.map Gr.kindZ)) => Gr.joined_any v (X.map Gr.kindZ) c w h (by rw [List.length_map]; omega))
  have hj := Gr.refR_jn X (cls a1)
  have hk := Gr.refR_jn (X.map Gr.kindZ) (cls (Gr.kindZ a1))
  have hc := Gr.refR_jn (X.map Gr.kindZ) (cls a1)
  have K1 := Lib.hid (fun w => Gr.kind_any a1 w w1.1 w1.2)
  have HJ := Lib.hid hj
  have HK := Lib.hid hk
  have HC := Lib.hid hc
  clear hr0 hb0 ht0 hj hk hc
  rcases hcase0 with ⟨g0, rfl⟩ | ⟨g0, rfl⟩
  all_goals
    first | have hmn : min (L0 : Int) 8 = (L0 : Int) := by omega | have hmn : min (L0 : Int) 8 = 8 := by omega
    go_enter Try.func3, Try.ntmps3
    go_wp2_with fail
    go_loopw [6, 7] (fun o i wr => ∃ j : Nat, i = .int .i64 j ∧ j ≤ X.length ∧ Own wr w.heap.size o ((X.take j).map Gr.kindZ) ∧ Q w wr) (fun _ i _ => X.length - (intOf i).toNat)
    case atStart => exact ⟨0, rfl, by omega, Own.nil _ _, Q.refl _⟩
    case round =>
      obtain ⟨j, rfl, hj, hown, hq⟩ := hrel
      rw [HT.out] at hj
      have hqs := hq.le
      by_cases hlt : j < X.length
      · rw [HT.out] at hlt
        obtain ⟨g, off, cap, hvv, hg, _, _, c1⟩ := (H0.out.q hq).cellOf HT.out hlt
        cases hvv
        have hkb := HB.out (X.getD j 0) (by
          rw [List.getD_eq_getElem?_getD, List.getElem?_eq_getElem (by rw [HT.out]; exact hlt)]
          exact List.getElem_mem _)
        have hmt := map_take X j (by rw [HT.out]; exact hlt)
        have hlen : ((X.take j).map Gr.kindZ).length < 1099511627776 := by
          rw [List.length_map]
          have : (X.take j).length ≤ j := List.length_take_le _ _
          omega
        obtain ⟨p, hp⟩ : ∃ p, p = X.getD j 0 := ⟨_, rfl⟩
        rw [← hp] at c1 hkb hmt
        have HMT := Lib.hid hmt
        clear hp hmt
        go_wp2_with fail
        refine (Gr.kind_any p _ hkb.1 hkb.2).mono ?_
        rintro e u1 ⟨rfl, hq1⟩
        have hown1 := hown.q hq1
        have hqq1 := hq.trans hq1
        have hqs1 := hqq1.le
        go_wp2_with (at_builtin; refine push_int hown1 rfl _ _ rfl _ (by rfl) (by rfl) hlen hqs1 ?_; intro v' w4 hown4 hg4 hat4)
        go_roundw
        case rel => exact ⟨j + 1, by go_num, by rw [HT.out]; omega, by rw [HMT.out]; exact hown4, hqq1.grown hg4 (fun k h => (hown1.lt k h).1)⟩
        case measure => rw [HT.out]; simp [intOf]; omega
      · rw [HT.out] at hlt
        have he : X.take j = X := List.take_of_length_le (by rw [HT.out]; omega)
        rw [he] at hown
        have hown := hown.lst
        have HO := Lib.hid hown
        obtain ⟨ao, co, rfl, _, _⟩ := hown.form0 (n := X.length) (by rw [List.length_map])
        clear he hown
        have H0q := Lib.hid (H0.out.q hq)
        go_wp2_with fail
        refine (K1.out _).mono ?_
        rintro e u1 ⟨rfl, hq1⟩
        go_wp2_with fail
        refine (P1.out _ _ a1 (H0q.out.q hq1)).mono ?_
        rintro e u2 ⟨rfl, hq2⟩
        have hqq2 := hq1.trans hq2
        go_wp2_with fail
        refine (P2.out _ _ a1 (H0q.out.q hqq2)).mono ?_
        rintro e u3 ⟨rfl, hq3⟩
        have hqq3 := hqq2.trans hq3
        rw [HJ.out]
        go_wp2_with fail
        refine (P3.out _ _ _ (HO.out.q hqq3)).mono ?_
        rintro e u4 ⟨rfl, hq4⟩
        have hqq4 := hqq3.trans hq4
        go_wp2_with fail
        refine (P4.out _ _ _ (HO.out.q hqq4)).mono ?_
        rintro e u5 ⟨rfl, hq5⟩
        have hqq5 := hqq4.trans hq5
        rw [HK.out]
        go_wp2_with fail
        refine (P3.out _ _ _ (HO.out.q hqq5)).mono ?_
        rintro e u6 ⟨rfl, hq6⟩
        have hqq6 := hqq5.trans hq6
        go_wp2_with fail
        refine (P4.out _ _ _ (HO.out.q hqq6)).mono ?_
        rintro e u7 ⟨rfl, hq7⟩
        have hqq7 := hqq6.trans hq7
        rw [HC.out]
        go_wp2_with fail
        refine (joined_nil _ a1 _ (Lst.nil _ none 0 (by unfold maxLen; omega) (fun _ => rfl))).mono ?_
        rintro e u8 ⟨rfl, hq8⟩
        rw [jn_st0]
        have hqq8 := hqq7.trans hq8
        go_wp2_with fail
        refine (Gr.lives_any _).mono ?_
        rintro e u9 ⟨rfl, hq9⟩
        go_wp2_with fail
        go_ret
        exact ⟨rfl, (hq.trans hqq8).trans hq9⟩

set_option maxRecDepth 100000 in
theorem lifted (os : Os) (started : os.Started) (H : Type) (enc : TypeId × Value → H) :
    ReturnsInHanded {} Try.checked os 3 .any (Rows.clusterJoinsSpec.pre6 enc Try.prog Try.f3 Rows.clusterJoinsRow.domain false) (Rows.clusterJoinsSpec.post enc Try.prog Try.f3 false true false false) := by
  refine returnsInHanded_of_change (C := Try.checked) own started (by kernel_rfl) Try.func3
    (ChangeSpec.witness6 (enc := enc) (C := Try.checked) false ⟨#[], #[.slice none 0 0, .int .i64 0], []⟩ 8 (by kernel_rfl) (by kernel_rfl) (by kernel_rfl) (by kernel_rfl)) ?_
  intro W base args ds gs before hval0 hW hcnd _
  have hval : ∀ (j : Nat) t v, Try.f3.params[j]? = some t → args[j]? = some v → Value.okWide Try.prog W .any base t v := hval0
  have hW' := hW
  obtain ⟨p, q, hA0, hV, rfl, hfz, hnd⟩ := hW
  have hA : DataW.TrodAll enc Try.prog W 0 (fun _ => true) true Try.f3.params.toList args.toList ds p := hA0
  rw [Try.params3] at hA hval
  obtain ⟨v0, vs0, d0, ds0, p0, q0, hargs, rfl, rfl, h0, r0⟩ := trodAll_cons hA
  obtain ⟨v1, vs1, d1, ds1, p1, q1, rfl, rfl, rfl, h1, r1⟩ := trodAll_cons r0
  obtain ⟨rfl, rfl, rfl⟩ := trodAll_nil r1
  obtain rfl : args = #[v0, v1] := by cases args; simp_all
  obtain ⟨rfl, rfl⟩ := trodVars_none hV
  obtain ⟨a0, len0, cap0, rfl⟩ := okWide_slice Try.underlying22 (hval 0 22 v0 rfl rfl)
  have k0 := h0
  have lt0 : ∀ x ∈ p0, x.block < W.heap.size := by obtain ⟨m, hm⟩ := k0; exact DataW.trod_lt m _ _ _ hm
  obtain ⟨z0, w0⟩ : ∃ zs, IsRow .i64 W a0 len0 cap0 zs := by
    obtain ⟨fuel, hf⟩ := h0
    rcases open_ints Try.underlying22 Try.underlying3 (by kernel_rfl) hf with ⟨hcs, _⟩ | ⟨x, l, c, zs, hcs, _, hl, hm, hz, _, hcell, hwz⟩
    · simp [Value.cells] at hcs
      obtain ⟨rfl, rfl, rfl⟩ := hcs
      exact ⟨[], .inl ⟨rfl, rfl, rfl, rfl⟩⟩
    · simp [Value.cells] at hcs
      obtain ⟨rfl, rfl, rfl⟩ := hcs
      exact ⟨zs, .inr ⟨_, rfl, hl, hm, by simpa using hz, hcell, hwz⟩⟩
  obtain ⟨xs0, l0, _, b0⟩ := w0.lst
  obtain ⟨a1, rfl, rfl, rfl, w1⟩ := open_int Try.underlying3 (hval 1 3 v1 rfl rfl) h1
  clear hA0 hval0
  refine (walk W (.slice a0 len0 cap0) xs0 l0 b0 a1 (bounds_i64 w1)).mono fun e W' ⟨he, bel⟩ => ?_
  subst he
  exact ⟨_, rfl, _, _, _, [], _, [], hW', trodAll_mk1 (shut_bool Try.underlying4 _), (trodAll_cons_mk (Below.trod laidOut (by kernel_rfl) (of_decide_eq_true (by kernel_rfl)) k0 bel lt0) (trodAll_cons_mk (shut_int Try.underlying3 w1) trodAll_mk0)), rfl, bel.below.frame _, fun h => by cases h⟩

/-- The statement. -/
theorem proved : Rows.ClusterJoinsSaid :=
  OpenClaim.holds_of_wide 3 Try.f3 rfl rfl rfl rfl rfl rfl rfl ⟨rfl, rfl, rfl, rfl, rfl⟩ rfl rfl rfl rfl rfl (by kernel_rfl) Try.func3 (by kernel_rfl)
    (of_decide_eq_true (by kernel_rfl)) (by unfold Func.isWrapper; first | (rw [if_pos (by decide +kernel)]; kernel_rfl) | (rw [if_neg (by decide +kernel)]; exact ⟨rfl, rfl⟩))
    (fun os started H enc _ => lifted os started H enc)
#print axioms proved
end Go.Proofs.Ytmbmopiicofhdaa.clusterJoins
