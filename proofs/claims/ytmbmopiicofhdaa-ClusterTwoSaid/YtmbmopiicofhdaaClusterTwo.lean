/- ClusterTwo: of whatever two lists (the first 8 numbers of each, made characters of any class), a letter between: what stands ahead of the letter, but Prepend, changes no cluster behind; no conditions. -/
import Derived.Test.YtmbmopiicofhdaaRows
import Derived.WalkKit
import Derived.ProofKit
import Derived.OpenShut
import Derived.ShutString
import Derived.ChangeOld
import Derived.Below
import Derived.Test.YtmbmopiicofhdaaInts
import Derived.Test.YtmbmopiicofhdaaUtfM
import Derived.Test.YtmbmopiicofhdaaUtfG
import Derived.Test.YtmbmopiicofhdaaClsM
import Derived.Test.YtmbmopiicofhdaaPairs
import Derived.Test.YtmbmopiicofhdaaRun
import Derived.Test.YtmbmopiicofhdaaClsE
import Derived.Test.YtmbmopiicofhdaaClsW
import Derived.Test.YtmbmopiicofhdaaClsR
import Derived.Test.YtmbmopiicofhdaaUtfR
import Derived.Test.YtmbmopiicofhdaaUtfW
import Derived.Test.YtmbmopiicofhdaaUtfL
import Derived.Test.YtmbmopiicofhdaaGap
import Derived.Test.YtmbmopiicofhdaaRng
import Derived.Test.YtmbmopiicofhdaaEls
import Derived.Test.YtmbmopiicofhdaaCluM
import Derived.Test.YtmbmopiicofhdaaCluJ
import Derived.Test.YtmbmopiicofhdaaCluB
import Derived.Test.YtmbmopiicofhdaaCluS
import Derived.Test.YtmbmopiicofhdaaCluN
import Derived.Test.YtmbmopiicofhdaaCluL
import Derived.Test.YtmbmopiicofhdaaCluP
import Derived.Test.YtmbmopiicofhdaaCluR
import Derived.Test.YtmbmopiicofhdaaCluQ
import Derived.Test.YtmbmopiicofhdaaCluK
set_option linter.unusedVariables false
set_option linter.unusedSimpArgs false
namespace Go.Proofs.Ytmbmopiicofhdaa.clusterTwo
open Go.ChangeShapes Go.WideShapes Go.ChangeAt Go.RowKit
open Go.ChangeMaps (open_string shut_string)

theorem own : ownKnob Try.prog.godebug = none := by kernel_rfl
theorem laidOut : laidOutB Try.prog = true := by kernel_rfl

open Um Cm Gm
theorem map_take (X : List Int) (k : Nat) (h : k < X.length) : (X.take (k + 1)).map Gr.kindZ = (X.take k).map Gr.kindZ ++ [Gr.kindZ (X.getD k 0)] := by
  rw [List.take_succ_eq_append_getElem h, List.map_append, List.getD_eq_getElem?_getD, List.getElem?_eq_getElem h]; rfl
theorem jn_zero (t : St) (h : t.k ≠ 7) : jn t 0 = false := by
  obtain ⟨a, d, s, o⟩ := t
  simp only at h
  have hs : sylB a 0 = false := by
    unfold sylB
    split
    · decide
    · split
      · decide
      · split <;> decide
  unfold jn pairB
  simp only [show decide ((0 : Int) = 14) = false from rfl, show decide ((0 : Int) = 6) = false from rfl, Bool.and_false, Bool.or_false]
  split
  · rfl
  · rw [if_neg (by omega)]
    split
    · rfl
    · simp [h, hs]
theorem stL_k (X : List Int) (h : X ≠ []) : (stL X).k = cls (X.getD (X.length - 1) 0) := by
  obtain ⟨r, c, rfl⟩ : ∃ r c, X = r ++ [c] := ⟨X.dropLast, X.getLast h, (List.dropLast_concat_getLast h).symm⟩
  rw [stL_snoc]
  simp [stp]
theorem cls_letter : cls 65 = 0 := by decide +kernel
theorem kinds_vld (X : List Int) : ∀ c ∈ X.map Gr.kindZ, vld c = true := by
  intro c hc
  obtain ⟨d, _, rfl⟩ := List.mem_map.1 hc
  exact Gr.kindZ_vld d
theorem two_pcs (X Y : List Int) (hX : ∀ c ∈ X, vld c = true) (hY : ∀ c ∈ Y, vld c = true) (h7 : X = [] ∨ cls (X.getD (X.length - 1) 0) ≠ 7) :
    pcs ((⟨(joinL X).toArray⟩ : ByteArray) ++ ⟨(joinL (65 :: Y)).toArray⟩) = pcs ⟨(joinL X).toArray⟩ ++ pcs ⟨(joinL (65 :: Y)).toArray⟩ := by
  have h65 : vld 65 = true := by decide +kernel
  have hY' : ∀ c ∈ 65 :: Y, vld c = true := by
    intro c hc
    rcases List.mem_cons.1 hc with rfl | hc
    · exact h65
    · exact hY c hc
  have hm1 := marks_join0 X hX
  have hm2 := marks_join0 (65 :: Y) hY'
  refine pcs_part _ _ ?_ ?_
  · show marks (joinL X ++ joinL (65 :: Y)) = marks (joinL X) ++ marks (joinL (65 :: Y))
    rw [marks_join X _ hX, hm1]
  · intro hne
    show jn (stMs (marks (joinL X))) (cls (mrk (joinL (65 :: Y))).1) = false
    have e : joinL (65 :: Y) = enc 65 ++ joinL Y := by
      unfold joinL
      rw [List.flatMap_cons, one, if_pos h65]
    rw [e, mark_enc _ _ h65, hm1]
    have hs : stMs (X.map fun c => (c, (enc c).length, true)) = stL X := by
      unfold stMs
      rw [List.map_map]
      exact congrArg stL (List.map_id' X)
    rw [hs]
    show jn (stL X) (cls 65) = false
    rw [cls_letter]
    refine jn_zero _ ?_
    by_cases h0 : X = []
    · subst h0; decide
    · rw [stL_k X h0]
      rcases h7 with h7 | h7
      · exact absurd h7 h0
      · omega
theorem join_size (X : List Int) (n : Nat) (h : X.length ≤ n) : (⟨(joinL X).toArray⟩ : ByteArray).size ≤ 4 * n := by
  have := joinL_length X
  rw [← size_list]
  show (joinL X).toArray.toList.length ≤ 4 * n
  rw [List.toList_toArray]
  omega

set_option maxHeartbeats 8000000 in
set_option maxRecDepth 100000 in
theorem walk (w : World) (v0 : Value) (xs0 : List Int) (w0 : Lst w v0 xs0) (b0 : ∀ n ∈ xs0, -9223372036854775808 ≤ n ∧ n ≤ 9223372036854775807) (v1 : Value) (xs1 : List Int) (w1 : Lst w v1 xs1) (b1 : ∀ n ∈ xs1, -9223372036854775808 ≤ n ∧ n ≤ 9223372036854775807) :
    Calls Try.prog 5 #[v0, v1] w fun e w' => e = .returned (.bool true) ∧ Q w w' := by
  obtain ⟨ad0, cp0, rfl, hlc0, hcm0⟩ := w0.shape2
  obtain ⟨ad1, cp1, rfl, hlc1, hcm1⟩ := w1.shape2
  unfold maxLen at hcm0 hcm1
  obtain ⟨L0, hL0⟩ : ∃ L, L = xs0.length := ⟨_, rfl⟩
  obtain ⟨L1, hL1⟩ : ∃ L, L = xs1.length := ⟨_, rfl⟩
  obtain ⟨n0, hn0⟩ : ∃ n : Nat, n = min L0 8 := ⟨_, rfl⟩
  obtain ⟨n1, hn1⟩ : ∃ n : Nat, n = min L1 8 := ⟨_, rfl⟩
  rw [← hL0] at hlc0 ⊢
  rw [← hL1] at hlc1 ⊢
  have HL0 := Lib.hid hL0
  have HL1 := Lib.hid hL1
  have h08 : n0 ≤ 8 := by omega
  have h01 : n0 ≤ L0 := by omega
  have h02 : n0 = L0 ∨ n0 = 8 := by omega
  have h18 : n1 ≤ 8 := by omega
  have h11 : n1 ≤ L1 := by omega
  have h12 : n1 = L1 ∨ n1 = 8 := by omega
  have H0 := Lib.hid w0
  have H1 := Lib.hid w1
  have HB0 := Lib.hid b0
  have HB1 := Lib.hid b1
  clear hL0 hL1 hn0 hn1 w0 w1 b0 b1
  go_enter Try.func5, Try.ntmps5
  go_wp2_with fail
  go_loopw [5, 6] (fun o i wr => ∃ j : Nat, i = .int .i64 j ∧ j ≤ n0 ∧ Own wr w.heap.size o ((xs0.take j).map Gr.kindZ) ∧ Q w wr) (fun _ i _ => n0 - (intOf i).toNat)
  case atStart => exact ⟨0, rfl, by omega, Own.nil _ _, Q.refl _⟩
  case round =>
    obtain ⟨j, rfl, hj, hown, hq⟩ := hrel
    have hqs := hq.le
    by_cases hlt : j < n0
    · have hj1 : (j : Int) < (L0 : Int) := by omega
      have hj2 : (j : Int) < 8 := by omega
      obtain ⟨g, off, cap, hvv, hg, _, _, c1⟩ := (H0.out.q hq).cellOf HL0.out.symm (by omega : j < L0)
      cases hvv
      have hkb := HB0.out (xs0.getD j 0) (by
        rw [List.getD_eq_getElem?_getD, List.getElem?_eq_getElem (by rw [← HL0.out]; omega)]
        exact List.getElem_mem _)
      have hmt := map_take xs0 j (by rw [← HL0.out]; omega)
      have hlen : ((xs0.take j).map Gr.kindZ).length < 1099511627776 := by
        rw [List.length_map]
        have : (xs0.take j).length ≤ j := List.length_take_le _ _
        omega
      obtain ⟨p, hp⟩ : ∃ p, p = xs0.getD j 0 := ⟨_, rfl⟩
      rw [← hp] at c1 hkb hmt
      have HMT := Lib.hid hmt
      clear hp hmt
      go_wp2_with fail
      refine (Gr.kind_any p _ hkb.1 hkb.2).mono ?_
      rintro e u1 ⟨rfl, hq1⟩
      have hown1 := hown.q hq1
      have hqq1 := hq.trans hq1
      have hqs1 := hqq1.le
      go_wp2_with (at_builtin; refine push_int hown1 rfl _ _ rfl _ (by rfl) (by rfl) hlen hqs1 ?_; intro v' w4 hown4 hg4 hat4)
      go_roundw
      case rel => exact ⟨j + 1, by go_num, by omega, by rw [HMT.out]; exact hown4, hqq1.grown hg4 (fun k h => (hown1.lt k h).1)⟩
      case measure => simp [intOf]; omega
    · have he : j = n0 := by omega
      rw [he] at hown
      have hXl : ((xs0.take n0).map Gr.kindZ).length = n0 := by rw [List.length_map, List.length_take]; have := HL0.out; omega
      have hXv := kinds_vld (xs0.take n0)
      have hown := hown.lst
      generalize (xs0.take n0).map Gr.kindZ = X at hown hXl hXv
      obtain ⟨ax, cx, rfl, hcx, hcxm⟩ := hown.form0 hXl
      unfold maxLen at hcxm
      have HX := Lib.hid hown
      have HXL := Lib.hid hXl
      have HXV := Lib.hid hXv
      clear he hown hXl hXv
      have hnot : (¬ (j : Int) < (L0 : Int)) ∨ ((j : Int) < (L0 : Int) ∧ ¬ (j : Int) < 8) := by omega
      have hn65 : Own wr wr.heap.size (.slice none 0 0) [] := Own.nil _ _
      rcases hnot with hn1 | ⟨hn1, hn2⟩
      all_goals
        go_wp2_with (at_builtin; refine push_int hn65 rfl _ _ rfl 65 (by rfl) (by rfl) (by simp) (Nat.le_refl _) ?_; intro vy w4 hy4 hg4 hat4)
        have hq4 : Q wr w4 := (Q.refl wr).grown hg4 (fun k h => by cases h)
        have hy4 : Own w4 wr.heap.size vy [65] := hy4
        obtain ⟨gy, cy, hvy, _⟩ := hy4.form1 (by simp)
        have hvy : vy = .slice (some ⟨gy, 0, none⟩) 1 cy := hvy
        subst hvy
        go_wp2_with fail
        go_loopw [7, 8] (fun o i wi => ∃ m : Nat, i = .int .i64 m ∧ m ≤ n1 ∧ Own wi wr.heap.size o (65 :: (xs1.take m).map Gr.kindZ) ∧ Q wr wi) (fun _ i _ => n1 - (intOf i).toNat)
        case atStart => exact ⟨0, rfl, by omega, hy4, hq4⟩
        case round =>
          obtain ⟨m, rfl, hm, howny, hqi⟩ := hrel
          have hqis := hqi.le
          by_cases hmt : m < n1
          · have hm1 : (m : Int) < (L1 : Int) := by omega
            have hm2 : (m : Int) < 8 := by omega
            obtain ⟨g, off, cap, hvv, hg, _, _, c1⟩ := (H1.out.q (hq.trans hqi)).cellOf HL1.out.symm (by omega : m < L1)
            cases hvv
            have hkb := HB1.out (xs1.getD m 0) (by
              rw [List.getD_eq_getElem?_getD, List.getElem?_eq_getElem (by rw [← HL1.out]; omega)]
              exact List.getElem_mem _)
            have hmt := map_take xs1 m (by rw [← HL1.out]; omega)
            have hlen : (65 :: (xs1.take m).map Gr.kindZ).length < 1099511627776 := by
              rw [List.length_cons, List.length_map]
              have : (xs1.take m).length ≤ m := List.length_take_le _ _
              omega
            obtain ⟨p, hp⟩ : ∃ p, p = xs1.getD m 0 := ⟨_, rfl⟩
            rw [← hp] at c1 hkb hmt
            have HMT := Lib.hid hmt
            clear hp hmt
            go_wp2_with fail
            refine (Gr.kind_any p _ hkb.1 hkb.2).mono ?_
            rintro e u1 ⟨rfl, hq1⟩
            have hown1 := howny.q hq1
            have hqq1 := hqi.trans hq1
            have hqs1 := hqq1.le
            go_wp2_with (at_builtin; refine push_int hown1 rfl _ _ rfl _ (by rfl) (by rfl) hlen hqs1 ?_; intro v' w5 hown5 hg5 hat5)
            go_roundw
            case rel => exact ⟨m + 1, by go_num, by omega, by rw [HMT.out, ← List.cons_append]; exact hown5, hqq1.grown hg5 (fun k h => (hown1.lt k h).1)⟩
            case measure => simp [intOf]; omega
          · have he : m = n1 := by omega
            rw [he] at howny
            have hYl : (65 :: (xs1.take n1).map Gr.kindZ).length = n1 + 1 := by rw [List.length_cons, List.length_map, List.length_take]; have := HL1.out; omega
            have hYv := kinds_vld (xs1.take n1)
            have howny := howny.lst
            generalize (xs1.take n1).map Gr.kindZ = Y at howny hYl hYv
            obtain ⟨ay, cy, rfl, hcy, hcym⟩ := howny.form0 hYl
            have hqq := hq.trans hqi
            have htp := two_pcs X Y HXV.out hYv
            have hS := join_size X 8 (by have := HXL.out; omega)
            have hT := join_size (65 :: Y) 9 (by omega)
            have HJ1 := Lib.hid (fun (v : Value) (w : World) (h : Lst w v X) => Ur.join_any v X w h (by have := HXL.out; omega))
            have HJ2 := Lib.hid (fun (v : Value) (w : World) (h : Lst w v (65 :: Y)) => Ur.join_any v (65 :: Y) w h (by omega))
            generalize (⟨(joinL X).toArray⟩ : ByteArray) = S at htp hS HJ1
            generalize (⟨(joinL (65 :: Y)).toArray⟩ : ByteArray) = T at htp hT HJ2
            have HY := Lib.hid howny
            have HX' := Lib.hid (HX.out.q hqi)
            have HTP := Lib.hid htp
            clear he howny hYl hYv htp hy4 hq4
            have hnot2 : (¬ (m : Int) < (L1 : Int)) ∨ ((m : Int) < (L1 : Int) ∧ ¬ (m : Int) < 8) := by omega
            have hcase : n0 = 0 ∨ 0 < n0 := by omega
            rcases hcase with rfl | hp0
            · try (exfalso; omega)
              all_goals
                have hX0 : X = [] := List.eq_nil_of_length_eq_zero HXL.out
                have HX0 := Lib.hid hX0
                clear hX0
                rcases hnot2 with hm1 | ⟨hm1, hm2⟩
                all_goals
                  go_wp2_with fail
                  refine (HJ1.out _ _ (HX'.out)).mono ?_
                  rintro e u2 ⟨rfl, hq2⟩
                  have hr2 := ((Q.refl _)).trans hq2
                  go_wp2_with fail
                  refine (HJ2.out _ _ (HY.out.q hr2)).mono ?_
                  rintro e u3 ⟨rfl, hq3⟩
                  have hr3 := hr2.trans hq3
                  go_wp2_with fail
                  refine (csplit_any S _ (by omega)).mono ?_
                  rintro e u4 ⟨vs, rfl, hvs, hq4⟩
                  have hr4 := hr3.trans hq4
                  have hS32 : S.size ≤ 32 := by omega
                  have hT36 : T.size ≤ 36 := by omega
                  have hST : S.size + T.size ≤ 68 := by omega
                  have hSM : S.size + T.size ≤ 9223372036854775807 := by omega
                  have hSN : (S ++ T).size ≤ 68 := by rw [ByteArray.size_append]; exact hST
                  have hls := hvs.lst
                  have hl1 : ([] : List ByteArray).length + (pcs S).length < 1099511627776 := by
                    have h1 := begL_length S.data.toList
                    rw [size_list] at h1
                    rw [pcs_length]
                    show 0 + _ < _
                    omega
                  go_wp2_with (at_builtin; refine gpushl elemS oneS (GOwn.nil 9 Value.string u4 u4.heap.size) hls rfl _ _ rfl (by rfl) (by rfl) hl1 (Nat.le_refl _) ?_; intro vw u5 hw5 hg5 hat5)
                  have hw5 : SOwn u5 u4.heap.size vw (pcs S) := hw5
                  have hq5 : Q u4 u5 := (Q.refl u4).grown hg5 (fun k h => by cases h)
                  go_wp2_with fail
                  refine (csplit_any T _ (by omega)).mono ?_
                  rintro e u6 ⟨vt, rfl, hvt, hq6⟩
                  have hlt2 := hvt.lst
                  have hw6 := hw5.q hq6
                  have hz6 : u4.heap.size ≤ u6.heap.size := (hq5.trans hq6).le
                  have hl2 : (pcs S).length + (pcs T).length < 1099511627776 := by
                    have h1 := begL_length S.data.toList
                    have h2 := begL_length T.data.toList
                    rw [size_list] at h1 h2
                    rw [pcs_length, pcs_length]
                    omega
                  go_wp2_with (at_builtin; refine gpushl elemS oneS hw6 hlt2 rfl _ _ rfl (by rfl) (by rfl) hl2 hz6 ?_; intro vx u7 hw7 hg7 hat7)
                  have hq7 : Q u4 u7 := (hq5.trans hq6).grown hg7 (fun k h => (hw6.lt k h).1)
                  have hr7 := hr4.trans hq7
                  go_wp2_with fail
                  refine (csplit_any (S ++ T) _ (by rw [ByteArray.size_append]; omega)).mono ?_
                  rintro e u8 ⟨vu, rfl, hvu, hq8⟩
                  rw [HTP.out (.inl HX0.out)] at hvu
                  go_wp2_with fail
                  refine (Gr.sames_any _ _ _ _ _ hvu.lst (hw7.lst.q hq8) (by rw [List.length_append, pcs_length, pcs_length]; have h1 := begL_length S.data.toList; have h2 := begL_length T.data.toList; rw [size_list] at h1 h2; omega) (by rw [List.length_append, pcs_length, pcs_length]; have h1 := begL_length S.data.toList; have h2 := begL_length T.data.toList; rw [size_list] at h1 h2; omega)).mono ?_
                  rintro e u9 ⟨rfl, hq9⟩
                  rw [decide_eq_true (rfl : pcs S ++ pcs T = pcs S ++ pcs T)]
                  go_wp2_with fail
                  refine (Gr.lives_any _).mono ?_
                  rintro e u10 ⟨rfl, hq10⟩
                  go_wp2_with fail
                  go_ret
                  exact ⟨rfl, hqq.trans (((hr7.trans hq8).trans hq9).trans hq10)⟩
            · obtain ⟨g0, o0, k0, hv0, hgl, _, _, c1⟩ := HX'.out.cellOf HXL.out (by omega : n0 - 1 < n0)
              cases hv0
              have hmx : max ((n0 : Int) - 1) 0 = ((n0 - 1 : Nat) : Int) := by omega
              have hof := fun w => Cr.of_any (X.getD (n0 - 1) 0) w
              have h7 : cls (X.getD (n0 - 1) 0) ≠ 7 → X = [] ∨ cls (X.getD (X.length - 1) 0) ≠ 7 := by
                intro h
                rw [HXL.out]
                exact .inr h
              generalize X.getD (n0 - 1) 0 = x at c1 hof h7
              generalize cls x = kx at hof h7
              obtain ⟨n2, rfl⟩ : ∃ n2, n0 = n2 + 1 := ⟨n0 - 1, by omega⟩
              rw [Nat.add_sub_cancel] at c1 hmx
              have HOF := Lib.hid hof
              have H7 := Lib.hid h7
              clear hof h7
              by_cases hk7 : kx = 7
              · subst hk7
                rcases hnot2 with hm1 | ⟨hm1, hm2⟩
                all_goals
                  go_wp2_with fail
                  refine (HOF.out _).mono ?_
                  rintro e u1 ⟨rfl, hq1⟩
                  go_wp2_with fail
                  refine (Gr.lives_any _).mono ?_
                  rintro e u10 ⟨rfl, hq10⟩
                  go_wp2_with fail
                  go_ret
                  exact ⟨rfl, (hqq.trans hq1).trans hq10⟩
              · have e7 : ((kx : Int) == 7) = false := by rw [beq_eq_false_iff_ne]; omega
                have H7 := Lib.hid (H7.out hk7)
                clear hk7
                rcases hnot2 with hm1 | ⟨hm1, hm2⟩
                all_goals
                  go_wp2_with fail
                  refine (HOF.out _).mono ?_
                  rintro e u1 ⟨rfl, hq1⟩
                  go_wp2_with fail
                  refine (HJ1.out _ _ (HX'.out.q hq1)).mono ?_
                  rintro e u2 ⟨rfl, hq2⟩
                  have hr2 := (hq1).trans hq2
                  go_wp2_with fail
                  refine (HJ2.out _ _ (HY.out.q hr2)).mono ?_
                  rintro e u3 ⟨rfl, hq3⟩
                  have hr3 := hr2.trans hq3
                  go_wp2_with fail
                  refine (csplit_any S _ (by omega)).mono ?_
                  rintro e u4 ⟨vs, rfl, hvs, hq4⟩
                  have hr4 := hr3.trans hq4
                  have hS32 : S.size ≤ 32 := by omega
                  have hT36 : T.size ≤ 36 := by omega
                  have hST : S.size + T.size ≤ 68 := by omega
                  have hSM : S.size + T.size ≤ 9223372036854775807 := by omega
                  have hSN : (S ++ T).size ≤ 68 := by rw [ByteArray.size_append]; exact hST
                  have hls := hvs.lst
                  have hl1 : ([] : List ByteArray).length + (pcs S).length < 1099511627776 := by
                    have h1 := begL_length S.data.toList
                    rw [size_list] at h1
                    rw [pcs_length]
                    show 0 + _ < _
                    omega
                  go_wp2_with (at_builtin; refine gpushl elemS oneS (GOwn.nil 9 Value.string u4 u4.heap.size) hls rfl _ _ rfl (by rfl) (by rfl) hl1 (Nat.le_refl _) ?_; intro vw u5 hw5 hg5 hat5)
                  have hw5 : SOwn u5 u4.heap.size vw (pcs S) := hw5
                  have hq5 : Q u4 u5 := (Q.refl u4).grown hg5 (fun k h => by cases h)
                  go_wp2_with fail
                  refine (csplit_any T _ (by omega)).mono ?_
                  rintro e u6 ⟨vt, rfl, hvt, hq6⟩
                  have hlt2 := hvt.lst
                  have hw6 := hw5.q hq6
                  have hz6 : u4.heap.size ≤ u6.heap.size := (hq5.trans hq6).le
                  have hl2 : (pcs S).length + (pcs T).length < 1099511627776 := by
                    have h1 := begL_length S.data.toList
                    have h2 := begL_length T.data.toList
                    rw [size_list] at h1 h2
                    rw [pcs_length, pcs_length]
                    omega
                  go_wp2_with (at_builtin; refine gpushl elemS oneS hw6 hlt2 rfl _ _ rfl (by rfl) (by rfl) hl2 hz6 ?_; intro vx u7 hw7 hg7 hat7)
                  have hq7 : Q u4 u7 := (hq5.trans hq6).grown hg7 (fun k h => (hw6.lt k h).1)
                  have hr7 := hr4.trans hq7
                  go_wp2_with fail
                  refine (csplit_any (S ++ T) _ (by rw [ByteArray.size_append]; omega)).mono ?_
                  rintro e u8 ⟨vu, rfl, hvu, hq8⟩
                  rw [HTP.out H7.out] at hvu
                  go_wp2_with fail
                  refine (Gr.sames_any _ _ _ _ _ hvu.lst (hw7.lst.q hq8) (by rw [List.length_append, pcs_length, pcs_length]; have h1 := begL_length S.data.toList; have h2 := begL_length T.data.toList; rw [size_list] at h1 h2; omega) (by rw [List.length_append, pcs_length, pcs_length]; have h1 := begL_length S.data.toList; have h2 := begL_length T.data.toList; rw [size_list] at h1 h2; omega)).mono ?_
                  rintro e u9 ⟨rfl, hq9⟩
                  rw [decide_eq_true (rfl : pcs S ++ pcs T = pcs S ++ pcs T)]
                  go_wp2_with fail
                  refine (Gr.lives_any _).mono ?_
                  rintro e u10 ⟨rfl, hq10⟩
                  go_wp2_with fail
                  go_ret
                  exact ⟨rfl, hqq.trans (((hr7.trans hq8).trans hq9).trans hq10)⟩

set_option maxRecDepth 100000 in
theorem lifted (os : Os) (started : os.Started) (H : Type) (enc : TypeId × Value → H) :
    ReturnsInHanded {} Try.checked os 5 .any (Rows.clusterTwoSpec.pre6 enc Try.prog Try.f5 Rows.clusterTwoRow.domain false) (Rows.clusterTwoSpec.post enc Try.prog Try.f5 false true false false) := by
  refine returnsInHanded_of_change (C := Try.checked) own started (by kernel_rfl) Try.func5
    (ChangeSpec.witness6 (enc := enc) (C := Try.checked) false ⟨#[], #[.slice none 0 0, .slice none 0 0], []⟩ 8 (by kernel_rfl) (by kernel_rfl) (by kernel_rfl) (by kernel_rfl)) ?_
  intro W base args ds gs before hval0 hW hcnd _
  have hval : ∀ (j : Nat) t v, Try.f5.params[j]? = some t → args[j]? = some v → Value.okWide Try.prog W .any base t v := hval0
  have hW' := hW
  obtain ⟨p, q, hA0, hV, rfl, hfz, hnd⟩ := hW
  have hA : DataW.TrodAll enc Try.prog W 0 (fun _ => true) true Try.f5.params.toList args.toList ds p := hA0
  rw [Try.params5] at hA hval
  obtain ⟨v0, vs0, d0, ds0, p0, q0, hargs, rfl, rfl, h0, r0⟩ := trodAll_cons hA
  obtain ⟨v1, vs1, d1, ds1, p1, q1, rfl, rfl, rfl, h1, r1⟩ := trodAll_cons r0
  obtain ⟨rfl, rfl, rfl⟩ := trodAll_nil r1
  obtain rfl : args = #[v0, v1] := by cases args; simp_all
  obtain ⟨rfl, rfl⟩ := trodVars_none hV
  obtain ⟨a0, len0, cap0, rfl⟩ := okWide_slice Try.underlying22 (hval 0 22 v0 rfl rfl)
  have k0 := h0
  have lt0 : ∀ x ∈ p0, x.block < W.heap.size := by obtain ⟨m, hm⟩ := k0; exact DataW.trod_lt m _ _ _ hm
  obtain ⟨z0, w0⟩ : ∃ zs, IsRow .i64 W a0 len0 cap0 zs := by
    obtain ⟨fuel, hf⟩ := h0
    rcases open_ints Try.underlying22 Try.underlying3 (by kernel_rfl) hf with ⟨hcs, _⟩ | ⟨x, l, c, zs, hcs, _, hl, hm, hz, _, hcell, hwz⟩
    · simp [Value.cells] at hcs
      obtain ⟨rfl, rfl, rfl⟩ := hcs
      exact ⟨[], .inl ⟨rfl, rfl, rfl, rfl⟩⟩
    · simp [Value.cells] at hcs
      obtain ⟨rfl, rfl, rfl⟩ := hcs
      exact ⟨zs, .inr ⟨_, rfl, hl, hm, by simpa using hz, hcell, hwz⟩⟩
  obtain ⟨xs0, l0, _, b0⟩ := w0.lst
  obtain ⟨a1, len1, cap1, rfl⟩ := okWide_slice Try.underlying22 (hval 1 22 v1 rfl rfl)
  have k1 := h1
  have lt1 : ∀ x ∈ p1, x.block < W.heap.size := by obtain ⟨m, hm⟩ := k1; exact DataW.trod_lt m _ _ _ hm
  obtain ⟨z1, w1⟩ : ∃ zs, IsRow .i64 W a1 len1 cap1 zs := by
    obtain ⟨fuel, hf⟩ := h1
    rcases open_ints Try.underlying22 Try.underlying3 (by kernel_rfl) hf with ⟨hcs, _⟩ | ⟨x, l, c, zs, hcs, _, hl, hm, hz, _, hcell, hwz⟩
    · simp [Value.cells] at hcs
      obtain ⟨rfl, rfl, rfl⟩ := hcs
      exact ⟨[], .inl ⟨rfl, rfl, rfl, rfl⟩⟩
    · simp [Value.cells] at hcs
      obtain ⟨rfl, rfl, rfl⟩ := hcs
      exact ⟨zs, .inr ⟨_, rfl, hl, hm, by simpa using hz, hcell, hwz⟩⟩
  obtain ⟨xs1, l1, _, b1⟩ := w1.lst
  clear hA0 hval0
  refine (walk W (.slice a0 len0 cap0) xs0 l0 b0 (.slice a1 len1 cap1) xs1 l1 b1).mono fun e W' ⟨he, bel⟩ => ?_
  subst he
  exact ⟨_, rfl, _, _, _, [], _, [], hW', trodAll_mk1 (shut_bool Try.underlying4 _), (trodAll_cons_mk (Below.trod laidOut (by kernel_rfl) (of_decide_eq_true (by kernel_rfl)) k0 bel lt0) (trodAll_cons_mk (Below.trod laidOut (by kernel_rfl) (of_decide_eq_true (by kernel_rfl)) k1 bel lt1) trodAll_mk0)), rfl, bel.below.frame _, fun h => by cases h⟩

/-- The statement. -/
theorem proved : Rows.ClusterTwoSaid :=
  OpenClaim.holds_of_wide 5 Try.f5 rfl rfl rfl rfl rfl rfl rfl ⟨rfl, rfl, rfl, rfl, rfl⟩ rfl rfl rfl rfl rfl (by kernel_rfl) Try.func5 (by kernel_rfl)
    (of_decide_eq_true (by kernel_rfl)) (by unfold Func.isWrapper; first | (rw [if_pos (by decide +kernel)]; kernel_rfl) | (rw [if_neg (by decide +kernel)]; exact ⟨rfl, rfl⟩))
    (fun os started H enc _ => lifted os started H enc)
#print axioms proved
end Go.Proofs.Ytmbmopiicofhdaa.clusterTwo
