/- ClusterStarts: of whatever text (its first 40 bytes), and of one of whatever numbers (the first 10) made characters of any class: where clusters begin, how many there are, which they are, how many bytes the first and the last one have, is the document's; no conditions. -/
import Derived.Test.YtmbmopiicofhdaaRows
import Derived.WalkKit
import Derived.ProofKit
import Derived.OpenShut
import Derived.ShutString
import Derived.ChangeOld
import Derived.Below
import Derived.Test.YtmbmopiicofhdaaInts
import Derived.Test.YtmbmopiicofhdaaUtfM
import Derived.Test.YtmbmopiicofhdaaUtfG
import Derived.Test.YtmbmopiicofhdaaClsM
import Derived.Test.YtmbmopiicofhdaaPairs
import Derived.Test.YtmbmopiicofhdaaRun
import Derived.Test.YtmbmopiicofhdaaClsE
import Derived.Test.YtmbmopiicofhdaaClsW
import Derived.Test.YtmbmopiicofhdaaClsR
import Derived.Test.YtmbmopiicofhdaaUtfR
import Derived.Test.YtmbmopiicofhdaaUtfW
import Derived.Test.YtmbmopiicofhdaaUtfL
import Derived.Test.YtmbmopiicofhdaaGap
import Derived.Test.YtmbmopiicofhdaaRng
import Derived.Test.YtmbmopiicofhdaaEls
import Derived.Test.YtmbmopiicofhdaaCluM
import Derived.Test.YtmbmopiicofhdaaCluJ
import Derived.Test.YtmbmopiicofhdaaCluB
import Derived.Test.YtmbmopiicofhdaaCluS
import Derived.Test.YtmbmopiicofhdaaCluN
import Derived.Test.YtmbmopiicofhdaaCluL
import Derived.Test.YtmbmopiicofhdaaCluP
import Derived.Test.YtmbmopiicofhdaaCluR
import Derived.Test.YtmbmopiicofhdaaCluQ
import Derived.Test.YtmbmopiicofhdaaCluK
set_option linter.unusedVariables false
set_option linter.unusedSimpArgs false
namespace Go.Proofs.Ytmbmopiicofhdaa.clusterStarts
open Go.ChangeShapes Go.WideShapes Go.ChangeAt Go.RowKit
open Go.ChangeMaps (open_string shut_string)

theorem own : ownKnob Try.prog.godebug = none := by kernel_rfl
theorem laidOut : laidOutB Try.prog = true := by kernel_rfl

open Um Cm Gm
theorem map_take (X : List Int) (k : Nat) (h : k < X.length) : (X.take (k + 1)).map Gr.kindZ = (X.take k).map Gr.kindZ ++ [Gr.kindZ (X.getD k 0)] := by
  rw [List.take_succ_eq_append_getElem h, List.map_append, List.getD_eq_getElem?_getD, List.getElem?_eq_getElem h]; rfl
/-- The pieces so far, joined. -/
def pre (T : ByteArray) (k : Nat) : List UInt8 := ((List.range k).map (pc T (stL1 T.data.toList))).flatMap fun p => p.data.toList
theorem pre_step (T : ByteArray) (k : Nat) : pre T (k + 1) = pre T k ++ (pc T (stL1 T.data.toList) k).data.toList := by
  unfold pre
  rw [List.range_succ, List.map_append, List.flatMap_append]
  simp
theorem pre_all (T : ByteArray) : pre T (begL T.data.toList).length = T.data.toList := pcs_all T
theorem pre_len (T : ByteArray) (k : Nat) (h : k ≤ (begL T.data.toList).length) : (pre T k).length ≤ T.size := by
  unfold pre
  rw [pcs_take T k h, List.length_take, size_list]
  exact Nat.min_le_right _ _
theorem pcs_at (T : ByteArray) (k : Nat) (h : k < (begL T.data.toList).length) : (pcs T)[k]? = some (pc T (stL1 T.data.toList) k) := by
  unfold pcs
  rw [List.getElem?_map, List.getElem?_range h]; rfl
theorem pc_size (T : ByteArray) (S : List Int) (k : Nat) : (pc T S k).size ≤ T.size := by
  unfold pc
  rw [ByteArray.size_extract]; omega
theorem one_int (L : List UInt8) (n : Nat) (h : n = (begL L).length) : oneB L = ((n : Int) == 1) := by
  rw [oneB_eq, ← h, Bool.eq_iff_iff]; simp; omega

set_option maxHeartbeats 8000000 in
set_option maxRecDepth 100000 in
theorem walk (w : World) (a0 : ByteArray) (w0 : a0.size ≤ maxLen) (v1 : Value) (xs1 : List Int) (w1 : Lst w v1 xs1) (b1 : ∀ n ∈ xs1, -9223372036854775808 ≤ n ∧ n ≤ 9223372036854775807) :
    Calls Try.prog 4 #[.string a0, v1] w fun e w' => e = .returned (.bool true) ∧ Q w w' := by
  obtain ⟨ad0, cp0, rfl, hlc0, hcm0⟩ := w1.shape2
  unfold maxLen at hcm0
  have hf := Ur.few_any a0 40
  have hfs := Ur.few_size a0 40
  generalize Ur.few a0 40 = t0 at *
  obtain ⟨L0, hL0⟩ : ∃ L, L = xs1.length := ⟨_, rfl⟩
  obtain ⟨n0, hn0⟩ : ∃ n : Nat, n = min L0 10 := ⟨_, rfl⟩
  rw [← hL0] at hlc0 ⊢
  have HF := Lib.hid (fun w => hf w w0 (by omega))
  have HL := Lib.hid hL0
  have h10 : n0 ≤ 10 := by omega
  have h11 : n0 ≤ L0 := by omega
  have h12 : n0 = L0 ∨ n0 = 10 := by omega
  have hjl : ((xs1.take n0).map Gr.kindZ).length ≤ 10 := by rw [List.length_map, List.length_take]; omega
  have hjs : (⟨(joinL ((xs1.take n0).map Gr.kindZ)).toArray⟩ : ByteArray).size ≤ 40 := by
    have := joinL_length ((xs1.take n0).map Gr.kindZ)
    rw [← size_list]
    show (joinL ((xs1.take n0).map Gr.kindZ)).toArray.toList.length ≤ 40
    rw [List.toList_toArray]
    omega
  have HJ := Lib.hid (fun (v : Value) (w : World) (h : Lst w v ((xs1.take n0).map Gr.kindZ)) => Ur.join_any v _ w h (by omega))
  generalize hT1 : (⟨(joinL ((xs1.take n0).map Gr.kindZ)).toArray⟩ : ByteArray) = t1 at *
  have hT : ∀ k, k < 2 → ∃ T, [t0, t1][k]? = some T ∧ T.size ≤ 40 := by
    intro k hk
    have : k = 0 ∨ k = 1 := by omega
    rcases this with rfl | rfl
    · exact ⟨t0, rfl, hfs⟩
    · exact ⟨t1, rfl, hjs⟩
  have HT := Lib.hid hT
  have H1 := Lib.hid w1
  have HB := Lib.hid b1
  clear hf hL0 hn0 hT hT1 hjl w1 b1
  go_enter Try.func4, Try.ntmps4
  go_wp2_with fail
  go_loopw [5, 6] (fun o i wr => ∃ j : Nat, i = .int .i64 j ∧ j ≤ n0 ∧ Own wr w.heap.size o ((xs1.take j).map Gr.kindZ) ∧ Q w wr) (fun _ i _ => n0 - (intOf i).toNat)
  case atStart => exact ⟨0, rfl, by omega, Own.nil _ _, Q.refl _⟩
  case round =>
    obtain ⟨j, rfl, hj, hown, hq⟩ := hrel
    have hqs := hq.le
    by_cases hlt : j < n0
    · have hj1 : (j : Int) < (L0 : Int) := by omega
      have hj2 : (j : Int) < 10 := by omega
      obtain ⟨g, off, cap, hvv, hg, _, _, c1⟩ := (H1.out.q hq).cellOf HL.out.symm (by omega : j < L0)
      cases hvv
      have hkb := HB.out (xs1.getD j 0) (by
        rw [List.getD_eq_getElem?_getD, List.getElem?_eq_getElem (by rw [← HL.out]; omega)]
        exact List.getElem_mem _)
      have hmt := map_take xs1 j (by rw [← HL.out]; omega)
      have hlen : ((xs1.take j).map Gr.kindZ).length < 1099511627776 := by
        rw [List.length_map]
        have : (xs1.take j).length ≤ j := List.length_take_le _ _
        omega
      obtain ⟨p, hp⟩ : ∃ p, p = xs1.getD j 0 := ⟨_, rfl⟩
      rw [← hp] at c1 hkb hmt
      have HMT := Lib.hid hmt
      clear hp hmt
      go_wp2_with fail
      refine (Gr.kind_any p _ hkb.1 hkb.2).mono ?_
      rintro e u1 ⟨rfl, hq1⟩
      have hown1 := hown.q hq1
      have hqq1 := hq.trans hq1
      have hqs1 := hqq1.le
      go_wp2_with (at_builtin; refine push_int hown1 rfl _ _ rfl _ (by rfl) (by rfl) hlen hqs1 ?_; intro v' w4 hown4 hg4 hat4)
      go_roundw
      case rel => exact ⟨j + 1, by go_num, by omega, by rw [HMT.out]; exact hown4, hqq1.grown hg4 (fun k h => (hown1.lt k h).1)⟩
      case measure => simp [intOf]; omega
    · have he : j = n0 := by omega
      rw [he] at hown
      have hown := hown.lst
      have HO := Lib.hid hown
      obtain ⟨ao, co, rfl, _, _⟩ := hown.form0 (n := n0) (by rw [List.length_map, List.length_take]; have := HL.out; omega)
      clear he hown
      have hnot : (¬ (j : Int) < (L0 : Int)) ∨ ((j : Int) < (L0 : Int) ∧ ¬ (j : Int) < 10) := by omega
      rcases hnot with hn1 | ⟨hn1, hn2⟩
      all_goals
        go_wp2_with fail
        refine (HF.out _).mono ?_
        rintro e u1 ⟨rfl, rfl⟩
        go_wp2_with fail
        refine (HJ.out _ _ HO.out).mono ?_
        rintro e u1 ⟨rfl, hq1⟩
        have hal := GLst.made Value.string 9 u1 [t0, t1] 2 rfl (by unfold maxLen; omega)
        have hqa : Q w (u1.alloc (.cells ([t0, t1].map Value.string).toArray 9)) := (hq.trans hq1).alloc _
        simp only [List.map_cons, List.map_nil] at hal hqa
        have HA := Lib.hid hal
        have HQA := Lib.hid hqa
        clear hal hqa
        go_wp2_with fail
        have hua : u1.heap.size < (u1.alloc (.cells #[.string t0, .string t1] 9)).heap.size := by simp
        generalize hW : u1.alloc (.cells #[.string t0, .string t1] 9) = W at hua HA HQA ⊢
        generalize hB1 : u1.heap.size = B1 at hua HA ⊢
        clear hW hB1 hqs hq hq1
        go_loopw [8] (fun i wr => ∃ k : Nat, i = .int .i64 k ∧ k ≤ 2 ∧ Q W wr) (fun i _ => 2 - (intOf i).toNat)
        case atStart => exact ⟨0, rfl, by omega, Q.refl _⟩
        case round =>
          obtain ⟨k, rfl, hk, hq⟩ := hrel
          by_cases hk2 : k < 2
          · obtain ⟨T, hTk, hTs⟩ := HT.out k hk2
            have hca : ∀ u, Q W u → u.cell? ⟨B1, k, none⟩ = some (.string T) := by
              intro u hu
              obtain ⟨g, off, cap, hv, hg, _, _, hc⟩ := (HA.out.q hu).cellOf (n := 2) rfl hTk
              cases hv
              rw [Nat.zero_add] at hc
              exact hc
            have c1 := hca wr hq
            obtain ⟨n, hn⟩ : ∃ n, n = (begL T.data.toList).length := ⟨_, rfl⟩
            have hnb := begL_length T.data.toList
            rw [size_list, ← hn] at hnb
            have C1 := Lib.hid (fun w => Gr.starts_any T w (by omega))
            have C2 := Lib.hid (fun w => csplit_any T w (by omega))
            have hC3 := fun w => cstarts_any T w (by omega)
            have e1 : begL T.data.toList ++ [(T.size : Int)] = stL1 T.data.toList := by unfold stL1; rw [size_list]
            rw [e1] at hC3
            have C3 := Lib.hid hC3
            have hC4 := fun w => clen_any T w (by omega)
            rw [← hn] at hC4
            have C4 := Lib.hid hC4
            have C8 := Lib.hid (fun w => Gr.split_any T w (by omega))
            have hC5 := fun w => cfirst_any T w (by omega)
            have hC6 := fun w => clast_any T w (by omega)
            have hC7 := fun w => cone_any T w (by omega)
            rw [one_int _ n hn] at hC7
            have hsl := stL1_length T.data.toList
            rw [← hn] at hsl
            have HSL := Lib.hid hsl
            have HCA := Lib.hid hca
            have HPS := Lib.hid (fun j => pre_step T j)
            have hpa := pre_all T
            rw [← hn] at hpa
            have HPA := Lib.hid hpa
            have HPL := Lib.hid (fun j (h : j ≤ n) => pre_len T j (by rw [← hn]; exact h))
            have HPAT := Lib.hid (fun j (h : j < n) => pcs_at T j (by rw [← hn]; exact h))
            have hpl := pcs_length T
            rw [← hn] at hpl
            have HPLN := Lib.hid hpl
            have HZ := Lib.hid (begL_zero T.data.toList)
            have hfz : n = 0 → frsL T.data.toList = 0 ∧ (T.size : Int) - lastB (begL T.data.toList) = 0 := by
              intro h0
              have hnil := (begL_zero T.data.toList).1 (by rw [← hn]; exact h0)
              rw [hnil, ← size_list, hnil]
              exact ⟨rfl, rfl⟩
            have hfp : 0 < n → frsL T.data.toList = (stL1 T.data.toList).getD 1 0 ∧ (T.size : Int) - lastB (begL T.data.toList) = (stL1 T.data.toList).getD n 0 - (stL1 T.data.toList).getD (n - 1) 0 := by
              intro h0
              have hne : T.data.toList ≠ [] := by
                intro h
                have := (begL_zero T.data.toList).2 h
                omega
              have hl := stL1_last T.data.toList
              rw [← hn] at hl
              have hb := lastB_eq T.data.toList hne
              rw [← hn] at hb
              rw [frsL_eq _ hne, hl, hb, size_list]
              exact ⟨rfl, rfl⟩
            have hgt := fun i (h : i < n + 1) => stL1_get T.data.toList i (by rw [hsl]; exact h)
            rw [size_list] at hgt
            clear hC3 hC4 hn hsl hca hpa hpl e1 hTk
            go_wp2_with fail
            refine (C1.out _).mono ?_
            rintro e v1 ⟨va, rfl, hva, hq1⟩
            have hqq1 := hq.trans hq1
            have c1 := HCA.out _ hqq1
            go_wp2_with fail
            refine (C2.out _).mono ?_
            rintro e v2 ⟨vs, rfl, hvs, hq2⟩
            have hqq2 := hqq1.trans hq2
            have c1 := HCA.out _ hqq2
            have hva2 := hva.q hq2
            obtain ⟨ga, ca, rfl, _, hgal, _, _, hcell⟩ := hva2.form1 (by intro h; have := HSL.out; rw [h] at this; simp at this)
            rw [HSL.out] at hcell ⊢
            have hva2 := hva2.lst
            rw [HSL.out] at hva2
            by_cases hn0 : n = 0
            · subst hn0
              obtain ⟨z1, z2⟩ := hfz rfl
              rw [z1] at hC5
              rw [z2] at hC6
              rw [show (((0 : Nat) : Int) == 1) = false from rfl] at hC7
              have C5 := Lib.hid hC5
              have C6 := Lib.hid hC6
              have C7 := Lib.hid hC7
              clear hC5 hC6 hC7 hfz hfp hgt hcell z1 z2
              go_wp2_with fail
              refine (C3.out _).mono ?_
              rintro e v3 ⟨vb, rfl, hvb, hq3⟩
              have hqq3 := hqq2.trans hq3
              go_wp2_with fail
              refine (Ur.same_any _ _ _ _ _ hvb.lst (hva2.q hq3) (by rw [HSL.out]; omega) (by rw [HSL.out]; omega)).mono ?_
              rintro e v4 ⟨rfl, hq4⟩
              have hqq4 := hqq3.trans hq4
              rw [decide_eq_true (rfl : stL1 T.data.toList = stL1 T.data.toList)]
              have c1 := HCA.out _ hqq4
              go_wp2_with fail
              refine (C4.out _).mono ?_
              rintro e v5 ⟨rfl, hq5⟩
              have hqq5 := hqq4.trans hq5
              have c1 := HCA.out _ hqq5
              go_wp2_with fail
              refine (C5.out _).mono ?_
              rintro e v6 ⟨rfl, hq6⟩
              have hqq6 := hqq5.trans hq6
              have c1 := HCA.out _ hqq6
              go_wp2_with fail
              refine (C6.out _).mono ?_
              rintro e v7 ⟨rfl, hq7⟩
              have hqq7 := hqq6.trans hq7
              have c1 := HCA.out _ hqq7
              go_wp2_with fail
              refine (C7.out _).mono ?_
              rintro e v8 ⟨rfl, hq8⟩
              have hqq8 := hqq7.trans hq8
              have c1 := HCA.out _ hqq8
              go_wp2_with fail
              refine (C8.out _).mono ?_
              rintro e v9 ⟨vt, rfl, hvt, hq9⟩
              have hqq9 := hqq8.trans hq9
              have hvs9 := hvs.lst.q (((((((hq3.trans hq4).trans hq5).trans hq6).trans hq7).trans hq8).trans hq9))
              go_wp2_with fail
              refine (Gr.sames_any _ _ _ _ _ hvs9 hvt.lst (by rw [HPLN.out]; omega) (by rw [HPLN.out]; omega)).mono ?_
              rintro e v10 ⟨rfl, hq10⟩
              have hqq10 := hqq9.trans hq10
              rw [decide_eq_true (rfl : pcs T = pcs T)]
              have hvs10 := hvs9.q hq10
              obtain ⟨sa, sc, rfl, _, _⟩ := hvs10.form0 HPLN.out
              have HVS := Lib.hid hvs10
              clear hvb hvt hvs9 hvs10 hva2 hvs c1
              go_wp2_with fail
              go_loopw [14, 15] (fun p i wr => ∃ (j : Nat) (P : ByteArray), i = .int .i64 j ∧ p = .string P ∧ j ≤ 0 ∧ P.data.toList = pre T j ∧ Q v10 wr) (fun _ i _ => 0 - (intOf i).toNat)
              case atStart => exact ⟨0, ByteArray.empty, rfl, rfl, by omega, rfl, Q.refl _⟩
              case round =>
                obtain ⟨j, P, rfl, rfl, hj, hP, hqi⟩ := hrel
                have hPs : P.size ≤ T.size := by
                  have := HPL.out j hj
                  rw [← hP, size_list] at this
                  exact this
                have HP := Lib.hid hP
                clear hP
                by_cases hjn : j < 0
                · omega
                · have hjn2 : j = 0 := by omega
                  have hPT : P = T := ba_ext (by rw [HP.out, hjn2, HPA.out])
                  have hqw := hqq10.trans hqi
                  have c1 := HCA.out _ hqw
                  clear HP hjn2
                  subst hPT
                  go_wp2_with fail
                  go_roundw
                  case rel => exact ⟨k + 1, by go_num, by omega, hqw⟩
                  case measure => simp [intOf]; omega
            · have hp0 : 0 < n := by omega
              obtain ⟨z1, z2⟩ := hfp hp0
              rw [z1] at hC5
              rw [z2] at hC6
              have d1 := hcell 1 (by omega)
              have d2 := hcell n (by omega)
              have d3 := hcell (n - 1) (by omega)
              have g1 := hgt 1 (by omega)
              have g2 := hgt n (by omega)
              have g3 := hgt (n - 1) (by omega)
              clear z1 z2 hcell hgt hfz hfp
              generalize (stL1 T.data.toList).getD 1 0 = x1 at hC5 d1 g1
              generalize (stL1 T.data.toList).getD n 0 = x2 at hC6 d2 g2
              generalize (stL1 T.data.toList).getD (n - 1) 0 = x3 at hC6 d3 g3
              obtain ⟨m, hm⟩ : ∃ m, n = m + 1 := ⟨n - 1, by omega⟩
              subst hm
              rw [Nat.add_sub_cancel] at d3
              have i1 : (0 : Int) ≤ (m : Int) := by omega
              have i2 : (m : Int) + 1 - 1 = (m : Int) := by omega
              have i3 : IntKind.i64.wrap ((m : Int) + 1 - 1) = (m : Int) := by rw [i2]; exact IntWalk.i64_in _ (by omega)
              have i4 : IntKind.i64.wrap (m : Int) = (m : Int) := IntWalk.i64_in _ (by omega)
              have i5 : IntKind.i64.wrap (x2 - x3) = x2 - x3 := IntWalk.i64_in _ (by omega)
              have i6 : (0 : Int) ≤ (m : Int) + 1 := by omega
              have i7 : ((m : Int) + 1).toNat = m + 1 := by omega
              have C5 := Lib.hid hC5
              have C6 := Lib.hid hC6
              have C7 := Lib.hid hC7
              clear hC5 hC6 hC7
              go_wp2_with fail
              go_quiet (fail)
              have hqd := (Q.refl v2).drewN nq
              have hqq2 := hqq2.drewN nq
              have hva2 := hva2.q hqd
              have hvs := hvs.q hqd
              have c1 := HCA.out _ hqq2
              clear d1 d2 d3 i1 i2 i3 i4 i5 i6 i7
              go_wp2_with fail
              refine (C3.out _).mono ?_
              rintro e v3 ⟨vb, rfl, hvb, hq3⟩
              have hqq3 := hqq2.trans hq3
              go_wp2_with fail
              refine (Ur.same_any _ _ _ _ _ hvb.lst (hva2.q hq3) (by rw [HSL.out]; omega) (by rw [HSL.out]; omega)).mono ?_
              rintro e v4 ⟨rfl, hq4⟩
              have hqq4 := hqq3.trans hq4
              rw [decide_eq_true (rfl : stL1 T.data.toList = stL1 T.data.toList)]
              have c1 := HCA.out _ hqq4
              go_wp2_with fail
              refine (C4.out _).mono ?_
              rintro e v5 ⟨rfl, hq5⟩
              have hqq5 := hqq4.trans hq5
              have c1 := HCA.out _ hqq5
              go_wp2_with fail
              refine (C5.out _).mono ?_
              rintro e v6 ⟨rfl, hq6⟩
              have hqq6 := hqq5.trans hq6
              have c1 := HCA.out _ hqq6
              go_wp2_with fail
              refine (C6.out _).mono ?_
              rintro e v7 ⟨rfl, hq7⟩
              have hqq7 := hqq6.trans hq7
              have c1 := HCA.out _ hqq7
              go_wp2_with fail
              refine (C7.out _).mono ?_
              rintro e v8 ⟨rfl, hq8⟩
              have hqq8 := hqq7.trans hq8
              have c1 := HCA.out _ hqq8
              go_wp2_with fail
              refine (C8.out _).mono ?_
              rintro e v9 ⟨vt, rfl, hvt, hq9⟩
              have hqq9 := hqq8.trans hq9
              have hvs9 := hvs.lst.q (((((((hq3.trans hq4).trans hq5).trans hq6).trans hq7).trans hq8).trans hq9))
              go_wp2_with fail
              refine (Gr.sames_any _ _ _ _ _ hvs9 hvt.lst (by rw [HPLN.out]; omega) (by rw [HPLN.out]; omega)).mono ?_
              rintro e v10 ⟨rfl, hq10⟩
              have hqq10 := hqq9.trans hq10
              rw [decide_eq_true (rfl : pcs T = pcs T)]
              have hvs10 := hvs9.q hq10
              obtain ⟨sa, sc, rfl, _, _⟩ := hvs10.form0 HPLN.out
              have HVS := Lib.hid hvs10
              clear hvb hvt hvs9 hvs10 hva2 hvs c1
              go_wp2_with fail
              go_loopw [14, 15] (fun p i wr => ∃ (j : Nat) (P : ByteArray), i = .int .i64 j ∧ p = .string P ∧ j ≤ m + 1 ∧ P.data.toList = pre T j ∧ Q v10 wr) (fun _ i _ => m + 1 - (intOf i).toNat)
              case atStart => exact ⟨0, ByteArray.empty, rfl, rfl, by omega, rfl, Q.refl _⟩
              case round =>
                obtain ⟨j, P, rfl, rfl, hj, hP, hqi⟩ := hrel
                have hPs : P.size ≤ T.size := by
                  have := HPL.out j hj
                  rw [← hP, size_list] at this
                  exact this
                have HP := Lib.hid hP
                clear hP
                by_cases hjn : j < m + 1
                · obtain ⟨g2, o2, k2, hv2, _, _, _, d1⟩ := (HVS.out.q hqi).cellOf HPLN.out (HPAT.out j hjn)
                  cases hv2
                  have hps := pc_size T (stL1 T.data.toList) j
                  have hst := HPS.out j
                  rw [← HP.out] at hst
                  generalize pc T (stL1 T.data.toList) j = q at d1 hps hst
                  have HST := Lib.hid hst
                  clear hst
                  go_wp2_with fail
                  go_roundw
                  case rel => exact ⟨j + 1, P ++ q, by go_num, rfl, by omega, by rw [HST.out, ByteArray.data_append, Array.toList_append], hqi⟩
                  case measure => simp [intOf]; omega
                · have hjn2 : j = m + 1 := by omega
                  have hPT : P = T := ba_ext (by rw [HP.out, hjn2, HPA.out])
                  have hqw := hqq10.trans hqi
                  have c1 := HCA.out _ hqw
                  clear HP hjn2
                  subst hPT
                  go_wp2_with fail
                  go_roundw
                  case rel => exact ⟨k + 1, by go_num, by omega, hqw⟩
                  case measure => simp [intOf]; omega
          · go_wp2_with fail
            refine (Gr.lives_any _).mono ?_
            rintro e v3 ⟨rfl, hq3⟩
            go_wp2_with fail
            go_ret
            exact ⟨rfl, (HQA.out.trans hq).trans hq3⟩

set_option maxRecDepth 100000 in
theorem lifted (os : Os) (started : os.Started) (H : Type) (enc : TypeId × Value → H) :
    ReturnsInHanded {} Try.checked os 4 .any (Rows.clusterStartsSpec.pre6 enc Try.prog Try.f4 Rows.clusterStartsRow.domain false) (Rows.clusterStartsSpec.post enc Try.prog Try.f4 false true false false) := by
  refine returnsInHanded_of_change (C := Try.checked) own started (by kernel_rfl) Try.func4
    (ChangeSpec.witness6 (enc := enc) (C := Try.checked) false ⟨#[], #[.string ByteArray.empty, .slice none 0 0], []⟩ 8 (by kernel_rfl) (by kernel_rfl) (by kernel_rfl) (by kernel_rfl)) ?_
  intro W base args ds gs before hval0 hW hcnd _
  have hval : ∀ (j : Nat) t v, Try.f4.params[j]? = some t → args[j]? = some v → Value.okWide Try.prog W .any base t v := hval0
  have hW' := hW
  obtain ⟨p, q, hA0, hV, rfl, hfz, hnd⟩ := hW
  have hA : DataW.TrodAll enc Try.prog W 0 (fun _ => true) true Try.f4.params.toList args.toList ds p := hA0
  rw [Try.params4] at hA hval
  obtain ⟨v0, vs0, d0, ds0, p0, q0, hargs, rfl, rfl, h0, r0⟩ := trodAll_cons hA
  obtain ⟨v1, vs1, d1, ds1, p1, q1, rfl, rfl, rfl, h1, r1⟩ := trodAll_cons r0
  obtain ⟨rfl, rfl, rfl⟩ := trodAll_nil r1
  obtain rfl : args = #[v0, v1] := by cases args; simp_all
  obtain ⟨rfl, rfl⟩ := trodVars_none hV
  obtain ⟨a0, rfl, rfl, rfl, w0⟩ := open_string Try.underlying9 (hval 0 9 v0 rfl rfl) h0
  obtain ⟨a1, len1, cap1, rfl⟩ := okWide_slice Try.underlying22 (hval 1 22 v1 rfl rfl)
  have k1 := h1
  have lt1 : ∀ x ∈ p1, x.block < W.heap.size := by obtain ⟨m, hm⟩ := k1; exact DataW.trod_lt m _ _ _ hm
  obtain ⟨z1, w1⟩ : ∃ zs, IsRow .i64 W a1 len1 cap1 zs := by
    obtain ⟨fuel, hf⟩ := h1
    rcases open_ints Try.underlying22 Try.underlying3 (by kernel_rfl) hf with ⟨hcs, _⟩ | ⟨x, l, c, zs, hcs, _, hl, hm, hz, _, hcell, hwz⟩
    · simp [Value.cells] at hcs
      obtain ⟨rfl, rfl, rfl⟩ := hcs
      exact ⟨[], .inl ⟨rfl, rfl, rfl, rfl⟩⟩
    · simp [Value.cells] at hcs
      obtain ⟨rfl, rfl, rfl⟩ := hcs
      exact ⟨zs, .inr ⟨_, rfl, hl, hm, by simpa using hz, hcell, hwz⟩⟩
  obtain ⟨xs1, l1, _, b1⟩ := w1.lst
  clear hA0 hval0
  refine (walk W a0 w0 (.slice a1 len1 cap1) xs1 l1 b1).mono fun e W' ⟨he, bel⟩ => ?_
  subst he
  exact ⟨_, rfl, _, _, _, [], _, [], hW', trodAll_mk1 (shut_bool Try.underlying4 _), (trodAll_cons_mk (shut_string Try.underlying9 w0) (trodAll_cons_mk (Below.trod laidOut (by kernel_rfl) (of_decide_eq_true (by kernel_rfl)) k1 bel lt1) trodAll_mk0)), rfl, bel.below.frame _, fun h => by cases h⟩

/-- The statement. -/
theorem proved : Rows.ClusterStartsSaid :=
  OpenClaim.holds_of_wide 4 Try.f4 rfl rfl rfl rfl rfl rfl rfl ⟨rfl, rfl, rfl, rfl, rfl⟩ rfl rfl rfl rfl rfl (by kernel_rfl) Try.func4 (by kernel_rfl)
    (of_decide_eq_true (by kernel_rfl)) (by unfold Func.isWrapper; first | (rw [if_pos (by decide +kernel)]; kernel_rfl) | (rw [if_neg (by decide +kernel)]; exact ⟨rfl, rfl⟩))
    (fun os started H enc _ => lifted os started H enc)
#print axioms proved
end Go.Proofs.Ytmbmopiicofhdaa.clusterStarts
