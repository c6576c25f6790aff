/- ClassRanges: of whatever class, raw and made 0 to 14, its ranges are the table's, rising, and of whatever character at the edge of a range it is in one of its own class's and in no other one's; no conditions. -/
import Derived.Test.YthafeggcmojbdaaRows
import Derived.WalkKit
import Derived.ProofKit
import Derived.OpenShut
import Derived.ShutString
import Derived.ChangeOld
import Derived.Below
import Derived.Test.YthafeggcmojbdaaInts
import Derived.Test.YthafeggcmojbdaaUtfM
import Derived.Test.YthafeggcmojbdaaUtfG
import Derived.Test.YthafeggcmojbdaaClsM
import Derived.Test.YthafeggcmojbdaaPairs
import Derived.Test.YthafeggcmojbdaaRun
import Derived.Test.YthafeggcmojbdaaClsE
import Derived.Test.YthafeggcmojbdaaClsW
import Derived.Test.YthafeggcmojbdaaClsR
import Derived.Test.YthafeggcmojbdaaClsA
import Derived.Test.YthafeggcmojbdaaClsT
import Derived.Test.YthafeggcmojbdaaClsD
set_option linter.unusedVariables false
set_option linter.unusedSimpArgs false
namespace Go.Proofs.Ythafeggcmojbdaa.classRanges
open Go.ChangeShapes Go.WideShapes Go.ChangeAt Go.RowKit
open Go.ChangeMaps (open_string shut_string)

theorem own : ownKnob Try.prog.godebug = none := by kernel_rfl
theorem laidOut : laidOutB Try.prog = true := by kernel_rfl

open Um Cm

set_option maxHeartbeats 8000000 in
set_option maxRecDepth 100000 in
theorem walk (w : World) (a0 : Int) (w0 : -9223372036854775808 ≤ a0 ∧ a0 ≤ 9223372036854775807) (a1 : Int) (w1 : -9223372036854775808 ≤ a1 ∧ a1 ≤ 9223372036854775807) (a2 : Int) (w2 : -9223372036854775808 ≤ a2 ∧ a2 ≤ 9223372036854775807) :
    Calls Try.prog 4 #[.int .i64 a0, .int .i64 a1, .int .i64 a2] w fun e w' => e = .returned (.bool true) ∧ Q w w' := by
  have hK := around_bd a0 15 (by omega)
  obtain ⟨m, hm⟩ : ∃ m : Nat, around a0 15 = (m : Int) := ⟨(around a0 15).toNat, by omega⟩
  have hm15 : m < 15 := by omega
  have A0 := fun w => Ur.around_any a0 15 w w0.1 w0.2 (by omega) (by omega)
  rw [hm] at A0
  have A0 := Lib.hid A0
  have A1 := Lib.hid (fun w => Cr.edge_any a1 a2 w w1.1 w1.2)
  have hC := edge_bd a1 a2
  generalize edge a1 a2 = c at *
  have HTOT := Lib.hid (tot c m hm15)
  have R0 := fun w => ranges_any (m : Int) w
  rw [rowZ_nat] at R0
  have R0 := Lib.hid R0
  have hl18 := rowZ_len (m : Int)
  rw [rowZ_nat] at hl18
  have HW : Hid (tab.filter (fun t => t.2.2 == (m : Int)) = (rowK m).map (fun r => (r.1, r.2, (m : Int)))) := Lib.hid (tab_rows ⟨m, hm15⟩)
  have HRAT := Lib.hid (fun j h => row_at (m := m) (j := j) hm15 h)
  have HRNX := Lib.hid (fun j h => row_next (m := m) (j := j) hm15 h)
  have O0 := Lib.hid (fun w => of_any c w)
  have hraw : (0 ≤ a0 ∧ a0 ≤ 14) ∨ (a0 < 0) ∨ (0 ≤ a0 ∧ 14 < a0) := by omega
  have RK := Lib.hid (fun w => ranges_any a0 w)
  have RN := Lib.hid (fun (h : a0 < 0 ∨ 14 < a0) => rowZ_none (k := a0) (by omega))
  clear hm hK w0 w1 w2
  obtain ⟨n, hn⟩ : ∃ n, n = (rowK m).length := ⟨_, rfl⟩
  rw [← hn] at hl18
  have HN := Lib.hid hn
  clear hn
  go_enter Try.func4, Try.ntmps4
  go_wp2_with fail
  refine (A0.out _).mono ?_
  rintro e u1 ⟨rfl, rfl⟩
  go_wp2_with fail
  refine (R0.out _).mono ?_
  rintro e u1 ⟨rv, rfl, hR, hq1⟩
  go_wp2_with fail
  refine (Cr.table_any _).mono ?_
  rintro e u2 ⟨tg, rfl, hT, hq2⟩
  have hR2 := hR.q hq2
  have hqq2 := hq1.trans hq2
  have HR2 := Lib.hid hR2
  clear hR hR2
  go_wp2_with fail
  go_loopw [9, 11] (fun v i wr => ∃ j : Nat, i = .int .i64 j ∧ j ≤ 66 ∧ OwnT wr u2.heap.size v ((tab.take j).filter (fun t => t.2.2 == (m : Int))) ∧ Q u2 wr) (fun _ i _ => 66 - (intOf i).toNat)
  case atStart => exact ⟨0, rfl, by omega, OwnT.nil _ _, Q.refl _⟩
  case round =>
    obtain ⟨j, rfl, hj, hown, hq⟩ := hrel
    by_cases hlt : j < 66
    · obtain ⟨c1, c2, c3⟩ := (hT.q hq).2 j (by rw [tab_len]; exact hlt)
      have hft := filter_take (fun t => t.2.2 == (m : Int)) j hlt
      have hfl : ((tab.take j).filter (fun t => t.2.2 == (m : Int))).length < 1073741824 := by
        have h1 := List.length_filter_le (fun t : Int × Int × Int => t.2.2 == (m : Int)) (tab.take j)
        have h2 := List.length_take_le j tab
        omega
      have HFT := Lib.hid hft
      clear hft
      obtain ⟨⟨r1, r2, r3⟩, hr⟩ : ∃ r, r = tab.getD j (0, 0, 0) := ⟨_, rfl⟩
      rw [← hr] at c1 c2 c3 HFT
      clear hr
      simp only at c1 c2 c3
      have hqs := hq.le
      by_cases hb : r3 = (m : Int)
      · have HB := Lib.hid (show (r3 == (m : Int)) = true from by rw [hb]; simp)
        subst hb
        generalize hF : (tab.take j).filter (fun t => t.2.2 == (m : Int)) = F at *
        have HF := Lib.hid hF
        clear hF
        go_wp2_with (at_builtin; refine push_triple hown rfl _ _ rfl _ _ _ (by rfl) (by rfl) hfl hqs ?_)
        intro v2 w2 hv2 hg2 _
        have hnew : OwnT w2 u2.heap.size v2 ((tab.take (j + 1)).filter (fun t => t.2.2 == (m : Int))) := by
          rw [HFT.out]
          simp only [BEq.rfl, if_true]
          exact hv2
        have HNEW := Lib.hid hnew
        have HQ := Lib.hid (hq.grown hg2 (fun g h => (hown.lt g h).1))
        clear hnew hv2 hg2
        go_wp2_with fail
        go_roundw
        case rel => exact ⟨j + 1, by go_num, by omega, HNEW.out, HQ.out⟩
        case measure => simp [intOf]; omega
      · have hb2 : (r3 == (m : Int)) = false := by rw [beq_eq_false_iff_ne]; exact hb
        have heq : (tab.take (j + 1)).filter (fun t => t.2.2 == (m : Int)) = (tab.take j).filter (fun t => t.2.2 == (m : Int)) := by
          rw [HFT.out]
          simp only [hb2, Bool.false_eq_true, if_false, List.append_nil]
        rw [← heq] at hown
        have HNEW := Lib.hid hown
        clear hown hb heq
        go_wp2_with fail
        go_roundw
        case rel => exact ⟨j + 1, by go_num, by omega, HNEW.out, hq⟩
        case measure => simp [intOf]; omega
    · have hke : tab.take j = tab := List.take_of_length_le (by rw [tab_len]; omega)
      rw [hke, HW.out] at hown
      clear hke
      obtain ⟨wa, wc, hvw, hwc1, hwc2, hwcell⟩ := hown.triples
      have hwl : ((rowK m).map (fun r => (r.1, r.2, (m : Int)))).length = n := by rw [List.length_map, HN.out]
      rw [hwl] at hvw hwc1 hwcell
      subst hvw
      obtain ⟨ra, rc, hvr, hrc1, hrc2, hrcell⟩ := (HR2.out.q hq).pairs
      rw [← HN.out] at hvr hrc1 hrcell
      subst hvr
      unfold maxLen at hwc2 hrc2
      have HWC := Lib.hid hwcell
      have HRC := Lib.hid hrcell
      have hqq := hqq2.trans hq
      clear hown hwl hwcell hrcell HR2 hT hq1 hq2 hqq2 HW
      have hnn : ((n : Int) != (n : Int)) = false := by simp
      rcases hraw with ⟨k0, k1⟩ | k0 | ⟨k0, k1⟩
      · go_wp2_with fail
        refine (A1.out _).mono ?_
        rintro e u3 ⟨rfl, hq3⟩
        have hqe : Q wr u3 := hq3
        have hqz := hqq.trans hq3
        obtain ⟨wo, rfl⟩ : ∃ wo : World, wo = wr := ⟨_, rfl⟩
        go_wp2_with fail
        go_loopw [13, 14] (fun t i wx => ∃ j : Nat, i = .int .i64 j ∧ j ≤ n ∧ t = .int .i64 (((rowK m).take j).countP (inR c) : Nat) ∧ Q u3 wx) (fun _ i _ => n - (intOf i).toNat)
        case atStart => exact ⟨0, rfl, by omega, rfl, Q.refl _⟩
        case round =>
          obtain ⟨j, rfl, hj, rfl, hqx⟩ := hrel
          by_cases hlt : j < n
          · have hjm : j < (rowK m).length := by rw [← HN.out]; exact hlt
            obtain ⟨gw, hgw, hgw2, x1, x2⟩ := HWC.out j hlt
            obtain ⟨gr, hgr, hgr2, y1, y2⟩ := HRC.out j hlt
            subst hgw
            subst hgr
            have hmp : (((rowK m).map (fun r => (r.1, r.2, (m : Int)))).getD j (0, 0, 0)) = (((rowK m).getD j (0, 0)).1, ((rowK m).getD j (0, 0)).2, (m : Int)) := by
              rw [List.getD_eq_getElem?_getD, List.getElem?_map, List.getD_eq_getElem?_getD, List.getElem?_eq_getElem hjm]; rfl
            rw [hmp] at x1 x2
            simp only at x1 x2
            have hqy := hqe.trans hqx
            have z1 := (World.cell?_of_block (w := wo) (hqy.block hgw2)).trans x1
            have z2 := (World.cell?_of_block (w := wo) (hqy.block hgw2)).trans x2
            have z3 := (World.cell?_of_block (w := wo) (hqy.block hgr2)).trans y1
            have z4 := (World.cell?_of_block (w := wo) (hqy.block hgr2)).trans y2
            have hrat := HRAT.out j hjm
            have hpv : 0 < j → wr.cell? ⟨gr, (j - 1) * 2 + 1, none⟩ = some (.int .i64 ((rowK m).getD (j - 1) (0, 0)).2) ∧ ((rowK m).getD (j - 1) (0, 0)).2 < ((rowK m).getD j (0, 0)).1 := by
              intro h0
              obtain ⟨g', hg', hg2', _, y3⟩ := HRC.out (j - 1) (by omega)
              cases hg'
              refine ⟨(World.cell?_of_block (w := wo) (hqy.block hg2')).trans y3, ?_⟩
              have := HRNX.out (j - 1) (by omega)
              rw [show j - 1 + 1 = j from by omega] at this
              exact this
            have hct := count_take c (rowK m) j hjm
            have hcl : ((rowK m).take j).countP (inR c) ≤ 18 := by
              have h1 := List.countP_le_length (p := inR c) (l := (rowK m).take j)
              have h2 := List.length_take_le j (rowK m)
              omega
            have HCT := Lib.hid hct
            have HPV := Lib.hid hpv
            clear hct hpv hmp x1 x2 y1 y2
            obtain ⟨⟨r1, r2⟩, hr⟩ : ∃ r, r = (rowK m).getD j (0, 0) := ⟨_, rfl⟩
            rw [← hr] at z1 z2 z3 z4 hrat HCT HPV
            clear hr
            simp only at z1 z2 z3 z4 hrat
            generalize ((rowK m).take j).countP (inR c) = q at *
            have p1 : (r1 != r1) = false := by simp
            have p2 : (r2 != r2) = false := by simp
            have p3 : decide (r2 < r1) = false := decide_eq_false (by omega)
            have hj0 : (0 : Int) ≤ (j : Int) := by omega
            have hjn : (j : Int) < (n : Int) := by omega
            have hcase : (r1 ≤ c ∧ c ≤ r2 ∧ Hid (inR c (r1, r2) = true)) ∨ (r1 ≤ c ∧ ¬ c ≤ r2 ∧ Hid (inR c (r1, r2) = false)) ∨ (¬ r1 ≤ c ∧ Hid (inR c (r1, r2) = false)) := by
              by_cases h1 : r1 ≤ c
              · by_cases h2 : c ≤ r2
                · exact .inl ⟨h1, h2, Lib.hid (by simp [inR, h1, h2])⟩
                · exact .inr (.inl ⟨h1, h2, Lib.hid (by simp [inR, h2])⟩)
              · exact .inr (.inr ⟨h1, Lib.hid (by simp [inR, h1])⟩)
            have hjc : j = 0 ∨ 0 < j := by omega
            rcases hjc with rfl | hjp
            · have q1 : decide ((0 : Int) < ((0 : Nat) : Int)) = false := by simp
              simp only [Nat.zero_mul, Nat.zero_add] at z1 z2 z3 z4
              rcases hcase with ⟨g1, g2, HB⟩ | ⟨g1, g2, HB⟩ | ⟨g1, HB⟩
              all_goals
                go_wp2_with fail
                go_quiet (fail)
                go_wp2_with fail
                go_roundw
                case rel => exact ⟨0 + 1, by go_num, by omega, by rw [HCT.out, HB.out]; go_num, hqx.drewN _⟩
                case measure => simp [intOf]; omega
            · obtain ⟨y5, y6⟩ := HPV.out hjp
              generalize ((rowK m).getD (j - 1) (0, 0)).2 = pv at *
              have p4 : decide (r1 ≤ pv) = false := decide_eq_false (by omega)
              have q1 : decide ((0 : Int) < (j : Int)) = true := decide_eq_true (by omega)
              have q2 : decide (0 < j) = true := decide_eq_true hjp
              have q4 : (0 : Int) ≤ (j : Int) - 1 := by omega
              have q5 : (j : Int) - 1 < (n : Int) := by omega
              have q6 : decide ((j : Int) - 1 < 0) = false := decide_eq_false (by omega)
              have q3 : IntKind.i64.wrap ((j : Int) - 1) = (j : Int) - 1 := IntWalk.i64_in _ (by omega)
              have q7 : max ((j : Int) - 1) 0 = (j : Int) - 1 := by omega
              have q8 : ((j : Int) - 1).toNat = j - 1 := by omega
              rcases hcase with ⟨g1, g2, HB⟩ | ⟨g1, g2, HB⟩ | ⟨g1, HB⟩
              all_goals
                go_wp2_with fail
                go_quiet (fail)
                clear q3 q7 q8
                go_wp2_with fail
                go_roundw
                case rel => exact ⟨j + 1, by go_num, by omega, by rw [HCT.out, HB.out]; go_num, hqx.drewN _⟩
                case measure => simp [intOf]; omega
          · have hke : (rowK m).take j = rowK m := List.take_of_length_le (by rw [← HN.out]; omega)
            rw [hke]
            have ht := HTOT.out
            rw [← HN.out] at ht
            generalize (rowK m).countP (inR c) = q at *
            have HRCx := HRC
            clear hke HRCx HTOT
            have h1 := O0.out
            rcases ht with ⟨n0, q0⟩ | ⟨n0, hc1, q0⟩ | ⟨n0, hc1, q0⟩
            · subst n0
              subst q0
              clear h1
              go_wp2_with fail
              refine (lives2_any _).mono ?_
              rintro e u5 ⟨rfl, hq5⟩
              go_wp2_with fail
              go_ret
              exact ⟨rfl, (hqz.trans hqx).trans hq5⟩
            · subst q0
              rw [hc1] at h1
              have H1 := Lib.hid h1
              clear h1 hc1
              go_wp2_with fail
              refine (H1.out _).mono ?_
              rintro e u4 ⟨rfl, hq4⟩
              go_wp2_with fail
              refine (lives2_any _).mono ?_
              rintro e u5 ⟨rfl, hq5⟩
              go_wp2_with fail
              go_ret
              exact ⟨rfl, ((hqz.trans hqx).trans hq4).trans hq5⟩
            · subst q0
              have hc2 : ((cls c : Int) == (m : Int)) = false := by rw [beq_eq_false_iff_ne]; omega
              generalize cls c = kk at *
              have H1 := Lib.hid h1
              clear h1 hc1
              go_wp2_with fail
              refine (H1.out _).mono ?_
              rintro e u4 ⟨rfl, hq4⟩
              go_wp2_with fail
              refine (lives2_any _).mono ?_
              rintro e u5 ⟨rfl, hq5⟩
              go_wp2_with fail
              go_ret
              exact ⟨rfl, ((hqz.trans hqx).trans hq4).trans hq5⟩
      · have hz := RK.out
        rw [RN.out (.inl k0)] at hz
        have HZ := Lib.hid hz
        clear hz
        go_wp2_with fail
        refine (HZ.out _).mono ?_
        rintro e u4 ⟨zv, rfl, hZ, hq4⟩
        obtain ⟨za, zc, rfl, _, _, _⟩ := hZ.pairs
        have HZZ := Lib.hid hZ
        clear hZ
        go_wp2_with fail
        refine (A1.out _).mono ?_
        rintro e u3 ⟨rfl, hq3⟩
        have hqe : Q wr u3 := hq4.trans hq3
        have hqz := hqq.trans hqe
        obtain ⟨wo, rfl⟩ : ∃ wo : World, wo = wr := ⟨_, rfl⟩
        go_wp2_with fail
        go_loopw [13, 14] (fun t i wx => ∃ j : Nat, i = .int .i64 j ∧ j ≤ n ∧ t = .int .i64 (((rowK m).take j).countP (inR c) : Nat) ∧ Q u3 wx) (fun _ i _ => n - (intOf i).toNat)
        case atStart => exact ⟨0, rfl, by omega, rfl, Q.refl _⟩
        case round =>
          obtain ⟨j, rfl, hj, rfl, hqx⟩ := hrel
          by_cases hlt : j < n
          · have hjm : j < (rowK m).length := by rw [← HN.out]; exact hlt
            obtain ⟨gw, hgw, hgw2, x1, x2⟩ := HWC.out j hlt
            obtain ⟨gr, hgr, hgr2, y1, y2⟩ := HRC.out j hlt
            subst hgw
            subst hgr
            have hmp : (((rowK m).map (fun r => (r.1, r.2, (m : Int)))).getD j (0, 0, 0)) = (((rowK m).getD j (0, 0)).1, ((rowK m).getD j (0, 0)).2, (m : Int)) := by
              rw [List.getD_eq_getElem?_getD, List.getElem?_map, List.getD_eq_getElem?_getD, List.getElem?_eq_getElem hjm]; rfl
            rw [hmp] at x1 x2
            simp only at x1 x2
            have hqy := hqe.trans hqx
            have z1 := (World.cell?_of_block (w := wo) (hqy.block hgw2)).trans x1
            have z2 := (World.cell?_of_block (w := wo) (hqy.block hgw2)).trans x2
            have z3 := (World.cell?_of_block (w := wo) (hqy.block hgr2)).trans y1
            have z4 := (World.cell?_of_block (w := wo) (hqy.block hgr2)).trans y2
            have hrat := HRAT.out j hjm
            have hpv : 0 < j → wr.cell? ⟨gr, (j - 1) * 2 + 1, none⟩ = some (.int .i64 ((rowK m).getD (j - 1) (0, 0)).2) ∧ ((rowK m).getD (j - 1) (0, 0)).2 < ((rowK m).getD j (0, 0)).1 := by
              intro h0
              obtain ⟨g', hg', hg2', _, y3⟩ := HRC.out (j - 1) (by omega)
              cases hg'
              refine ⟨(World.cell?_of_block (w := wo) (hqy.block hg2')).trans y3, ?_⟩
              have := HRNX.out (j - 1) (by omega)
              rw [show j - 1 + 1 = j from by omega] at this
              exact this
            have hct := count_take c (rowK m) j hjm
            have hcl : ((rowK m).take j).countP (inR c) ≤ 18 := by
              have h1 := List.countP_le_length (p := inR c) (l := (rowK m).take j)
              have h2 := List.length_take_le j (rowK m)
              omega
            have HCT := Lib.hid hct
            have HPV := Lib.hid hpv
            clear hct hpv hmp x1 x2 y1 y2
            obtain ⟨⟨r1, r2⟩, hr⟩ : ∃ r, r = (rowK m).getD j (0, 0) := ⟨_, rfl⟩
            rw [← hr] at z1 z2 z3 z4 hrat HCT HPV
            clear hr
            simp only at z1 z2 z3 z4 hrat
            generalize ((rowK m).take j).countP (inR c) = q at *
            have p1 : (r1 != r1) = false := by simp
            have p2 : (r2 != r2) = false := by simp
            have p3 : decide (r2 < r1) = false := decide_eq_false (by omega)
            have hj0 : (0 : Int) ≤ (j : Int) := by omega
            have hjn : (j : Int) < (n : Int) := by omega
            have hcase : (r1 ≤ c ∧ c ≤ r2 ∧ Hid (inR c (r1, r2) = true)) ∨ (r1 ≤ c ∧ ¬ c ≤ r2 ∧ Hid (inR c (r1, r2) = false)) ∨ (¬ r1 ≤ c ∧ Hid (inR c (r1, r2) = false)) := by
              by_cases h1 : r1 ≤ c
              · by_cases h2 : c ≤ r2
                · exact .inl ⟨h1, h2, Lib.hid (by simp [inR, h1, h2])⟩
                · exact .inr (.inl ⟨h1, h2, Lib.hid (by simp [inR, h2])⟩)
              · exact .inr (.inr ⟨h1, Lib.hid (by simp [inR, h1])⟩)
            have hjc : j = 0 ∨ 0 < j := by omega
            rcases hjc with rfl | hjp
            · have q1 : decide ((0 : Int) < ((0 : Nat) : Int)) = false := by simp
              simp only [Nat.zero_mul, Nat.zero_add] at z1 z2 z3 z4
              rcases hcase with ⟨g1, g2, HB⟩ | ⟨g1, g2, HB⟩ | ⟨g1, HB⟩
              all_goals
                go_wp2_with fail
                go_quiet (fail)
                go_wp2_with fail
                go_roundw
                case rel => exact ⟨0 + 1, by go_num, by omega, by rw [HCT.out, HB.out]; go_num, hqx.drewN _⟩
                case measure => simp [intOf]; omega
            · obtain ⟨y5, y6⟩ := HPV.out hjp
              generalize ((rowK m).getD (j - 1) (0, 0)).2 = pv at *
              have p4 : decide (r1 ≤ pv) = false := decide_eq_false (by omega)
              have q1 : decide ((0 : Int) < (j : Int)) = true := decide_eq_true (by omega)
              have q2 : decide (0 < j) = true := decide_eq_true hjp
              have q4 : (0 : Int) ≤ (j : Int) - 1 := by omega
              have q5 : (j : Int) - 1 < (n : Int) := by omega
              have q6 : decide ((j : Int) - 1 < 0) = false := decide_eq_false (by omega)
              have q3 : IntKind.i64.wrap ((j : Int) - 1) = (j : Int) - 1 := IntWalk.i64_in _ (by omega)
              have q7 : max ((j : Int) - 1) 0 = (j : Int) - 1 := by omega
              have q8 : ((j : Int) - 1).toNat = j - 1 := by omega
              rcases hcase with ⟨g1, g2, HB⟩ | ⟨g1, g2, HB⟩ | ⟨g1, HB⟩
              all_goals
                go_wp2_with fail
                go_quiet (fail)
                clear q3 q7 q8
                go_wp2_with fail
                go_roundw
                case rel => exact ⟨j + 1, by go_num, by omega, by rw [HCT.out, HB.out]; go_num, hqx.drewN _⟩
                case measure => simp [intOf]; omega
          · have hke : (rowK m).take j = rowK m := List.take_of_length_le (by rw [← HN.out]; omega)
            rw [hke]
            have ht := HTOT.out
            rw [← HN.out] at ht
            generalize (rowK m).countP (inR c) = q at *
            have HRCx := HRC
            clear hke HRCx HTOT
            have h1 := O0.out
            rcases ht with ⟨n0, q0⟩ | ⟨n0, hc1, q0⟩ | ⟨n0, hc1, q0⟩
            · subst n0
              subst q0
              clear h1
              go_wp2_with fail
              refine (lives2_any _).mono ?_
              rintro e u5 ⟨rfl, hq5⟩
              go_wp2_with fail
              go_ret
              exact ⟨rfl, (hqz.trans hqx).trans hq5⟩
            · subst q0
              rw [hc1] at h1
              have H1 := Lib.hid h1
              clear h1 hc1
              go_wp2_with fail
              refine (H1.out _).mono ?_
              rintro e u4 ⟨rfl, hq4⟩
              go_wp2_with fail
              refine (lives2_any _).mono ?_
              rintro e u5 ⟨rfl, hq5⟩
              go_wp2_with fail
              go_ret
              exact ⟨rfl, ((hqz.trans hqx).trans hq4).trans hq5⟩
            · subst q0
              have hc2 : ((cls c : Int) == (m : Int)) = false := by rw [beq_eq_false_iff_ne]; omega
              generalize cls c = kk at *
              have H1 := Lib.hid h1
              clear h1 hc1
              go_wp2_with fail
              refine (H1.out _).mono ?_
              rintro e u4 ⟨rfl, hq4⟩
              go_wp2_with fail
              refine (lives2_any _).mono ?_
              rintro e u5 ⟨rfl, hq5⟩
              go_wp2_with fail
              go_ret
              exact ⟨rfl, ((hqz.trans hqx).trans hq4).trans hq5⟩
      · have hz := RK.out
        rw [RN.out (.inr k1)] at hz
        have HZ := Lib.hid hz
        clear hz
        go_wp2_with fail
        refine (HZ.out _).mono ?_
        rintro e u4 ⟨zv, rfl, hZ, hq4⟩
        obtain ⟨za, zc, rfl, _, _, _⟩ := hZ.pairs
        have HZZ := Lib.hid hZ
        clear hZ
        go_wp2_with fail
        refine (A1.out _).mono ?_
        rintro e u3 ⟨rfl, hq3⟩
        have hqe : Q wr u3 := hq4.trans hq3
        have hqz := hqq.trans hqe
        obtain ⟨wo, rfl⟩ : ∃ wo : World, wo = wr := ⟨_, rfl⟩
        go_wp2_with fail
        go_loopw [13, 14] (fun t i wx => ∃ j : Nat, i = .int .i64 j ∧ j ≤ n ∧ t = .int .i64 (((rowK m).take j).countP (inR c) : Nat) ∧ Q u3 wx) (fun _ i _ => n - (intOf i).toNat)
        case atStart => exact ⟨0, rfl, by omega, rfl, Q.refl _⟩
        case round =>
          obtain ⟨j, rfl, hj, rfl, hqx⟩ := hrel
          by_cases hlt : j < n
          · have hjm : j < (rowK m).length := by rw [← HN.out]; exact hlt
            obtain ⟨gw, hgw, hgw2, x1, x2⟩ := HWC.out j hlt
            obtain ⟨gr, hgr, hgr2, y1, y2⟩ := HRC.out j hlt
            subst hgw
            subst hgr
            have hmp : (((rowK m).map (fun r => (r.1, r.2, (m : Int)))).getD j (0, 0, 0)) = (((rowK m).getD j (0, 0)).1, ((rowK m).getD j (0, 0)).2, (m : Int)) := by
              rw [List.getD_eq_getElem?_getD, List.getElem?_map, List.getD_eq_getElem?_getD, List.getElem?_eq_getElem hjm]; rfl
            rw [hmp] at x1 x2
            simp only at x1 x2
            have hqy := hqe.trans hqx
            have z1 := (World.cell?_of_block (w := wo) (hqy.block hgw2)).trans x1
            have z2 := (World.cell?_of_block (w := wo) (hqy.block hgw2)).trans x2
            have z3 := (World.cell?_of_block (w := wo) (hqy.block hgr2)).trans y1
            have z4 := (World.cell?_of_block (w := wo) (hqy.block hgr2)).trans y2
            have hrat := HRAT.out j hjm
            have hpv : 0 < j → wr.cell? ⟨gr, (j - 1) * 2 + 1, none⟩ = some (.int .i64 ((rowK m).getD (j - 1) (0, 0)).2) ∧ ((rowK m).getD (j - 1) (0, 0)).2 < ((rowK m).getD j (0, 0)).1 := by
              intro h0
              obtain ⟨g', hg', hg2', _, y3⟩ := HRC.out (j - 1) (by omega)
              cases hg'
              refine ⟨(World.cell?_of_block (w := wo) (hqy.block hg2')).trans y3, ?_⟩
              have := HRNX.out (j - 1) (by omega)
              rw [show j - 1 + 1 = j from by omega] at this
              exact this
            have hct := count_take c (rowK m) j hjm
            have hcl : ((rowK m).take j).countP (inR c) ≤ 18 := by
              have h1 := List.countP_le_length (p := inR c) (l := (rowK m).take j)
              have h2 := List.length_take_le j (rowK m)
              omega
            have HCT := Lib.hid hct
            have HPV := Lib.hid hpv
            clear hct hpv hmp x1 x2 y1 y2
            obtain ⟨⟨r1, r2⟩, hr⟩ : ∃ r, r = (rowK m).getD j (0, 0) := ⟨_, rfl⟩
            rw [← hr] at z1 z2 z3 z4 hrat HCT HPV
            clear hr
            simp only at z1 z2 z3 z4 hrat
            generalize ((rowK m).take j).countP (inR c) = q at *
            have p1 : (r1 != r1) = false := by simp
            have p2 : (r2 != r2) = false := by simp
            have p3 : decide (r2 < r1) = false := decide_eq_false (by omega)
            have hj0 : (0 : Int) ≤ (j : Int) := by omega
            have hjn : (j : Int) < (n : Int) := by omega
            have hcase : (r1 ≤ c ∧ c ≤ r2 ∧ Hid (inR c (r1, r2) = true)) ∨ (r1 ≤ c ∧ ¬ c ≤ r2 ∧ Hid (inR c (r1, r2) = false)) ∨ (¬ r1 ≤ c ∧ Hid (inR c (r1, r2) = false)) := by
              by_cases h1 : r1 ≤ c
              · by_cases h2 : c ≤ r2
                · exact .inl ⟨h1, h2, Lib.hid (by simp [inR, h1, h2])⟩
                · exact .inr (.inl ⟨h1, h2, Lib.hid (by simp [inR, h2])⟩)
              · exact .inr (.inr ⟨h1, Lib.hid (by simp [inR, h1])⟩)
            have hjc : j = 0 ∨ 0 < j := by omega
            rcases hjc with rfl | hjp
            · have q1 : decide ((0 : Int) < ((0 : Nat) : Int)) = false := by simp
              simp only [Nat.zero_mul, Nat.zero_add] at z1 z2 z3 z4
              rcases hcase with ⟨g1, g2, HB⟩ | ⟨g1, g2, HB⟩ | ⟨g1, HB⟩
              all_goals
                go_wp2_with fail
                go_quiet (fail)
                go_wp2_with fail
                go_roundw
                case rel => exact ⟨0 + 1, by go_num, by omega, by rw [HCT.out, HB.out]; go_num, hqx.drewN _⟩
                case measure => simp [intOf]; omega
            · obtain ⟨y5, y6⟩ := HPV.out hjp
              generalize ((rowK m).getD (j - 1) (0, 0)).2 = pv at *
              have p4 : decide (r1 ≤ pv) = false := decide_eq_false (by omega)
              have q1 : decide ((0 : Int) < (j : Int)) = true := decide_eq_true (by omega)
              have q2 : decide (0 < j) = true := decide_eq_true hjp
              have q4 : (0 : Int) ≤ (j : Int) - 1 := by omega
              have q5 : (j : Int) - 1 < (n : Int) := by omega
              have q6 : decide ((j : Int) - 1 < 0) = false := decide_eq_false (by omega)
              have q3 : IntKind.i64.wrap ((j : Int) - 1) = (j : Int) - 1 := IntWalk.i64_in _ (by omega)
              have q7 : max ((j : Int) - 1) 0 = (j : Int) - 1 := by omega
              have q8 : ((j : Int) - 1).toNat = j - 1 := by omega
              rcases hcase with ⟨g1, g2, HB⟩ | ⟨g1, g2, HB⟩ | ⟨g1, HB⟩
              all_goals
                go_wp2_with fail
                go_quiet (fail)
                clear q3 q7 q8
                go_wp2_with fail
                go_roundw
                case rel => exact ⟨j + 1, by go_num, by omega, by rw [HCT.out, HB.out]; go_num, hqx.drewN _⟩
                case measure => simp [intOf]; omega
          · have hke : (rowK m).take j = rowK m := List.take_of_length_le (by rw [← HN.out]; omega)
            rw [hke]
            have ht := HTOT.out
            rw [← HN.out] at ht
            generalize (rowK m).countP (inR c) = q at *
            have HRCx := HRC
            clear hke HRCx HTOT
            have h1 := O0.out
            rcases ht with ⟨n0, q0⟩ | ⟨n0, hc1, q0⟩ | ⟨n0, hc1, q0⟩
            · subst n0
              subst q0
              clear h1
              go_wp2_with fail
              refine (lives2_any _).mono ?_
              rintro e u5 ⟨rfl, hq5⟩
              go_wp2_with fail
              go_ret
              exact ⟨rfl, (hqz.trans hqx).trans hq5⟩
            · subst q0
              rw [hc1] at h1
              have H1 := Lib.hid h1
              clear h1 hc1
              go_wp2_with fail
              refine (H1.out _).mono ?_
              rintro e u4 ⟨rfl, hq4⟩
              go_wp2_with fail
              refine (lives2_any _).mono ?_
              rintro e u5 ⟨rfl, hq5⟩
              go_wp2_with fail
              go_ret
              exact ⟨rfl, ((hqz.trans hqx).trans hq4).trans hq5⟩
            · subst q0
              have hc2 : ((cls c : Int) == (m : Int)) = false := by rw [beq_eq_false_iff_ne]; omega
              generalize cls c = kk at *
              have H1 := Lib.hid h1
              clear h1 hc1
              go_wp2_with fail
              refine (H1.out _).mono ?_
              rintro e u4 ⟨rfl, hq4⟩
              go_wp2_with fail
              refine (lives2_any _).mono ?_
              rintro e u5 ⟨rfl, hq5⟩
              go_wp2_with fail
              go_ret
              exact ⟨rfl, ((hqz.trans hqx).trans hq4).trans hq5⟩

set_option maxRecDepth 100000 in
theorem lifted (os : Os) (started : os.Started) (H : Type) (enc : TypeId × Value → H) :
    ReturnsInHanded {} Try.checked os 4 .any (Rows.classRangesSpec.pre6 enc Try.prog Try.f4 Rows.classRangesRow.domain false) (Rows.classRangesSpec.post enc Try.prog Try.f4 false true false false) := by
  refine returnsInHanded_of_change (C := Try.checked) own started (by kernel_rfl) Try.func4
    (ChangeSpec.witness6 (enc := enc) (C := Try.checked) false ⟨#[], #[.int .i64 0, .int .i64 0, .int .i64 0], []⟩ 8 (by kernel_rfl) (by kernel_rfl) (by kernel_rfl) (by kernel_rfl)) ?_
  intro W base args ds gs before hval0 hW hcnd _
  have hval : ∀ (j : Nat) t v, Try.f4.params[j]? = some t → args[j]? = some v → Value.okWide Try.prog W .any base t v := hval0
  have hW' := hW
  obtain ⟨p, q, hA0, hV, rfl, hfz, hnd⟩ := hW
  have hA : DataW.TrodAll enc Try.prog W 0 (fun _ => true) true Try.f4.params.toList args.toList ds p := hA0
  rw [Try.params4] at hA hval
  obtain ⟨v0, vs0, d0, ds0, p0, q0, hargs, rfl, rfl, h0, r0⟩ := trodAll_cons hA
  obtain ⟨v1, vs1, d1, ds1, p1, q1, rfl, rfl, rfl, h1, r1⟩ := trodAll_cons r0
  obtain ⟨v2, vs2, d2, ds2, p2, q2, rfl, rfl, rfl, h2, r2⟩ := trodAll_cons r1
  obtain ⟨rfl, rfl, rfl⟩ := trodAll_nil r2
  obtain rfl : args = #[v0, v1, v2] := by cases args; simp_all
  obtain ⟨rfl, rfl⟩ := trodVars_none hV
  obtain ⟨a0, rfl, rfl, rfl, w0⟩ := open_int Try.underlying3 (hval 0 3 v0 rfl rfl) h0
  obtain ⟨a1, rfl, rfl, rfl, w1⟩ := open_int Try.underlying3 (hval 1 3 v1 rfl rfl) h1
  obtain ⟨a2, rfl, rfl, rfl, w2⟩ := open_int Try.underlying3 (hval 2 3 v2 rfl rfl) h2
  clear hA0 hval0
  refine (walk W a0 (bounds_i64 w0) a1 (bounds_i64 w1) a2 (bounds_i64 w2)).mono fun e W' ⟨he, bel⟩ => ?_
  subst he
  exact ⟨_, rfl, _, _, _, [], _, [], hW', trodAll_mk1 (shut_bool Try.underlying4 _), (trodAll_cons_mk (shut_int Try.underlying3 w0) (trodAll_cons_mk (shut_int Try.underlying3 w1) (trodAll_cons_mk (shut_int Try.underlying3 w2) trodAll_mk0))), rfl, bel.below.frame _, fun h => by cases h⟩

/-- The statement. -/
theorem proved : Rows.ClassRangesSaid :=
  OpenClaim.holds_of_wide 4 Try.f4 rfl rfl rfl rfl rfl rfl rfl ⟨rfl, rfl, rfl, rfl, rfl⟩ rfl rfl rfl rfl rfl (by kernel_rfl) Try.func4 (by kernel_rfl)
    (of_decide_eq_true (by kernel_rfl)) (by unfold Func.isWrapper; first | (rw [if_pos (by decide +kernel)]; kernel_rfl) | (rw [if_neg (by decide +kernel)]; exact ⟨rfl, rfl⟩))
    (fun os started H enc _ => lifted os started H enc)
#print axioms proved
end Go.Proofs.Ythafeggcmojbdaa.classRanges
