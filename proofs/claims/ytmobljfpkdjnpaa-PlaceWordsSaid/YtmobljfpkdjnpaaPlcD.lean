/- The document's own answer of words. -/
import Derived.Test.YtmobljfpkdjnpaaRows
import Derived.Test.YtmobljfpkdjnpaaInts
import Derived.Test.YtmobljfpkdjnpaaEls
import Derived.Test.YtmobljfpkdjnpaaPlcM
import Derived.Test.YtmobljfpkdjnpaaPlcV
import Derived.Test.YtmobljfpkdjnpaaPlcU
import Derived.Test.YtmobljfpkdjnpaaCluQ
import Derived.Test.YtmobljfpkdjnpaaPlcR
set_option linter.unusedVariables false
set_option linter.unusedSimpArgs false
namespace Go.Proofs.Ytmobljfpkdjnpaa
open Go.RowKit Um Cm Gm Pm
namespace Pr

set_option maxHeartbeats 4000000 in
set_option maxRecDepth 100000 in
theorem wordR_any (s : ByteArray) (i : Int) (w : World) (hs : s.size ≤ 1073741824) :
    Calls Try.prog 22 #[.string s, .int .i64 i, .bool true] w fun e w' => e = .returned (.int .i64 (wdZ s i true : Nat)) ∧ Q w w' := by
  have HSp := Lib.hid (fun w => Gr.split_any s w hs)
  have hn := nC_le s
  obtain ⟨c, hc⟩ : ∃ c, c = clN i (nC s) := ⟨_, rfl⟩
  have hcn : c ≤ nC s := by rw [hc]; exact clN_le _ _
  have hmin : min (max i 0) (nC s : Int) = (c : Int) := by unfold clN at hc; omega
  have hW : wdZ s i true = wdR (blk s) (nC s) c := by rw [hc]; rfl
  rw [hW]
  have h1 := skR_le (blk s) (nC s - c) c
  obtain ⟨J, hJ⟩ : ∃ J, J = skR (blk s) (nC s - c) c := ⟨_, rfl⟩
  obtain ⟨Z, hZ⟩ : ∃ Z, Z = wdR (blk s) (nC s) c := ⟨_, rfl⟩
  have hZ2 : Z = skR (fun k => !blk s k) (nC s - J) J := by rw [hZ, hJ]; rfl
  rw [← hZ]
  have hJn : J ≤ nC s := by omega
  have HJ := Lib.hid hJ
  have HZ := Lib.hid hZ2
  have HS := Lib.hid (fun k h => skR_at (blk s) (nC s) k h)
  have HT := Lib.hid (fun k h => skR_at (fun k => !blk s k) (nC s) k h)
  have HPN := Lib.hid (pcs_nC s)
  have HPA := Lib.hid (fun k h => pcs_at s k h)
  have HB := Lib.hid (fun k w => rblank_any (pc s (stL1 s.data.toList) k) w (Nat.le_trans (pc_le _ _ _) hs))
  have HBK := Lib.hid (fun k => (show blkS (pc s (stL1 s.data.toList) k) = blk s k from rfl))
  generalize nC s = n at *
  clear hc hW h1 hJ hZ hZ2
  go_enter Try.func22, Try.ntmps22
  go_wp2_with fail
  refine (HSp.out _).mono ?_
  rintro e w1 ⟨v, rfl, hv, hq1⟩
  have hv := hv.lst
  obtain ⟨va, vc, rfl, hv1, hv2⟩ := hv.form0 HPN.out
  unfold maxLen at hv2
  have HV := Lib.hid hv
  clear hv
  go_wp2_with fail
  go_loopw [1] (fun v wr => ∃ k : Nat, v = .int .i64 k ∧ k ≤ n ∧ skR (blk s) (n - k) k = J ∧ Q w1 wr) (fun v _ => n - (intOf v).toNat)
  case atStart => exact ⟨c, rfl, hcn, HJ.out.symm, Q.refl _⟩
  case round =>
    obtain ⟨k, rfl, hk, hj, hq⟩ := hrel
    by_cases hgo : k < n ∧ blk s k = true
    · obtain ⟨hlt, hp⟩ := hgo
      have hst := HS.out k hlt
      rw [hj, if_pos hp] at hst
      have HT2 := Lib.hid hst
      obtain ⟨g, off, cap, hvv, hg, _, _, c1⟩ := (HV.out.q hq).cellOf HPN.out (HPA.out k hlt)
      cases hvv
      have hbk := HB.out k
      rw [HBK.out k, hp] at hbk
      have HBB := Lib.hid hbk
      have hm : min (k : Int) ((n : Int) - 1) = (k : Int) := by omega
      have hkl : (k : Int) < (n : Int) := by omega
      generalize pc s (stL1 s.data.toList) k = q at c1 HBB
      clear hst hj hbk hp
      go_wp2_with fail
      refine (HBB.out _).mono ?_
      rintro e w2 ⟨rfl, hq2⟩
      go_wp2_with fail
      go_roundw
      case rel => exact ⟨k + 1, by go_num, by omega, HT2.out.symm, hq.trans hq2⟩
      case measure => simp [intOf]; omega
    · have hkJ : J = k := by
        by_cases hlt : k < n
        · have hst := HS.out k hlt
          rw [hj, if_neg (fun h => hgo ⟨hlt, h⟩)] at hst
          exact hst
        · have : k = n := by omega
          rw [← hj, this, Nat.sub_self]; rfl
      subst hkJ
      clear hj
      have hex : (¬ J < n) ∨ (J < n ∧ blk s J = false) := by
        by_cases hlt : J < n
        · exact .inr ⟨hlt, by simpa using fun h => hgo ⟨hlt, h⟩⟩
        · exact .inl hlt
      clear hgo
      rcases hex with hlt | ⟨hlt, hp⟩
      · have hJe : J = n := by omega
        have hZn : Z = J := by rw [HZ.out, hJe, Nat.sub_self]; rfl
        have HZN := Lib.hid hZn
        clear hZn hJe
        go_wp2_with fail
        refine wp_loop_rounds 1 ?_
        rw [rounds_succ]
        go_wp2_with fail
        go_ret
        rw [HZN.out]
        exact ⟨rfl, hq1.trans hq⟩
      · obtain ⟨g, off, cap, hvv, hg, _, _, c1⟩ := (HV.out.q hq).cellOf HPN.out (HPA.out J hlt)
        cases hvv
        have hbk := HB.out J
        rw [HBK.out J, hp] at hbk
        have HBB := Lib.hid hbk
        have hm : min (J : Int) ((n : Int) - 1) = (J : Int) := by omega
        have hkl : (J : Int) < (n : Int) := by omega
        generalize pc s (stL1 s.data.toList) J = q at c1 HBB
        clear hbk hp
        go_wp2_with fail
        refine (HBB.out _).mono ?_
        rintro e w2 ⟨rfl, hq2⟩
        have hqq := hq.trans hq2
        go_wp2_with fail
        go_loopw [1] (fun v wr => ∃ k : Nat, v = .int .i64 k ∧ k ≤ n ∧ skR (fun k => !blk s k) (n - k) k = Z ∧ Q w1 wr) (fun v _ => n - (intOf v).toNat)
        case atStart => exact ⟨J, rfl, hJn, HZ.out.symm, hqq⟩
        case round =>
          obtain ⟨k, rfl, hk, hj, hq⟩ := hrel
          by_cases hlk : k < n
          · have hst := HT.out k hlk
            rw [hj] at hst
            obtain ⟨g3, off3, cap3, hvv3, hg3, _, _, c3⟩ := (HV.out.q hq).cellOf HPN.out (HPA.out k hlk)
            cases hvv3
            have hbk := HB.out k
            rw [HBK.out k] at hbk
            have hm3 : min (k : Int) ((n : Int) - 1) = (k : Int) := by omega
            have hkl3 : (k : Int) < (n : Int) := by omega
            generalize pc s (stL1 s.data.toList) k = q3 at c3 hbk
            clear hj c1 hkl hm
            cases hp : blk s k
            · rw [hp] at hst hbk
              have hst2 : Z = skR (fun k => !blk s k) (n - (k + 1)) (k + 1) := hst
              have HT2 := Lib.hid hst2
              have HBB3 := Lib.hid hbk
              clear hst hst2 hbk hp
              go_wp2_with fail
              refine (HBB3.out _).mono ?_
              rintro e w4 ⟨rfl, hq4⟩
              go_wp2_with fail
              go_roundw
              case rel => exact ⟨k + 1, by go_num, by omega, HT2.out.symm, hq.trans hq4⟩
              case measure => simp [intOf]; omega
            · rw [hp] at hst hbk
              have hst2 : Z = k := hst
              have HBB3 := Lib.hid hbk
              clear hst hbk hp
              subst hst2
              go_wp2_with fail
              refine (HBB3.out _).mono ?_
              rintro e w4 ⟨rfl, hq4⟩
              go_wp2_with fail
              go_ret
              exact ⟨rfl, hq1.trans (hq.trans hq4)⟩
          · have hke : k = n := by omega
            have hZn : Z = k := by rw [← hj, hke, Nat.sub_self]; rfl
            subst hZn
            clear hj c1 hkl hm hke
            go_wp2_with fail
            go_ret
            exact ⟨rfl, hq1.trans hq⟩

set_option maxHeartbeats 4000000 in
set_option maxRecDepth 100000 in
theorem wordL_any (s : ByteArray) (i : Int) (w : World) (hs : s.size ≤ 1073741824) :
    Calls Try.prog 22 #[.string s, .int .i64 i, .bool false] w fun e w' => e = .returned (.int .i64 (wdZ s i false : Nat)) ∧ Q w w' := by
  have HSp := Lib.hid (fun w => Gr.split_any s w hs)
  have hn := nC_le s
  obtain ⟨c, hc⟩ : ∃ c, c = clN i (nC s) := ⟨_, rfl⟩
  have hcn : c ≤ nC s := by rw [hc]; exact clN_le _ _
  have hmin : min (max i 0) (nC s : Int) = (c : Int) := by unfold clN at hc; omega
  have hW : wdZ s i false = wdL (blk s) c := by rw [hc]; rfl
  rw [hW]
  have h1 := skL_le (blk s) c
  obtain ⟨J, hJ⟩ : ∃ J, J = skL (blk s) c := ⟨_, rfl⟩
  obtain ⟨Z, hZ⟩ : ∃ Z, Z = wdL (blk s) c := ⟨_, rfl⟩
  have hZ2 : Z = skL (fun k => !blk s k) J := by rw [hZ, hJ]; rfl
  rw [← hZ]
  have hJn : J ≤ nC s := by omega
  have HJ := Lib.hid hJ
  have HZ := Lib.hid hZ2
  have HS := Lib.hid (fun k h => skL_at (blk s) k h)
  have HT := Lib.hid (fun k h => skL_at (fun k => !blk s k) k h)
  have HPN := Lib.hid (pcs_nC s)
  have HPA := Lib.hid (fun k h => pcs_at s k h)
  have HB := Lib.hid (fun k w => rblank_any (pc s (stL1 s.data.toList) k) w (Nat.le_trans (pc_le _ _ _) hs))
  have HBK := Lib.hid (fun k => (show blkS (pc s (stL1 s.data.toList) k) = blk s k from rfl))
  generalize nC s = n at *
  clear hc hW h1 hJ hZ hZ2
  go_enter Try.func22, Try.ntmps22
  go_wp2_with fail
  refine (HSp.out _).mono ?_
  rintro e w1 ⟨v, rfl, hv, hq1⟩
  have hv := hv.lst
  obtain ⟨va, vc, rfl, hv1, hv2⟩ := hv.form0 HPN.out
  unfold maxLen at hv2
  have HV := Lib.hid hv
  clear hv
  go_wp2_with fail
  go_loopw [1] (fun v wr => ∃ k : Nat, v = .int .i64 k ∧ k ≤ n ∧ skL (blk s) k = J ∧ Q w1 wr) (fun v _ => (intOf v).toNat)
  case atStart => exact ⟨c, rfl, hcn, HJ.out.symm, Q.refl _⟩
  case round =>
    obtain ⟨k, rfl, hk, hj, hq⟩ := hrel
    by_cases hgo : 0 < k ∧ blk s (k - 1) = true
    · obtain ⟨hlt, hp⟩ := hgo
      have hst := HS.out k hlt
      rw [hj, if_pos hp] at hst
      have HT2 := Lib.hid hst
      obtain ⟨g, off, cap, hvv, hg, _, _, c1⟩ := (HV.out.q hq).cellOf HPN.out (HPA.out (k - 1) (by omega))
      cases hvv
      have hbk := HB.out (k - 1)
      rw [HBK.out (k - 1), hp] at hbk
      have HBB := Lib.hid hbk
      obtain ⟨m, rfl⟩ : ∃ m, k = m + 1 := ⟨k - 1, by omega⟩
      rw [Nat.add_sub_cancel] at c1 HBB HT2
      have e1 : ((m : Int) + 1 - 1) = (m : Int) := by omega
      have hm : max (m : Int) 0 = (m : Int) := by omega
      have hm0 : (0 : Int) ≤ (m : Int) := by omega
      have hkl : (m : Int) < (n : Int) := by omega
      have hgt : (0 : Int) < (m : Int) + 1 := by omega
      generalize pc s (stL1 s.data.toList) m = q at c1 HBB
      clear hst hj hbk hp
      go_wp2_with fail
      refine (HBB.out _).mono ?_
      rintro e w2 ⟨rfl, hq2⟩
      go_wp2_with fail
      go_roundw
      case rel => exact ⟨m, by go_num, by omega, HT2.out.symm, hq.trans hq2⟩
      case measure => simp [intOf]
    · have hkJ : J = k := by
        by_cases hlt : 0 < k
        · have hst := HS.out k hlt
          rw [hj, if_neg (fun h => hgo ⟨hlt, h⟩)] at hst
          exact hst
        · have : k = 0 := by omega
          rw [← hj, this]; rfl
      subst hkJ
      clear hj
      have hex : (¬ 0 < J) ∨ (0 < J ∧ blk s (J - 1) = false) := by
        by_cases hlt : 0 < J
        · exact .inr ⟨hlt, by simpa using fun h => hgo ⟨hlt, h⟩⟩
        · exact .inl hlt
      clear hgo
      rcases hex with hlt | ⟨hlt, hp⟩
      · have hJe : J = 0 := by omega
        have hZn : Z = 0 := by rw [HZ.out, hJe]; rfl
        have HZN := Lib.hid hZn
        subst hJe
        clear hZn
        go_wp2_with fail
        refine wp_loop_rounds 1 ?_
        rw [rounds_succ]
        go_wp2_with fail
        go_ret
        rw [HZN.out]
        exact ⟨rfl, hq1.trans hq⟩
      · obtain ⟨g, off, cap, hvv, hg, _, _, c1⟩ := (HV.out.q hq).cellOf HPN.out (HPA.out (J - 1) (by omega))
        cases hvv
        have hbk := HB.out (J - 1)
        rw [HBK.out (J - 1), hp] at hbk
        have HBB := Lib.hid hbk
        have e1 : ((J : Int) - 1) = ((J - 1 : Nat) : Int) := by omega
        have hm : max ((J : Int) - 1) 0 = ((J - 1 : Nat) : Int) := by omega
        have hm2 : max ((J - 1 : Nat) : Int) 0 = ((J - 1 : Nat) : Int) := by omega
        have hm0 : (0 : Int) ≤ ((J - 1 : Nat) : Int) := by omega
        have hkl : ((J - 1 : Nat) : Int) < (n : Int) := by omega
        have hgt : (0 : Int) < (J : Int) := by omega
        generalize pc s (stL1 s.data.toList) (J - 1) = q at c1 HBB
        clear hbk hp
        go_wp2_with fail
        refine (HBB.out _).mono ?_
        rintro e w2 ⟨rfl, hq2⟩
        have hqq := hq.trans hq2
        clear e1 hm hm2 hm0 hkl hgt c1
        go_wp2_with fail
        go_loopw [1] (fun v wr => ∃ k : Nat, v = .int .i64 k ∧ k ≤ n ∧ skL (fun k => !blk s k) k = Z ∧ Q w1 wr) (fun v _ => (intOf v).toNat)
        case atStart => exact ⟨J, rfl, hJn, HZ.out.symm, hqq⟩
        case round =>
          obtain ⟨k, rfl, hk, hj, hq⟩ := hrel
          by_cases hlk : 0 < k
          · have hst := HT.out k hlk
            rw [hj] at hst
            obtain ⟨g3, off3, cap3, hvv3, hg3, _, _, c3⟩ := (HV.out.q hq).cellOf HPN.out (HPA.out (k - 1) (by omega))
            cases hvv3
            have hbk := HB.out (k - 1)
            rw [HBK.out (k - 1)] at hbk
            obtain ⟨m, rfl⟩ : ∃ m, k = m + 1 := ⟨k - 1, by omega⟩
            rw [Nat.add_sub_cancel] at c3 hbk hst
            have e1 : ((m : Int) + 1 - 1) = (m : Int) := by omega
            have hm : max (m : Int) 0 = (m : Int) := by omega
            have hm0 : (0 : Int) ≤ (m : Int) := by omega
            have hkl : (m : Int) < (n : Int) := by omega
            have hgt : (0 : Int) < (m : Int) + 1 := by omega
            generalize pc s (stL1 s.data.toList) m = q3 at c3 hbk
            clear hj
            cases hp : blk s m
            · rw [hp] at hst hbk
              have hst2 : Z = skL (fun k => !blk s k) m := hst
              have HT2 := Lib.hid hst2
              have HBB3 := Lib.hid hbk
              clear hst hst2 hbk hp
              go_wp2_with fail
              refine (HBB3.out _).mono ?_
              rintro e w4 ⟨rfl, hq4⟩
              go_wp2_with fail
              go_roundw
              case rel => exact ⟨m, by go_num, by omega, HT2.out.symm, hq.trans hq4⟩
              case measure => simp [intOf]
            · rw [hp] at hst hbk
              have hst2 : Z = m + 1 := hst
              have HBB3 := Lib.hid hbk
              clear hst hbk hp
              subst hst2
              go_wp2_with fail
              refine (HBB3.out _).mono ?_
              rintro e w4 ⟨rfl, hq4⟩
              go_wp2_with fail
              go_ret
              exact ⟨retI (by omega), hq1.trans (hq.trans hq4)⟩
          · have hke : k = 0 := by omega
            subst hke
            have hZn : Z = 0 := by rw [← hj]; rfl
            subst hZn
            clear hj
            go_wp2_with fail
            go_ret
            exact ⟨rfl, hq1.trans hq⟩

theorem word_any (s : ByteArray) (i : Int) (r : Bool) (w : World) (hs : s.size ≤ 1073741824) :
    Calls Try.prog 22 #[.string s, .int .i64 i, .bool r] w fun e w' => e = .returned (.int .i64 (wdZ s i r : Nat)) ∧ Q w w' := by
  cases r
  · exact wordL_any s i w hs
  · exact wordR_any s i w hs

end Pr
end Go.Proofs.Ytmobljfpkdjnpaa
