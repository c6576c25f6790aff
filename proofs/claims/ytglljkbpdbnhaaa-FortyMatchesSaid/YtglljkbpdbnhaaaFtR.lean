/- The document's own forty. -/
import Derived.Test.YtglljkbpdbnhaaaRows
import Derived.Test.YtglljkbpdbnhaaaInts
import Derived.Test.YtglljkbpdbnhaaaUtfM
import Derived.Test.YtglljkbpdbnhaaaUtfG
import Derived.Test.YtglljkbpdbnhaaaEls
import Derived.Test.YtglljkbpdbnhaaaGap
import Derived.Test.YtglljkbpdbnhaaaBlk
import Derived.Test.YtglljkbpdbnhaaaRun
import Derived.Test.YtglljkbpdbnhaaaFtM
import Derived.Test.YtglljkbpdbnhaaaFtA
set_option linter.unusedVariables false
set_option linter.unusedSimpArgs false
namespace Go.Proofs.Ytglljkbpdbnhaaa
open Go.RowKit Um
namespace Fr
open Ft

set_option maxRecDepth 1000000 in
set_option maxHeartbeats 1000000 in
theorem rrecords_any (w : World) : Calls Try.prog 16 #[] w fun e w' => e = .returned (.slice (some ⟨w.heap.size, 0, none⟩) 40 40) ∧ w' = w.alloc (.cells flat.toArray 24) :=
  calls_runF Try.func16 (by rfl) (W := w.alloc (.cells flat.toArray 24)) (v := .slice (some ⟨w.heap.size, 0, none⟩) 40 40) (by kernel_rfl) ⟨rfl, rfl⟩
theorem rrec_q (w : World) : Calls Try.prog 16 #[] w fun e w' => ∃ b, e = .returned (.slice (some ⟨b, 0, none⟩) 40 40) ∧ Bk w' b 24 flat ∧ Q w w' :=
  (rrecords_any w).mono fun e w' ⟨he, hw⟩ => ⟨_, he, by rw [hw]; exact Bk.new _ _ _, by rw [hw]; exact (Q.refl w).alloc _⟩
theorem infoR : (Try.prog.info? 24).map (·.size) = some 8 := by kernel_rfl

theorem ext0 (s : ByteArray) (k : Nat) : s.extract 0 k = Lm.bs (s.data.toList.take k) := by
  apply ByteArray.ext
  apply Array.toList_inj.1
  rw [Lm.bs_list]
  simp [ByteArray.data_extract, Array.toList_extract, List.extract_eq_take_drop]
set_option maxRecDepth 100000 in
set_option maxHeartbeats 1000000 in
theorem find_any (s : ByteArray) (w : World) :
    Calls Try.prog 11 #[.string s] w fun e w' => e = .returned (.int .i64 (Fm.fnd s.data.toList 40)) ∧ Q w w' := by
  go_enter Try.func11, Try.ntmps11
  go_wp2_with fail
  refine (rrec_q _).mono ?_
  rintro e w1 ⟨b, rfl, hB, hq⟩
  have HB := Lib.hid hB
  have HQ := Lib.hid hq
  clear hB hq
  go_wp2_with fail
  go_loopw [4] (fun v wr => ∃ k : Nat, v = .int .i64 k ∧ k ≤ 40 ∧ Fm.fnd s.data.toList k < 0 ∧ w1 = wr) (fun v _ => 40 - (intOf v).toNat)
  case atStart => exact ⟨0, rfl, by omega, (by decide : (-1 : Int) < 0), rfl⟩
  case round =>
    obtain ⟨k, rfl, hk, hf, rfl⟩ := hrel
    have HF := Lib.hid hf
    clear hf
    by_cases hlt : k < 40
    · have hlti : (k : Int) < 40 := by omega
      have hk0 : ¬ (k : Int) < 0 := by omega
      have c0 : w1.cell? ⟨b, k * 8, none⟩ = _ := row_cell HB.out hlt 0 rfl
      obtain ⟨n, hn⟩ : ∃ n, n = Lm.bs (Fm.T k).nam := ⟨_, rfl⟩
      rw [← hn] at c0
      have HN := Lib.hid hn
      clear hn
      by_cases he : n = s
      · subst he
        have hfin : (k : Int) = Fm.fnd n.data.toList 40 := by
          have h1 : Fm.fnd n.data.toList (k + 1) = k := Fm.fnd_hit HF.out (by rw [HN.out, Lm.bs_list]; rfl)
          rw [← h1]; exact (Fm.fnd_stay (by omega) 40 (by omega)).symm
        have HG := Lib.hid hfin
        clear hfin
        go_wp2_with fail
        go_ret
        exact ⟨by rw [← HG.out]; rfl, HQ.out⟩
      · have hne := str_ne he
        have hnx : Fm.fnd s.data.toList (k + 1) < 0 := Fm.fnd_miss HF.out (fun h => he (by
          rw [HN.out]; exact Fm.bs_of h))
        have HG := Lib.hid hnx
        clear he hnx
        go_wp2_with fail
        go_roundw
        case rel => exact ⟨k + 1, by go_num, by omega, HG.out, (by first | trivial | rfl)⟩
        case measure => simp [intOf]; omega
    · have hnlt : ¬ (k : Int) < 40 := by omega
      have HK := Lib.hid (show k = 40 by omega)
      clear hlt hk
      go_wp2_with fail
      go_ret
      refine ⟨?_, HQ.out⟩
      have := (Fm.fnd_lt s.data.toList 40).2
      have h2 := HF.out
      rw [HK.out] at h2
      rw [show Fm.fnd s.data.toList 40 = -1 by omega]; rfl

set_option maxRecDepth 100000 in
set_option maxHeartbeats 1000000 in
theorem one_any (n : Int) (w : World) (h0 : -9223372036854775808 ≤ n) (h1 : n ≤ 9223372036854775807) :
    Calls Try.prog 7 #[.int .i64 n] w fun e w' => e = .returned (rV (Fm.T (around n 40).toNat)) ∧ Q w w' := by
  have HA := Lib.hid (fun u => Ur.around_any n 40 u h0 h1 (by omega) (by omega))
  have hba := around_bd n 40 (by omega)
  obtain ⟨k, hk⟩ : ∃ k : Nat, (k : Int) = around n 40 := ⟨(around n 40).toNat, by omega⟩
  rw [← hk] at HA hba ⊢
  have hk40 : k < 40 := by omega
  have hki : (k : Int) < 40 := by omega
  have hk0 : ¬ (k : Int) < 0 := by omega
  clear hk hba h0 h1
  rw [Int.toNat_natCast]
  have HT : Hid (rV (Fm.T k) = .agg #[.string (Lm.bs (Fm.T k).nam), .string (Lm.bs (Fm.T k).pat), .string (Lm.bs (Fm.T k).sys), .string (Lm.bs (Fm.T k).dec), .string (Lm.bs (Fm.T k).grp), .string (Lm.bs (Fm.T k).min), .string (Lm.bs (Fm.T k).per), .string (Lm.bs (Fm.T k).cur)]) := Lib.hid rfl
  rw [HT.out]
  clear HT
  obtain ⟨s0, hs0⟩ : ∃ s, s = Lm.bs (Fm.T k).nam := ⟨_, rfl⟩
  rw [← hs0]
  obtain ⟨s1, hs1⟩ : ∃ s, s = Lm.bs (Fm.T k).pat := ⟨_, rfl⟩
  rw [← hs1]
  obtain ⟨s2, hs2⟩ : ∃ s, s = Lm.bs (Fm.T k).sys := ⟨_, rfl⟩
  rw [← hs2]
  obtain ⟨s3, hs3⟩ : ∃ s, s = Lm.bs (Fm.T k).dec := ⟨_, rfl⟩
  rw [← hs3]
  obtain ⟨s4, hs4⟩ : ∃ s, s = Lm.bs (Fm.T k).grp := ⟨_, rfl⟩
  rw [← hs4]
  obtain ⟨s5, hs5⟩ : ∃ s, s = Lm.bs (Fm.T k).min := ⟨_, rfl⟩
  rw [← hs5]
  obtain ⟨s6, hs6⟩ : ∃ s, s = Lm.bs (Fm.T k).per := ⟨_, rfl⟩
  rw [← hs6]
  obtain ⟨s7, hs7⟩ : ∃ s, s = Lm.bs (Fm.T k).cur := ⟨_, rfl⟩
  rw [← hs7]
  obtain ⟨z, hz⟩ : ∃ z, z = w.alloc (.cells #[.string ⟨#[]⟩, .string ⟨#[]⟩, .string ⟨#[]⟩, .string ⟨#[]⟩, .string ⟨#[]⟩, .string ⟨#[]⟩, .string ⟨#[]⟩, .string ⟨#[]⟩] 24) := ⟨_, rfl⟩
  have HQZ := Lib.hid (show Q w z by rw [hz]; exact (Q.refl w).alloc _)
  have hb : Bk z w.heap.size 24 [.string ⟨#[]⟩, .string ⟨#[]⟩, .string ⟨#[]⟩, .string ⟨#[]⟩, .string ⟨#[]⟩, .string ⟨#[]⟩, .string ⟨#[]⟩, .string ⟨#[]⟩] := by rw [hz]; exact Bk.new _ _ _
  go_enter Try.func7, Try.ntmps7
  go_wp2_with fail
  rw [← hz]
  clear hz
  obtain ⟨B, hBe⟩ : ∃ B, B = w.heap.size := ⟨_, rfl⟩
  have HWB := Lib.hid (show w.heap.size ≤ B by omega)
  rw [← hBe] at hb ⊢
  clear hBe
  refine (rrec_q _).mono ?_
  rintro e w1 ⟨b, rfl, hB, hq⟩
  have h2 := hb.q hq
  replace HQZ := Lib.hid (HQZ.out.trans hq)
  clear hb hq
  have c0 : w1.cell? ⟨b, k * 8, none⟩ = _ := row_cell hB hk40 0 rfl
  have c1 := row_cell hB hk40 1 rfl
  have c2 := row_cell hB hk40 2 rfl
  have c3 := row_cell hB hk40 3 rfl
  have c4 := row_cell hB hk40 4 rfl
  have c5 := row_cell hB hk40 5 rfl
  have c6 := row_cell hB hk40 6 rfl
  have c7 := row_cell hB hk40 7 rfl
  rw [← hs0] at c0
  rw [← hs1] at c1
  rw [← hs2] at c2
  rw [← hs3] at c3
  rw [← hs4] at c4
  rw [← hs5] at c5
  rw [← hs6] at c6
  rw [← hs7] at c7
  clear hs0 hs1 hs2 hs3 hs4 hs5 hs6 hs7
  go_wp2_with fail
  refine (HA.out _).mono ?_
  rintro e w2 ⟨rfl, rfl⟩
  have p0 := h2.cell 0 rfl
  have f0 := h2.free 0
  have p1 := h2.cell 1 rfl
  have f1 := h2.free 1
  have p2 := h2.cell 2 rfl
  have f2 := h2.free 2
  have p3 := h2.cell 3 rfl
  have f3 := h2.free 3
  have p4 := h2.cell 4 rfl
  have f4 := h2.free 4
  have p5 := h2.cell 5 rfl
  have f5 := h2.free 5
  have p6 := h2.cell 6 rfl
  have f6 := h2.free 6
  have p7 := h2.cell 7 rfl
  have f7 := h2.free 7
  have HFB := Lib.hid ((((((((h2.set 0 (.string s0)).set 1 (.string s1)).set 2 (.string s2)).set 3 (.string s3)).set 4 (.string s4)).set 5 (.string s5)).set 6 (.string s6)).set 7 (.string s7))
  have HFQ := Lib.hid (Q.setCell (Q.setCell (Q.setCell (Q.setCell (Q.setCell (Q.setCell (Q.setCell (Q.setCell HQZ.out (ad := ⟨B, 0, none⟩) HWB.out (.string s0)) (ad := ⟨B, 1, none⟩) HWB.out (.string s1)) (ad := ⟨B, 2, none⟩) HWB.out (.string s2)) (ad := ⟨B, 3, none⟩) HWB.out (.string s3)) (ad := ⟨B, 4, none⟩) HWB.out (.string s4)) (ad := ⟨B, 5, none⟩) HWB.out (.string s5)) (ad := ⟨B, 6, none⟩) HWB.out (.string s6)) (ad := ⟨B, 7, none⟩) HWB.out (.string s7))
  clear h2 hB
  go_wp2_with fail
  refine ret_bk rfl Try.underlying24 (by exact infoR) rfl HFB.out rfl ⟨?_, HFQ.out⟩
  rfl

set_option maxRecDepth 100000 in
set_option maxHeartbeats 1000000 in
theorem language_any (s : ByteArray) (w : World) (hs : s.size ≤ 1000000) :
    Calls Try.prog 18 #[.string s] w fun e w' => e = .returned (.string (Lm.bs (Fm.lng s.data.toList))) ∧ w = w' := by
  have hsl := size_list s
  obtain ⟨n, hn⟩ : ∃ n, n = s.size := ⟨_, rfl⟩
  have HN := Lib.hid hn
  have hn2 : n ≤ 1000000 := by omega
  go_enter Try.func18, Try.ntmps18
  go_wp2_with fail
  go_loopw [3] (fun v wr => ∃ k : Nat, v = .int .i64 k ∧ k ≤ s.size ∧ (∀ j, j < k → s.data.toList[j]? ≠ some 45) ∧ w = wr) (fun v _ => s.size - (intOf v).toNat)
  case atStart => exact ⟨0, rfl, by omega, fun j hj => by omega, rfl⟩
  case round =>
    obtain ⟨k, rfl, hk, hf, rfl⟩ := hrel
    have HF := Lib.hid hf
    clear hf
    by_cases hlt : k < s.size
    · have hlti : (k : Int) < (s.size : Int) := by omega
      have hk0 : ¬ (k : Int) < 0 := by omega
      have hg : s.data.toList[k]? = some (s[k]'hlt) := by
        rw [List.getElem?_eq_getElem (by omega)]
        rfl
      by_cases h45 : s[k]'hlt = 45
      · have ht : (((s[k]'hlt).toNat : Int) == 45) = true := by rw [h45]; rfl
        have HL := Lib.hid (Fm.lng_hit HF.out (by rw [hg, h45]))
        have hks : (k : Int) ≤ (s.size : Int) := by omega
        clear hg h45
        go_wp2_with fail
        go_ret
        rw [HL.out]
        exact ⟨by rw [show s.extract 0 k = Lm.bs (s.data.toList.take k) from ext0 s k]; rfl, (by first | trivial | rfl)⟩
      · have ht : (((s[k]'hlt).toNat : Int) == 45) = false := by
          rw [beq_eq_false_iff_ne]
          intro e
          exact h45 (UInt8.toNat_inj.1 (by have : (s[k]'hlt).toNat = 45 := by omega
                                           rw [this]; rfl))
        have HM := Lib.hid (show ∀ j, j < k + 1 → s.data.toList[j]? ≠ some 45 from fun j hj => by
          by_cases hjk : j = k
          · subst hjk
            rw [hg]
            intro e
            exact h45 (Option.some.inj e)
          · exact HF.out j (by omega))
        clear hg h45
        go_wp2_with fail
        exact ⟨⟨k + 1, by go_num, by omega, HM.out, (by first | trivial | rfl)⟩, by simp [intOf]; omega⟩
    · have hnlt : ¬ (k : Int) < (s.size : Int) := by omega
      have HL := Lib.hid (Fm.lng_all (l := s.data.toList) (fun j hj => HF.out j (by omega)))
      go_wp2_with fail
      go_ret
      rw [HL.out]
      exact ⟨rfl, (by first | trivial | rfl)⟩
theorem bs_eta (s : ByteArray) : Lm.bs s.data.toList = s := rfl
set_option maxRecDepth 100000 in
set_option maxHeartbeats 2000000 in
theorem match_any (s : ByteArray) (w : World) (hs : s.size ≤ 1000000) :
    Calls Try.prog 14 #[.string s] w fun e w' => e = .returned (.string (Lm.bs (Fm.mt s.data.toList))) ∧ Q w w' := by
  have HFI := Lib.hid (fun u => find_any s u)
  have HLT := Lib.hid (fun u => language_any s u hs)
  by_cases hf : 0 ≤ Fm.fnd s.data.toList 40
  · have HM := Lib.hid (show Fm.mt s.data.toList = s.data.toList from if_pos hf)
    generalize Fm.fnd s.data.toList 40 = x at *
    go_enter Try.func14, Try.ntmps14
    go_wp2_with fail
    refine (HFI.out _).mono ?_
    rintro e w1 ⟨rfl, hq⟩
    have HQ := Lib.hid hq
    clear hq
    go_wp2_with fail
    go_ret
    rw [HM.out]
    exact ⟨rfl, HQ.out⟩
  · have HM := Lib.hid (show Fm.mt s.data.toList = Fm.fstL (Fm.lng s.data.toList) 40 from if_neg hf)
    have hf1 : Fm.fnd s.data.toList 40 < 0 := by omega
    generalize Fm.fnd s.data.toList 40 = x at *
    obtain ⟨t, ht⟩ : ∃ t, t = Fm.lng s.data.toList := ⟨_, rfl⟩
    rw [← ht] at HM HLT
    clear ht
    go_enter Try.func14, Try.ntmps14
    go_wp2_with fail
    refine (HFI.out _).mono ?_
    rintro e w0 ⟨rfl, hq0⟩
    have HQ0 := Lib.hid hq0
    clear hq0
    go_wp2_with fail
    refine (rrec_q _).mono ?_
    rintro e w1 ⟨b, rfl, hB, hq⟩
    have HB := Lib.hid hB
    have HQ := Lib.hid (HQ0.out.trans hq)
    clear hB hq HFI hf hf1
    go_wp2_with fail
    go_loopw [4] (fun v wr => ∃ k : Nat, v = .int .i64 k ∧ k ≤ 40 ∧ Fm.fstL t k = [] ∧ w1 = wr) (fun v _ => 40 - (intOf v).toNat)
    case atStart => exact ⟨0, rfl, by omega, rfl, rfl⟩
    case round =>
      obtain ⟨k, rfl, hk, hf, rfl⟩ := hrel
      have HF := Lib.hid hf
      clear hf
      by_cases hlt : k < 40
      · have hlti : (k : Int) < 40 := by omega
        have hk0 : ¬ (k : Int) < 0 := by omega
        have c0 : w1.cell? ⟨b, k * 8, none⟩ = _ := row_cell HB.out hlt 0 rfl
        have hl := fun u => language_any (Lm.bs (Fm.T k).nam) u (by rw [Lm.bs_size]; have := (Fm.nam_ne k hlt).2.1; unfold Fm.nam at this; omega)
        rw [Lm.bs_list] at hl
        have HNE := Lib.hid (show Lm.bs (Fm.T k).nam = Lm.bs (Fm.nam k) from rfl)
        rw [HNE.out] at c0 hl
        have hl : ∀ u, Calls Try.prog 18 #[.string (Lm.bs (Fm.nam k))] u fun e w' => e = .returned (.string (Lm.bs (Fm.lng (Fm.nam k)))) ∧ u = w' := hl
        clear HNE
        obtain ⟨n, hn⟩ : ∃ n, n = Lm.bs (Fm.nam k) := ⟨_, rfl⟩
        rw [← hn] at c0 hl
        have HL := Lib.hid hl
        have HN := Lib.hid hn
        clear hl hn
        by_cases he : Fm.lng (Fm.nam k) = t
        · have hfin : Fm.fstL t 40 = Fm.nam k := by
            have h1 : Fm.fstL t (k + 1) = Fm.nam k := Fm.fstL_hit HF.out he
            rw [← h1]
            exact Fm.fstL_stay (by rw [h1]; exact (Fm.nam_ne k hlt).1) 40 (by omega)
          have HG := Lib.hid hfin
          rw [he] at HL
          clear hfin he
          go_wp2_with fail
          refine (HL.out _).mono ?_
          rintro e u ⟨rfl, rfl⟩
          go_wp2_with fail
          refine (HLT.out _).mono ?_
          rintro e u ⟨rfl, rfl⟩
          go_wp2_with fail
          go_ret
          rw [HM.out, HG.out, ← HN.out]
          exact ⟨rfl, HQ.out⟩
        · have hne : ((Lm.bs (Fm.lng (Fm.nam k))).toList == (Lm.bs t).toList) = false := str_ne (fun h => he (by
            have := congrArg (fun x : ByteArray => x.data.toList) h
            simpa only [Lm.bs_list] using this))
          have HG := Lib.hid (show Fm.fstL t (k + 1) = [] by rw [Fm.fstL_miss (fun h => he h.2)]; exact HF.out)
          obtain ⟨y, hy⟩ : ∃ y, y = Lm.bs (Fm.lng (Fm.nam k)) := ⟨_, rfl⟩
          rw [← hy] at HL hne
          clear hy he
          go_wp2_with fail
          refine (HL.out _).mono ?_
          rintro e u ⟨rfl, rfl⟩
          go_wp2_with fail
          refine (HLT.out _).mono ?_
          rintro e u ⟨rfl, rfl⟩
          go_wp2_with fail
          go_roundw
          case rel => exact ⟨k + 1, by go_num, by omega, HG.out, (by first | trivial | rfl)⟩
          case measure => simp [intOf]; omega
      · have hnlt : ¬ (k : Int) < 40 := by omega
        have HK := Lib.hid (show k = 40 by omega)
        clear hlt hk
        go_wp2_with fail
        go_ret
        refine ⟨?_, HQ.out⟩
        have h2 := HF.out
        rw [HK.out] at h2
        rw [HM.out, h2]; rfl
end Fr
end Go.Proofs.Ytglljkbpdbnhaaa
