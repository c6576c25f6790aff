/- What the document's own answers on classes come to, by a walk through each. -/
import Derived.Test.YthafeggcmojbdaaRows
import Derived.Test.YthafeggcmojbdaaUtfM
import Derived.Test.YthafeggcmojbdaaClsM
import Derived.Test.YthafeggcmojbdaaInts
import Derived.Test.YthafeggcmojbdaaRun
import Derived.Test.YthafeggcmojbdaaPairs
import Derived.Deep.QuietTactic
import Derived.BigQuiet
set_option linter.unusedVariables false
set_option linter.unusedSimpArgs false
namespace Go.Proofs.Ythafeggcmojbdaa
open Go.RowKit Cm Um
namespace Cr

theorem table_run (w : World) :
    Calls Try.prog 17 #[] w fun e w' => e = .returned (.slice (some ⟨w.heap.size, 0, none⟩) 66 66) ∧ w' = w.alloc (.cells (flat3 tab).toArray 31) :=
  calls_runF Try.func17 (by rfl) (W := w.alloc (.cells (flat3 tab).toArray 31)) (v := .slice (some ⟨w.heap.size, 0, none⟩) 66 66) (by kernel_rfl) ⟨rfl, rfl⟩
theorem table_any (w : World) :
    Calls Try.prog 17 #[] w fun e w' => ∃ g, e = .returned (.slice (some ⟨g, 0, none⟩) 66 66) ∧ TRow w' g tab ∧ Q w w' := by
  refine (table_run w).mono ?_
  rintro e w' ⟨rfl, rfl⟩
  exact ⟨_, rfl, TRow.made w tab _ _ rfl, (Q.refl _).alloc _⟩

theorem tab_take (c : Int) (j : Nat) (h : j < 66) : (tab.take (j + 1)).any (inT c) = ((tab.take j).any (inT c) || inT c (tab.getD j (0, 0, 0))) := by
  have hl : j < tab.length := by rw [tab_len]; exact h
  rw [List.take_succ_eq_append_getElem hl, List.any_append, List.getD_eq_getElem?_getD, List.getElem?_eq_getElem hl]
  simp

set_option maxHeartbeats 800000 in
theorem of_any (c : Int) (w : World) :
    Calls Try.prog 11 #[.int .i64 c] w fun e w' => e = .returned (.int .i64 (cls c)) ∧ Q w w' := by
  by_cases hs : syll c
  · by_cases h0 : (c - 44032) % 28 = 0
    · have HF : Hid ((cls c : Int) = 12) := Lib.hid (by rw [cls_lv hs h0]; rfl)
      obtain ⟨h1, h2⟩ := hs
      go_enter Try.func11, Try.ntmps11
      go_wp2_with fail
      go_ret
      rw [HF.out]
      exact ⟨rfl, Q.refl _⟩
    · have HF : Hid ((cls c : Int) = 13) := Lib.hid (by rw [cls_lvt hs h0]; rfl)
      obtain ⟨h1, h2⟩ := hs
      go_enter Try.func11, Try.ntmps11
      go_wp2_with fail
      go_ret
      rw [HF.out]
      exact ⟨rfl, Q.refl _⟩
  · have HN := Lib.hid hs
    have hcase : (44032 ≤ c ∧ ¬ c ≤ 55203) ∨ ¬ 44032 ≤ c := by have : ¬ (44032 ≤ c ∧ c ≤ 55203) := hs; omega
    clear hs
    rcases hcase with ⟨h1, h2⟩ | h1
    all_goals
      go_enter Try.func11, Try.ntmps11
      go_wp2_with fail
      refine (table_any _).mono ?_
      rintro e w1 ⟨g, rfl, htab, hq1⟩
      go_wp2_with fail
      go_loopw [4] (fun i wr => ∃ j : Nat, i = .int .i64 j ∧ j ≤ 66 ∧ Q w1 wr ∧ (tab.take j).any (inT c) = false) (fun i _ => 66 - (intOf i).toNat)
      case atStart => exact ⟨0, rfl, by omega, Q.refl _, rfl⟩
      case round =>
        obtain ⟨j, rfl, hj, hq, hany⟩ := hrel
        have HA := Lib.hid hany
        clear hany
        by_cases hlt : j < 66
        · obtain ⟨c1, c2, c3⟩ := (htab.q hq).2 j (by rw [tab_len]; exact hlt)
          have HT := Lib.hid (tab_take c j hlt)
          have HC := Lib.hid (fun h => tab_at HN.out hlt HA.out h)
          obtain ⟨⟨r1, r2, r3⟩, hr⟩ : ∃ r, r = tab.getD j (0, 0, 0) := ⟨_, rfl⟩
          rw [← hr] at c1 c2 c3 HT HC
          clear hr
          simp only at c1 c2 c3
          have hcase : (r1 ≤ c ∧ c ≤ r2 ∧ Hid (inT c (r1, r2, r3) = true)) ∨ (r1 ≤ c ∧ ¬ c ≤ r2 ∧ Hid (inT c (r1, r2, r3) = false)) ∨ (¬ r1 ≤ c ∧ Hid (inT c (r1, r2, r3) = false)) := by
            by_cases h1 : r1 ≤ c
            · by_cases h2 : c ≤ r2
              · exact .inl ⟨h1, h2, Lib.hid (by simp [inT, inR, h1, h2])⟩
              · exact .inr (.inl ⟨h1, h2, Lib.hid (by simp [inT, inR, h2])⟩)
            · exact .inr (.inr ⟨h1, Lib.hid (by simp [inT, inR, h1])⟩)
          rcases hcase with ⟨g1, g2, HB⟩ | ⟨g1, g2, HB⟩ | ⟨g1, HB⟩
          · go_wp2_with fail
            go_ret
            have := HC.out HB.out
            rw [this]
            exact ⟨rfl, hq1.trans hq⟩
          all_goals
            go_wp2_with fail
            go_roundw
            case rel => exact ⟨j + 1, by go_num, by omega, hq, by rw [HT.out, HA.out, HB.out]; rfl⟩
            case measure => simp [intOf]; omega
        · have hF : (cls c : Int) = 0 := by
            have := HA.out
            rw [List.take_of_length_le (by rw [tab_len]; omega)] at this
            rw [tab_no HN.out this]; rfl
          have HF := Lib.hid hF
          clear hF
          go_wp2_with fail
          go_ret
          rw [HF.out]
          exact ⟨rfl, hq1.trans hq⟩

set_option maxHeartbeats 800000 in
theorem edge_any (n side : Int) (w : World) (h0 : -9223372036854775808 ≤ n) (h1 : n ≤ 9223372036854775807) :
    Calls Try.prog 10 #[.int .i64 n, .int .i64 side] w fun e w' => e = .returned (.int .i64 (edge n side)) ∧ Q w w' := by
  have hb := around_bd n 66 (by omega)
  obtain ⟨m, hm⟩ : ∃ m : Nat, (m : Int) = around n 66 := ⟨(around n 66).toNat, by omega⟩
  have hm66 : m < 66 := by omega
  have hmt : (around n 66).toNat = m := by omega
  have hbd := tab_bd m
  obtain ⟨⟨r1, r2, r3⟩, hr⟩ : ∃ r, r = tab.getD m (0, 0, 0) := ⟨_, rfl⟩
  rw [← hr] at hbd
  simp only at hbd
  obtain ⟨b1, b2, b3, b4, b5, _, _⟩ := hbd
  have hE : edge n side = (if side.tmod 4 = 0 then r1 else if side.tmod 4 = 1 ∨ side.tmod 4 = -1 then r2 else if side.tmod 4 = 2 ∨ side.tmod 4 = -2 then r1 - 1 else r2 + 1) := by
    unfold edge; rw [hmt, ← hr]
  have HR := Lib.hid hr
  have HE := Lib.hid hE
  have HM : Hid ((if n < 0 then -(n + 1) else n) % 66 = (m : Int)) := Lib.hid (by rw [hm]; rfl)
  clear hr hE hm hmt hb
  have hcase : (n < 0 ∧ Hid ((-(n + 1).tmod 66).toNat = m) ∧ (0 ≤ -(n + 1).tmod 66 ∧ -(n + 1).tmod 66 < 66 ∧ (n + 1).tmod 66 ≤ 0 ∧ -66 < (n + 1).tmod 66)) ∨ (¬ n < 0 ∧ Hid ((n % 66).toNat = m) ∧ (0 ≤ n % 66 ∧ n % 66 < 66 ∧ 0 ≤ n % 66 ∧ n % 66 < 66)) := by
    by_cases hn : n < 0
    · have h1 := HM.out; rw [if_pos hn] at h1
      have h2 : -(n + 1).tmod 66 = (-(n + 1)) % 66 := by rw [← Int.neg_tmod, Int.tmod_eq_emod_of_nonneg (by omega)]
      exact .inl ⟨hn, Lib.hid (by rw [h2, h1]; rfl), by omega, by omega, by omega, by omega⟩
    · have := HM.out; rw [if_neg hn] at this; exact .inr ⟨hn, Lib.hid (by omega), by omega, by omega, by omega, by omega⟩
  have hts : side.tmod 4 = 0 ∨ side.tmod 4 = 1 ∨ side.tmod 4 = -1 ∨ side.tmod 4 = 2 ∨ side.tmod 4 = -2 ∨ side.tmod 4 = 3 ∨ side.tmod 4 = -3 := by
    have h1 := Int.tmod_lt_of_pos side (b := 4) (by omega)
    have h2 := Int.lt_tmod_of_pos side (b := 4) (by omega)
    omega
  rcases hcase with ⟨hn, HB, i1, i2, i3, i4⟩ | ⟨hn, HB, i1, i2, i3, i4⟩
  all_goals
    rcases hts with ht | ht | ht | ht | ht | ht | ht
    all_goals
      have hf := HE.out
      rw [ht] at hf
      simp at hf
      have HF := Lib.hid hf
      clear hf HE HM
      go_enter Try.func10, Try.ntmps10
      go_wp2_with fail
      refine (table_any _).mono ?_
      rintro e w1 ⟨g, rfl, htab, hq1⟩
      obtain ⟨c1, c2, c3⟩ := htab.2 m (by rw [tab_len]; exact hm66)
      rw [← HR.out, ← HB.out] at c1 c2 c3
      simp only at c1 c2 c3
      go_wp2_with fail
      go_ret
      rw [HF.out]
      exact ⟨rfl, hq1.alloc _⟩

set_option maxHeartbeats 400000 in
theorem blank_any (c : Int) (w : World) :
    Calls Try.prog 20 #[.int .i64 c] w fun e w' => e = .returned (.bool (blankB c)) ∧ Q w w' := by
  have hl := Lst.made w blanks 9 rfl (by unfold maxLen; omega)
  simp only [blanks, List.map_cons, List.map_nil] at hl
  go_enter Try.func20, Try.ntmps20
  go_wp2_with fail
  go_loopw [4] (fun i wr => ∃ j : Nat, i = .int .i64 j ∧ j ≤ 9 ∧ Q (w.alloc (.cells #[.int .i64 9, .int .i64 10, .int .i64 11, .int .i64 12, .int .i64 13, .int .i64 32, .int .i64 160, .int .i64 8201, .int .i64 8239] 3)) wr ∧ (blanks.take j).contains c = false) (fun i _ => 9 - (intOf i).toNat)
  case atStart => exact ⟨0, rfl, by omega, Q.refl _, rfl⟩
  case round =>
    obtain ⟨j, rfl, hj, hq, hany⟩ := hrel
    have HA := Lib.hid hany
    clear hany
    by_cases hlt : j < 9
    · obtain ⟨g, off, cap, hv, hg, _, _, c1⟩ := (hl.q hq).cellOf (n := 9) rfl hlt
      cases hv
      have hts : (blanks.take (j + 1)).contains c = ((blanks.take j).contains c || (c == blanks.getD j 0)) := by
        rw [List.take_succ_eq_append_getElem (by exact hlt), List.getD_eq_getElem?_getD, List.getElem?_eq_getElem (by exact hlt)]
        rw [Bool.eq_iff_iff]
        simp
      have hin : c = blanks.getD j 0 → blankB c = true := by
        intro h
        unfold blankB
        rw [h, List.getD_eq_getElem?_getD, List.getElem?_eq_getElem (by exact hlt)]
        exact List.contains_iff_mem.2 (List.getElem_mem _)
      have HT := Lib.hid hts
      have HI := Lib.hid hin
      clear hts hin hl
      obtain ⟨r, hr⟩ : ∃ r, r = blanks.getD j 0 := ⟨_, rfl⟩
      have c1 : wr.cell? ⟨w.heap.size, j, none⟩ = some (.int .i64 (blanks.getD j 0)) := by have := c1; rw [Nat.zero_add] at this; exact this
      rw [← hr] at c1 HT HI
      clear hr
      by_cases h : c = r
      · have h2 : (r == c) = true := by rw [h]; simp
        have HF : Hid (blankB c = true) := Lib.hid (HI.out h)
        clear h
        go_wp2_with fail
        go_ret
        rw [HF.out]
        exact ⟨rfl, ((Q.refl _).alloc _).trans hq⟩
      · have h2 : (r == c) = false := by rw [beq_eq_false_iff_ne]; exact fun e => h e.symm
        have h3 : Hid ((c == r) = false) := Lib.hid (by rw [beq_eq_false_iff_ne]; exact h)
        clear h
        go_wp2_with fail
        go_roundw
        case rel => exact ⟨j + 1, by go_num, by omega, hq, by rw [HT.out, HA.out, h3.out]; rfl⟩
        case measure => simp [intOf]; omega
    · have hF : blankB c = false := by
        have := HA.out
        rw [List.take_of_length_le (by simp [blanks]; omega)] at this
        exact this
      have HF := Lib.hid hF
      clear hF
      go_wp2_with fail
      go_ret
      rw [HF.out]
      exact ⟨rfl, ((Q.refl _).alloc _).trans hq⟩

set_option maxHeartbeats 800000 in
theorem plain_any (v : Value) (xs : List Int) (w : World) (hv : Lst w v xs) (hx : xs.length ≤ 1073741824) :
    Calls Try.prog 23 #[v] w fun e w' => e = .returned (.bool (plainB xs)) ∧ Q w w' := by
  obtain ⟨a, cp, rfl⟩ := hv.shape
  obtain ⟨n, hn⟩ : ∃ n, n = xs.length := ⟨_, rfl⟩
  rw [← hn] at hv hx ⊢
  have HN := Lib.hid hn
  clear hn
  go_enter Try.func23, Try.ntmps23
  go_wp2_with fail
  go_loopw [3] (fun i wr => ∃ j : Nat, i = .int .i64 j ∧ j ≤ n ∧ Q w wr ∧ plP (xs.take j) = true) (fun i _ => n - (intOf i).toNat)
  case atStart => exact ⟨0, rfl, by omega, Q.refl _, rfl⟩
  case round =>
    obtain ⟨j, rfl, hj, hq, hpl⟩ := hrel
    have HP := Lib.hid hpl
    clear hpl
    by_cases hlt : j < n
    · obtain ⟨g, off, cap, hvv, hg, _, _, hca⟩ := hv.cellOf HN.out.symm hlt
      cases hvv
      have c1 : wr.cell? ⟨g, off + j, none⟩ = some (.int .i64 (xs.getD j 0)) := (World.cell?_of_block (w := w) (hq.block hg)).trans hca
      have HT := Lib.hid (plP_take xs j (by rw [← HN.out]; exact hlt))
      have HFT := Lib.hid (plP_false_take xs (j + 1))
      clear hca
      obtain ⟨c, hc⟩ : ∃ c, c = xs.getD j 0 := ⟨_, rfl⟩
      rw [← hc] at c1 HT
      clear hc
      obtain ⟨k, hk⟩ : ∃ k, k = cls c := ⟨_, rfl⟩
      have hof := fun w => of_any c w
      rw [← hk] at hof HT
      have HOF := Lib.hid hof
      clear hof hk
      have hres : ∀ b, plP (xs.take (j + 1)) = b → b = false → plainB xs = false := by
        intro b h1 h2
        unfold plainB
        rw [HFT.out (h1.trans h2)]; rfl
      have HRES := Lib.hid hres
      clear hres
      have hcase : (k = 0 ∧ j = 0) ∨ (k = 0 ∧ 0 < j) ∨ (k = 4 ∧ j = 0) ∨ (k = 4 ∧ 0 < j) ∨ (¬ k = 0 ∧ ¬ k = 4) := by omega
      rcases hcase with ⟨rfl, rfl⟩ | ⟨rfl, h0⟩ | ⟨rfl, rfl⟩ | ⟨rfl, h0⟩ | ⟨h0, h4⟩
      · have HB : Hid (plP (xs.take (0 + 1)) = true) := Lib.hid (by rw [HT.out, HP.out]; simp)
        rw [Nat.add_zero] at c1
        go_wp2_with fail
        refine (HOF.out _).mono ?_
        rintro e w1 ⟨rfl, hq1⟩
        go_wp2_with fail
        go_roundw
        case rel => exact ⟨0 + 1, by go_num, by omega, hq.trans hq1, HB.out⟩
        case measure => simp [intOf]; omega
      · have HB : Hid (plP (xs.take (j + 1)) = true) := Lib.hid (by rw [HT.out, HP.out]; simp)
        have e1 : ((j : Int) == 0) = false := by rw [beq_eq_false_iff_ne]; omega
        go_wp2_with fail
        refine (HOF.out _).mono ?_
        rintro e w1 ⟨rfl, hq1⟩
        go_wp2_with fail
        go_roundw
        case rel => exact ⟨j + 1, by go_num, by omega, hq.trans hq1, HB.out⟩
        case measure => simp [intOf]; omega
      · have HB : Hid (plainB xs = false) := Lib.hid (HRES.out _ rfl (by rw [HT.out, HP.out]; simp))
        rw [Nat.add_zero] at c1
        go_wp2_with fail
        refine (HOF.out _).mono ?_
        rintro e w1 ⟨rfl, hq1⟩
        go_wp2_with fail
        go_ret
        rw [HB.out]
        exact ⟨rfl, hq.trans hq1⟩
      · have HB : Hid (plP (xs.take (j + 1)) = true) := Lib.hid (by rw [HT.out, HP.out]; simp [h0])
        have e1 : ((j : Int) == 0) = false := by rw [beq_eq_false_iff_ne]; omega
        go_wp2_with fail
        refine (HOF.out _).mono ?_
        rintro e w1 ⟨rfl, hq1⟩
        go_wp2_with fail
        go_roundw
        case rel => exact ⟨j + 1, by go_num, by omega, hq.trans hq1, HB.out⟩
        case measure => simp [intOf]; omega
      · have HB : Hid (plainB xs = false) := Lib.hid (HRES.out _ rfl (by rw [HT.out, HP.out]; simp [h0, h4]))
        have e1 : ((k : Int) == 0) = false := by rw [beq_eq_false_iff_ne]; omega
        have e2 : ((k : Int) == 4) = false := by rw [beq_eq_false_iff_ne]; omega
        have e3 : ((k : Int) != 0) = true := by rw [bne_iff_ne]; omega
        have e4 : ((k : Int) != 4) = true := by rw [bne_iff_ne]; omega
        go_wp2_with fail
        refine (HOF.out _).mono ?_
        rintro e w1 ⟨rfl, hq1⟩
        go_wp2_with fail
        go_ret
        rw [HB.out]
        exact ⟨rfl, hq.trans hq1⟩
    · have hje : j = n := by omega
      have hF : plainB xs = decide (0 < n) := by
        have := HP.out
        rw [List.take_of_length_le (by rw [← HN.out]; omega)] at this
        unfold plainB
        rw [this, ← HN.out]; rfl
      have HF := Lib.hid hF
      clear hF hje
      go_wp2_with fail
      go_ret
      rw [HF.out]
      exact ⟨retB (by simp), hq⟩

end Cr
end Go.Proofs.Ythafeggcmojbdaa
