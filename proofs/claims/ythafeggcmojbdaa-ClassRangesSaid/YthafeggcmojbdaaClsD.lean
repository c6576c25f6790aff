/- What the table's rows are to each other: rising, apart, each character in one at most. -/
import Derived.Test.YthafeggcmojbdaaClsM
set_option linter.unusedVariables false
set_option linter.unusedSimpArgs false
namespace Go.Proofs.Ythafeggcmojbdaa.Cm

theorem rows_rise : ∀ m : Fin 15, (rowK m.1).Pairwise (fun a b => a.2 < b.1) := by decide +kernel
theorem rows_fit : ∀ m : Fin 15, (rowK m.1).all (fun a => decide (a.1 ≤ a.2) && (decide (a.2 < 44032) || decide (55203 < a.1)) && decide (0 ≤ a.1) && decide (a.2 ≤ 917999)) = true := by decide +kernel
theorem rows_apart : ∀ m k : Fin 15, m ≠ k → (rowK m.1).all (fun r => (rowK k.1).all (fun s => decide (r.2 < s.1) || decide (s.2 < r.1))) = true := by decide +kernel
theorem tab_rows : ∀ m : Fin 15, tab.filter (fun t => t.2.2 == (m.1 : Int)) = (rowK m.1).map (fun r => (r.1, r.2, (m.1 : Int))) := by decide +kernel

theorem inR_iff (c : Int) (r : Int × Int) : inR c r = true ↔ r.1 ≤ c ∧ c ≤ r.2 := by simp [inR]
theorem count_le {c : Int} (l : List (Int × Int)) (h : l.Pairwise (fun a b => a.2 < b.1)) : l.countP (inR c) ≤ 1 := by
  induction h with
  | nil => simp
  | cons ha _ ih =>
    rename_i a l _
    rw [List.countP_cons]
    split
    · rename_i hin
      have hin := (inR_iff c a).1 hin
      have : l.countP (inR c) = 0 := by
        rw [List.countP_eq_zero]
        intro b hb hin2
        have h1 := (inR_iff c b).1 hin2
        have h2 := ha b hb
        omega
      omega
    · omega
theorem any_cls {c : Int} {m : Nat} (hm : m < 15) (h : anyK c m = true) : cls c = m := by
  have hs : ¬ syll c := by
    intro hs
    obtain ⟨r, hr, hin⟩ := List.any_eq_true.1 h
    have := (List.all_eq_true.1 (rows_fit ⟨m, hm⟩)) r hr
    simp only [Bool.and_eq_true, Bool.or_eq_true, decide_eq_true_eq] at this
    have hin := (inR_iff c r).1 hin
    obtain ⟨h1, h2⟩ := hs
    omega
  refine cls_at hs hm (fun k hk => ?_) h
  cases hk2 : anyK c k
  · rfl
  · obtain ⟨r, hr, hin⟩ := List.any_eq_true.1 h
    obtain ⟨s, hss, hin2⟩ := List.any_eq_true.1 hk2
    have hap := rows_apart ⟨m, hm⟩ ⟨k, by omega⟩ (by intro e; cases e; omega)
    have := (List.all_eq_true.1 ((List.all_eq_true.1 hap) r hr)) s hss
    simp only [Bool.or_eq_true, decide_eq_true_eq] at this
    have h1 := (inR_iff c r).1 hin
    have h2 := (inR_iff c s).1 hin2
    omega
theorem cls_any {c : Int} {m : Nat} (hm : m < 15) (hn : 0 < (rowK m).length) (h : cls c = m) : anyK c m = true := by
  by_cases hs : syll c
  · by_cases h0 : (c - 44032) % 28 = 0
    · rw [cls_lv hs h0] at h; subst h; simp [rowK] at hn
    · rw [cls_lvt hs h0] at h; subst h; simp [rowK] at hn
  · rw [cls_neg hs] at h
    cases hf : (List.range 15).find? (anyK c) with
    | none => rw [hf] at h; have : m = 0 := h.symm; subst this; simp [rowK] at hn
    | some j =>
      rw [hf] at h
      have : j = m := h
      subst this
      exact List.find?_some hf
theorem count_any (c : Int) (l : List (Int × Int)) : (0 < l.countP (inR c)) ↔ l.any (inR c) = true := by
  rw [List.countP_pos_iff, List.any_eq_true]
theorem tot (c : Int) (m : Nat) (hm : m < 15) :
    ((rowK m).length = 0 ∧ (rowK m).countP (inR c) = 0) ∨ (0 < (rowK m).length ∧ cls c = m ∧ (rowK m).countP (inR c) = 1) ∨ (0 < (rowK m).length ∧ ¬ cls c = m ∧ (rowK m).countP (inR c) = 0) := by
  have hle := count_le (c := c) (rowK m) (rows_rise ⟨m, hm⟩)
  by_cases hn : (rowK m).length = 0
  · refine .inl ⟨hn, ?_⟩
    rw [List.eq_nil_of_length_eq_zero hn]; rfl
  · by_cases hc : cls c = m
    · have := (count_any c (rowK m)).2 (cls_any hm (by omega) hc)
      exact .inr (.inl ⟨by omega, hc, by omega⟩)
    · refine .inr (.inr ⟨by omega, hc, ?_⟩)
      cases h : (rowK m).countP (inR c) with
      | zero => rfl
      | succ x => exact absurd (any_cls hm ((count_any c (rowK m)).1 (by omega))) hc
theorem row_at {m j : Nat} (hm : m < 15) (hj : j < (rowK m).length) : ((rowK m).getD j (0, 0)).1 ≤ ((rowK m).getD j (0, 0)).2 := by
  have := (List.all_eq_true.1 (rows_fit ⟨m, hm⟩)) _ (List.getElem_mem hj)
  simp only [Bool.and_eq_true, decide_eq_true_eq] at this
  rw [List.getD_eq_getElem?_getD, List.getElem?_eq_getElem hj]
  exact this.1.1.1
theorem row_next {m j : Nat} (hm : m < 15) (hj : j + 1 < (rowK m).length) : ((rowK m).getD j (0, 0)).2 < ((rowK m).getD (j + 1) (0, 0)).1 := by
  have := (List.pairwise_iff_getElem.1 (rows_rise ⟨m, hm⟩)) j (j + 1) (by show j < (rowK m).length; omega) hj (by omega)
  rw [List.getD_eq_getElem?_getD, List.getElem?_eq_getElem (show j < (rowK m).length from by omega), List.getD_eq_getElem?_getD, List.getElem?_eq_getElem hj]
  exact this
theorem count_take (c : Int) (l : List (Int × Int)) (j : Nat) (h : j < l.length) : (l.take (j + 1)).countP (inR c) = (l.take j).countP (inR c) + if inR c (l.getD j (0, 0)) then 1 else 0 := by
  rw [List.take_succ_eq_append_getElem h, List.countP_append, List.getD_eq_getElem?_getD, List.getElem?_eq_getElem h]
  simp [List.countP_cons]
theorem filter_take (p : Int × Int × Int → Bool) (j : Nat) (h : j < 66) : (tab.take (j + 1)).filter p = (tab.take j).filter p ++ if p (tab.getD j (0, 0, 0)) then [tab.getD j (0, 0, 0)] else [] := by
  have hl : j < tab.length := by rw [tab_len]; exact h
  rw [List.take_succ_eq_append_getElem hl, List.filter_append, List.getD_eq_getElem?_getD, List.getElem?_eq_getElem hl]
  simp only [Option.getD_some, List.filter_cons, List.filter_nil]

end Go.Proofs.Ythafeggcmojbdaa.Cm
