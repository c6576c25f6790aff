/- Numbers and offsets as plain mathematics: how many of a rising row are below a number; how far one goes while something holds. -/
import Derived.Test.YtmobljfpkdjnpaaCluN
set_option linter.unusedVariables false
set_option linter.unusedSimpArgs false
namespace Go.Proofs.Ytmobljfpkdjnpaa.Pm
open Um Cm Gm

/-- How many are below x. -/
def cnt (S : List Int) (x : Int) : Nat := S.countP (· < x)
theorem cnt_le (S : List Int) (x : Int) : cnt S x ≤ S.length := List.countP_le_length
theorem cnt_at (S : List Int) (x : Int) (h : S.Pairwise (· < ·)) (i : Nat) (hi : i < S.length) : (S.getD i 0 < x ↔ i < cnt S x) := by
  induction S generalizing i with
  | nil => simp at hi
  | cons a r ih =>
    rw [List.pairwise_cons] at h
    unfold cnt
    rw [List.countP_cons]
    by_cases ha : a < x
    · simp only [ha, decide_true, if_true]
      cases i with
      | zero => simp [ha]
      | succ i =>
        have := ih h.2 i (by simpa using hi)
        unfold cnt at this
        rw [List.getD_cons_succ, this]; omega
    · have h0 : r.countP (fun y => decide (y < x)) = 0 := by
        rw [List.countP_eq_zero]
        intro b hb
        have := h.1 b hb
        simp; omega
      simp only [ha, decide_false, Bool.false_eq_true, if_false]
      rw [h0]
      cases i with
      | zero => simp [ha]
      | succ i =>
        have hi' : i < r.length := by simpa using hi
        rw [List.getD_cons_succ, List.getD_eq_getElem?_getD, List.getElem?_eq_getElem hi']
        have := h.1 r[i] (List.getElem_mem hi')
        simp only [Option.getD_some]
        omega
theorem rise_at (S : List Int) (h : S.Pairwise (· < ·)) (i j : Nat) (hi : i < S.length) (hj : j < S.length) (hij : i < j) : S.getD i 0 < S.getD j 0 := by
  rw [List.getD_eq_getElem?_getD, List.getElem?_eq_getElem hi, List.getD_eq_getElem?_getD, List.getElem?_eq_getElem hj]
  exact (List.pairwise_iff_getElem.1 h) i j hi hj hij
/-- Whether x is one of them. -/
theorem cnt_has (S : List Int) (x : Int) (h : S.Pairwise (· < ·)) : (S.contains x = true ↔ cnt S x < S.length ∧ S.getD (cnt S x) 0 = x) := by
  rw [List.contains_iff_mem]
  constructor
  · intro hm
    obtain ⟨i, hi, rfl⟩ := List.mem_iff_getElem.1 hm
    have e : S.getD i 0 = S[i] := by rw [List.getD_eq_getElem?_getD, List.getElem?_eq_getElem hi]; rfl
    have h1 := cnt_at S S[i] h i hi
    rw [e] at h1
    have h2 : cnt S S[i] = i := by
      rcases Nat.eq_zero_or_pos i with h0 | h0
      · subst h0
        have : ¬ 0 < cnt S S[0] := fun h' => by have := h1.2 h'; omega
        omega
      · have h3 := cnt_at S S[i] h (i - 1) (by omega)
        have h4 := rise_at S h (i - 1) i (by omega) hi (by omega)
        rw [e] at h4
        have := h3.1 h4
        have : ¬ i < cnt S S[i] := fun h' => by have := h1.2 h'; omega
        omega
    rw [h2]
    exact ⟨hi, e⟩
  · rintro ⟨hi, e⟩
    rw [← e, List.getD_eq_getElem?_getD, List.getElem?_eq_getElem hi]
    exact List.getElem_mem hi
theorem cnt_eq (S : List Int) (x : Int) (h : S.Pairwise (· < ·)) (i : Nat) (hi : i < S.length) : (S.getD i 0 = x ↔ i = cnt S x ∧ S.contains x = true) := by
  have h1 := cnt_has S x h
  constructor
  · intro e
    have hm : S.contains x = true := by
      rw [List.contains_iff_mem, ← e, List.getD_eq_getElem?_getD, List.getElem?_eq_getElem hi]
      exact List.getElem_mem hi
    have h2 := h1.1 hm
    refine ⟨?_, hm⟩
    rcases Nat.lt_trichotomy i (cnt S x) with h3 | h3 | h3
    · have := rise_at S h i _ hi h2.1 h3; omega
    · exact h3
    · have := rise_at S h _ i h2.1 hi h3; omega
  · rintro ⟨rfl, hm⟩
    exact (h1.1 hm).2
/-- The document's: which number begins at x. -/
def idxZ (S : List Int) (x : Int) : Int := if S.contains x = true then (cnt S x : Int) else -1
/-- How many are not above x. -/
def cnt1 (S : List Int) (x : Int) : Nat := cnt S x + (if S.contains x = true then 1 else 0)
theorem cnt1_at (S : List Int) (x : Int) (h : S.Pairwise (· < ·)) (i : Nat) (hi : i < S.length) : (S.getD i 0 ≤ x ↔ i < cnt1 S x) := by
  have h1 := cnt_at S x h i hi
  have h2 := cnt_eq S x h i hi
  unfold cnt1
  constructor
  · intro hle
    rcases Int.lt_or_eq_of_le hle with h3 | h3
    · have := h1.1 h3; omega
    · obtain ⟨h4, h5⟩ := h2.1 h3
      rw [if_pos h5]; omega
  · intro hlt
    split at hlt
    · rename_i hc
      rcases Nat.lt_or_ge i (cnt S x) with h3 | h3
      · have := h1.2 h3; omega
      · have := h2.2 ⟨by omega, hc⟩; omega
    · have := h1.2 (by omega); omega
theorem cnt1_le (S : List Int) (x : Int) (h : S.Pairwise (· < ·)) : cnt1 S x ≤ S.length := by
  have := cnt_le S x
  unfold cnt1
  split
  · rename_i hc
    have := ((cnt_has S x h).1 hc).1
    omega
  · omega
/-- The last one not above x, or 0. -/
def floZ (S : List Int) (x : Int) : Nat := cnt1 S x - 1
theorem floZ_has {S : List Int} {x : Int} (h : S.contains x = true) : floZ S x = cnt S x := by unfold floZ cnt1; rw [if_pos h]; omega
theorem floZ_not {S : List Int} {x : Int} (h : S.contains x = false) : floZ S x = cnt S x - 1 := by unfold floZ cnt1; rw [if_neg (by rw [h]; decide)]; omega
/-- The first one not below x, or the last one. -/
def ceiZ (S : List Int) (x : Int) : Nat := min (cnt S x) (S.length - 1)

/-- As far to the right as p holds, d steps at most. -/
def skR (p : Nat → Bool) : Nat → Nat → Nat
  | 0, i => i
  | d + 1, i => if p i = true then skR p d (i + 1) else i
theorem skR_ge (p : Nat → Bool) (d i : Nat) : i ≤ skR p d i := by
  induction d generalizing i with
  | zero => exact Nat.le_refl _
  | succ d ih => unfold skR; split; exact Nat.le_trans (Nat.le_succ i) (ih _); exact Nat.le_refl _
theorem skR_le (p : Nat → Bool) (d i : Nat) : skR p d i ≤ i + d := by
  induction d generalizing i with
  | zero => exact Nat.le_refl _
  | succ d ih => unfold skR; split; exact Nat.le_trans (ih _) (by omega); omega
/-- As far to the left as p holds of what stands there. -/
def skL (p : Nat → Bool) : Nat → Nat
  | 0 => 0
  | i + 1 => if p i = true then skL p i else i + 1
theorem skL_le (p : Nat → Bool) (i : Nat) : skL p i ≤ i := by
  induction i with
  | zero => exact Nat.le_refl _
  | succ i ih => unfold skL; split; exact Nat.le_trans ih (Nat.le_succ i); exact Nat.le_refl _
/-- Over such as p holds of, then over others. -/
def wdR (p : Nat → Bool) (n i : Nat) : Nat := skR (fun k => !p k) (n - skR p (n - i) i) (skR p (n - i) i)
def wdL (p : Nat → Bool) (i : Nat) : Nat := skL (fun k => !p k) (skL p i)
theorem wdR_le (p : Nat → Bool) (n i : Nat) (hi : i ≤ n) : wdR p n i ≤ n := by
  have h1 := skR_le p (n - i) i
  have h2 := skR_le (fun k => !p k) (n - skR p (n - i) i) (skR p (n - i) i)
  unfold wdR; omega
theorem wdR_gt (p : Nat → Bool) (n i : Nat) (hi : i < n) : i < wdR p n i := by
  obtain ⟨d, hd⟩ : ∃ d, n - i = d + 1 := ⟨n - i - 1, by omega⟩
  have h0 := skR_ge (fun k => !p k) (n - skR p (n - i) i) (skR p (n - i) i)
  unfold wdR
  rcases hp : p i with _ | _
  · have e : skR p (n - i) i = i := by rw [hd]; simp [skR, hp]
    rw [e, hd]
    have : skR (fun k => !p k) (d + 1) i = skR (fun k => !p k) d (i + 1) := by
      show (if (!p i) = true then _ else _) = _
      rw [hp]; rfl
    rw [this]
    have := skR_ge (fun k => !p k) d (i + 1)
    omega
  · have e : skR p (n - i) i = skR p d (i + 1) := by rw [hd]; simp [skR, hp]
    have := skR_ge p d (i + 1)
    omega
theorem wdL_le (p : Nat → Bool) (i : Nat) : wdL p i ≤ i := by
  have h1 := skL_le p i
  have h2 := skL_le (fun k => !p k) (skL p i)
  unfold wdL; omega
theorem wdL_lt (p : Nat → Bool) (i : Nat) (hi : 0 < i) : wdL p i < i := by
  obtain ⟨d, rfl⟩ : ∃ d, i = d + 1 := ⟨i - 1, by omega⟩
  unfold wdL
  rcases hp : p d with _ | _
  · have e : skL p (d + 1) = d + 1 := by simp [skL, hp]
    rw [e]
    have : skL (fun k => !p k) (d + 1) = skL (fun k => !p k) d := by
      show (if (!p d) = true then _ else _) = _
      rw [hp]; rfl
    rw [this]
    have := skL_le (fun k => !p k) d
    omega
  · have e : skL p (d + 1) = skL p d := by simp [skL, hp]
    have h1 := skL_le p d
    have h2 := skL_le (fun k => !p k) (skL p (d + 1))
    rw [e] at h2 ⊢
    omega
/-- A number within bounds. -/
def clN (i : Int) (n : Nat) : Nat := min i.toNat n
theorem clN_le (i : Int) (n : Nat) : clN i n ≤ n := Nat.min_le_right _ _

/-- Is a text's first character a blank? -/
def blkS (s : ByteArray) : Bool := blankB (fst3 s.data.toList).1
/-- Is a text's cluster of a number blank? -/
def blk (s : ByteArray) (i : Nat) : Bool := blkS (pc s (stL1 s.data.toList) i)
/-- Clusters from one up to another. -/
theorem pcs_drop (s : ByteArray) (i j : Nat) (hij : i ≤ j) (hj : j ≤ (begL s.data.toList).length) :
    ((((pcs s).drop i).take (j - i)).flatMap fun p => p.data.toList) = (s.data.toList.take ((stL1 s.data.toList).getD j 0).toNat).drop ((stL1 s.data.toList).getD i 0).toNat := by
  have e : ∀ k, k ≤ (begL s.data.toList).length → (((pcs s).take k).flatMap fun p => p.data.toList) = s.data.toList.take ((stL1 s.data.toList).getD k 0).toNat := by
    intro k hk
    have : (pcs s).take k = (List.range k).map (pc s (stL1 s.data.toList)) := by
      unfold pcs
      rw [← List.map_take, List.take_range, Nat.min_eq_left hk]
    rw [this, pcs_take s k hk]
  have h1 := e j hj
  have h2 := e i (by omega)
  have h3 : (pcs s).take j = (pcs s).take i ++ ((pcs s).drop i).take (j - i) := by
    rw [← List.drop_take]
    have : (pcs s).take i = ((pcs s).take j).take i := by rw [List.take_take, Nat.min_eq_left hij]
    rw [this, List.take_append_drop]
  have h4 : s.data.toList.take ((stL1 s.data.toList).getD j 0).toNat = s.data.toList.take ((stL1 s.data.toList).getD i 0).toNat ++ ((((pcs s).drop i).take (j - i)).flatMap fun p => p.data.toList) := by
    rw [← h1, h3, List.flatMap_append, h2]
  have hr : ((stL1 s.data.toList).getD i 0).toNat ≤ s.data.toList.length := by
    have := stL1_get s.data.toList i (by rw [stL1_length]; omega)
    omega
  have hl : (s.data.toList.take ((stL1 s.data.toList).getD i 0).toNat).length = ((stL1 s.data.toList).getD i 0).toNat := by
    rw [List.length_take]; omega
  rw [h4, List.drop_left' hl]

end Go.Proofs.Ytmobljfpkdjnpaa.Pm
