/- Clusters as plain mathematics: what is remembered of the characters so far, whether one more is joined, where clusters begin, and which bytes they are. -/
import Derived.Lib.Hide
import Derived.Test.YtglljkbpdbnhaaaUtfM
import Derived.Test.YtglljkbpdbnhaaaClsM
set_option linter.unusedVariables false
set_option linter.unusedSimpArgs false
namespace Go.Proofs.Ytglljkbpdbnhaaa.Gm
open Um Cm

/-- What is remembered: the class of what came last (-1: nothing came); whether a Picto and any number of Extends came last; whether one ZWJ behind them; whether an odd number of Regionals. -/
structure St where
  k : Int
  d : Bool
  s : Bool
  o : Bool
def st0 : St := ⟨-1, false, false, false⟩
def alB (k : Int) : Bool := decide (k = 3) || decide (k = 1) || decide (k = 2)
def sylB (a k : Int) : Bool :=
  if a = 9 then decide (k = 9) || decide (k = 10) || decide (k = 12) || decide (k = 13)
  else if a = 12 ∨ a = 10 then decide (k = 10) || decide (k = 11)
  else if a = 13 ∨ a = 11 then decide (k = 11) else false
def pairB (a k : Int) : Bool :=
  if a = -1 then false else if a = 1 ∧ k = 2 then true else if alB a = true ∨ alB k = true then false
  else if k = 4 ∨ k = 5 ∨ k = 8 then true else if a = 7 then true else sylB a k
def stp (t : St) (k : Int) : St := ⟨k, decide (k = 14) || (t.d && decide (k = 4)), t.d && decide (k = 5), decide (k = 6) && !t.o⟩
def jn (t : St) (k : Int) : Bool := pairB t.k k || (t.s && decide (k = 14)) || (t.o && decide (k = 6))

/-- The state behind classes, the last one first. -/
def stR : List Nat → St
  | [] => st0
  | k :: r => stp (stR r) k
/-- The state behind characters. -/
def stL (l : List Int) : St := l.foldl (fun t c => stp t (cls c)) st0
theorem stL_snoc (l : List Int) (c : Int) : stL (l ++ [c]) = stp (stL l) (cls c) := by simp [stL]
theorem stL_rev (l : List Int) : stL l = stR (l.map cls).reverse := by
  have h : ∀ r : List Int, stL r.reverse = stR (r.map cls) := by
    intro r
    induction r with
    | nil => rfl
    | cons c r ih => rw [List.reverse_cons, stL_snoc, ih]; rfl
  have := h l.reverse
  rw [List.reverse_reverse] at this
  rw [this, List.map_reverse]

theorem stR_d (r : List Nat) : (stR r).d = decide ((r.dropWhile (· == 4)).head? = some 14) := by
  induction r with
  | nil => rfl
  | cons k r ih =>
    show (decide ((k : Int) = 14) || ((stR r).d && decide ((k : Int) = 4))) = _
    rw [ih]
    by_cases h : k = 4
    · subst h; simp
    · have h1 : ((k : Int) = 4) = False := by simp; omega
      rw [List.dropWhile_cons_of_neg (by simpa using h)]
      simp only [h1, decide_false, Bool.and_false, Bool.or_false, List.head?_cons, Option.some.injEq]
      rw [decide_eq_decide]; omega
theorem stR_o (r : List Nat) : (stR r).o = decide ((r.takeWhile (· == 6)).length % 2 = 1) := by
  induction r with
  | nil => rfl
  | cons k r ih =>
    show (decide ((k : Int) = 6) && !(stR r).o) = _
    rw [ih]
    by_cases h : k = 6
    · subst h
      rw [List.takeWhile_cons_of_pos (by simp), List.length_cons]
      rw [show decide (((6 : Nat) : Int) = 6) = true from rfl, Bool.true_and]
      rw [Bool.eq_iff_iff]; simp; omega
    · have h1 : ((k : Int) = 6) = False := by simp; omega
      rw [List.takeWhile_cons_of_neg (by simpa using h)]
      simp [h1]
/-- The document's rules over classes, the last one first. -/
def refR : List Nat → Int → Bool
  | [], _ => false
  | a :: r, k => if a = 1 ∧ k = 2 then true else if alB a = true ∨ alB k = true then false
    else if sylB a k = true ∨ k = 4 ∨ k = 5 ∨ k = 8 ∨ a = 7 then true
    else if a = 5 ∧ k = 14 then decide ((r.dropWhile (· == 4)).head? = some 14)
    else decide (k = 6) && decide (((a :: r).takeWhile (· == 6)).length % 2 = 1)
theorem stR_inv (r : List Nat) : ((stR r).d = true → (stR r).k = 14 ∨ (stR r).k = 4) ∧ ((stR r).s = true → (stR r).k = 5) ∧ ((stR r).o = true → (stR r).k = 6) := by
  cases r with
  | nil => simp [stR, st0]
  | cons k r =>
    refine ⟨fun h => ?_, fun h => ?_, fun h => ?_⟩
    · have h' : (decide ((k : Int) = 14) || ((stR r).d && decide ((k : Int) = 4))) = true := h
      show (k : Int) = 14 ∨ (k : Int) = 4
      simp at h'; omega
    · have h' : ((stR r).d && decide ((k : Int) = 5)) = true := h
      show (k : Int) = 5
      simp at h'; omega
    · have h' : (decide ((k : Int) = 6) && !(stR r).o) = true := h
      show (k : Int) = 6
      simp at h'; omega
theorem jn_ref (r : List Nat) (k : Int) : jn (stR r) k = refR r k := by
  cases r with
  | nil => simp [jn, stR, st0, refR, pairB]
  | cons a r =>
    have hk : (stR (a :: r)).k = (a : Int) := rfl
    have hs : (stR (a :: r)).s = ((stR r).d && decide ((a : Int) = 5)) := rfl
    have ho := stR_o (a :: r)
    have hi := (stR_inv (a :: r)).2.2
    have hd := stR_d r
    unfold jn
    rw [hk, hs]
    unfold refR pairB
    rw [if_neg (by omega)]
    rw [hk] at hi
    have e1 : ((a : Int) = 1 ∧ k = 2) = (a = 1 ∧ k = 2) := by rw [eq_iff_iff]; omega
    simp only [e1]
    by_cases c1 : a = 1 ∧ k = 2
    · rw [if_pos c1, if_pos c1]; rfl
    · rw [if_neg c1, if_neg c1]
      by_cases c2 : alB (a : Int) = true ∨ alB k = true
      · rw [if_pos c2, if_pos c2]
        rcases c2 with c2 | c2
        · have h5 : ¬ ((a : Int) = 5) := by intro e; rw [e] at c2; revert c2; decide
          have h6 : ¬ (a : Int) = 6 := by intro e; rw [e] at c2; revert c2; decide
          have : (stR (a :: r)).o = false := by
            cases h : (stR (a :: r)).o
            · rfl
            · exact absurd (hi h) h6
          rw [this]; simp [h5]
        · have h5 : ¬ (k = 14) := by intro e; rw [e] at c2; revert c2; decide
          have h6 : ¬ (k = 6) := by intro e; rw [e] at c2; revert c2; decide
          simp [h5, h6]
      · rw [if_neg c2, if_neg c2]
        by_cases c3 : k = 4 ∨ k = 5 ∨ k = 8
        · rw [if_pos c3, if_pos (.inr (by omega))]; rfl
        · rw [if_neg c3]
          by_cases c4 : (a : Int) = 7
          · rw [if_pos c4, if_pos (.inr (by omega))]; rfl
          · rw [if_neg c4]
            by_cases c5 : sylB a k = true
            · rw [if_pos (.inl c5), c5]; rfl
            · rw [if_neg (by rintro (h | h); exact c5 h; omega)]
              have c5' : sylB a k = false := by simpa using c5
              rw [c5', Bool.false_or]
              by_cases c6 : a = 5 ∧ k = 14
              · obtain ⟨rfl, rfl⟩ := c6
                rw [if_pos ⟨rfl, rfl⟩, hd]; simp
              · rw [if_neg c6, ho]
                have : ((stR r).d && decide ((a : Int) = 5) && decide (k = 14)) = false := by
                  by_cases h5 : (a : Int) = 5
                  · have : ¬ k = 14 := fun h => c6 ⟨by omega, h⟩
                    simp [this]
                  · simp [h5]
                rw [this, Bool.false_or, Bool.and_comm]

/-- What hangs on no more than a list's last characters. -/
theorem stp_forget (t u : St) (k : Int) (h : k ≠ 4 ∧ k ≠ 5 ∧ k ≠ 6) : stp t k = stp u k := by
  unfold stp
  simp [h.1, h.2.1, h.2.2]
theorem stL_since (l : List Int) (i : Nat) (hi : i = 0 ∨ (i < l.length ∧ cls (l.getD i 0) ≠ 4 ∧ cls (l.getD i 0) ≠ 5 ∧ cls (l.getD i 0) ≠ 6)) : stL (l.drop i) = stL l := by
  rcases hi with rfl | ⟨h, h4, h5, h6⟩
  · rfl
  · have e : l = l.take i ++ l.drop i := (List.take_append_drop i l).symm
    conv => rhs; rw [e]
    unfold stL
    rw [List.foldl_append, List.drop_eq_getElem_cons h, List.foldl_cons, List.foldl_cons]
    rw [List.getD_eq_getElem?_getD, List.getElem?_eq_getElem h] at h4 h5 h6
    simp only [Option.getD_some] at h4 h5 h6
    exact congrArg (fun t => List.foldl (fun t c => stp t (cls c)) t (l.drop (i + 1))) (stp_forget _ _ _ ⟨by omega, by omega, by omega⟩)

/-- The state behind some of a text's marks. -/
def stMs (ms : List (Int × Nat × Bool)) : St := stL (ms.map (·.1))
/-- Where clusters begin. -/
def begF (t : St) (p : Nat) : List (Int × Nat × Bool) → List Int
  | [] => []
  | m :: r => (if jn t (cls m.1) = true then [] else [(p : Int)]) ++ begF (stp t (cls m.1)) (p + m.2.1) r
def begL (l : List UInt8) : List Int := begF st0 0 (marks l)
def width (ms : List (Int × Nat × Bool)) : Nat := (ms.map (·.2.1)).sum
theorem begF_append (t : St) (p : Nat) (a b : List (Int × Nat × Bool)) :
    begF t p (a ++ b) = begF t p a ++ begF ((a.map (·.1)).foldl (fun t c => stp t (cls c)) t) (p + width a) b := by
  induction a generalizing t p with
  | nil => simp [begF, width]
  | cons m a ih =>
    simp only [List.cons_append, begF, ih, List.map_cons, List.foldl_cons, List.append_assoc, width, List.sum_cons]
    rw [Nat.add_assoc]
theorem begF_snoc (ms : List (Int × Nat × Bool)) (m : Int × Nat × Bool) :
    begF st0 0 (ms ++ [m]) = begF st0 0 ms ++ (if jn (stMs ms) (cls m.1) = true then [] else [(width ms : Int)]) := by
  rw [begF_append]
  simp only [begF, List.append_nil, Nat.zero_add]
  rfl
theorem stMs_snoc (ms : List (Int × Nat × Bool)) (m : Int × Nat × Bool) : stMs (ms ++ [m]) = stp (stMs ms) (cls m.1) := by
  unfold stMs; rw [List.map_append]; exact stL_snoc _ _
theorem width_snoc (ms : List (Int × Nat × Bool)) (m : Int × Nat × Bool) : width (ms ++ [m]) = width ms + m.2.1 := by simp [width]
theorem begF_pre (a b : List (Int × Nat × Bool)) : begF st0 0 a <+: begF st0 0 (a ++ b) := by rw [begF_append]; exact List.prefix_append _ _
theorem begF_length (t : St) (p : Nat) (ms : List (Int × Nat × Bool)) : (begF t p ms).length ≤ ms.length := by
  induction ms generalizing t p with
  | nil => simp [begF]
  | cons m ms ih =>
    have := ih (stp t (cls m.1)) (p + m.2.1)
    simp only [begF, List.length_append, List.length_cons]
    split <;> simp <;> omega
theorem begL_length (l : List UInt8) : (begL l).length ≤ l.length := Nat.le_trans (begF_length _ _ _) (marks_length l)


/-- The last of them, or 0. -/
def lastB (l : List Int) : Int := (l.getLast?).getD 0
theorem lastB_snoc (l : List Int) (x : Int) : lastB (l ++ [x]) = x := by simp [lastB]
theorem begF_bd (t : St) (p : Nat) (ms : List (Int × Nat × Bool)) : ∀ x ∈ begF t p ms, (p : Int) ≤ x ∧ x ≤ p + width ms := by
  induction ms generalizing t p with
  | nil => simp [begF]
  | cons m ms ih =>
    intro x hx
    have hw : width (m :: ms) = m.2.1 + width ms := by simp [width]
    rw [begF, List.mem_append] at hx
    rcases hx with hx | hx
    · split at hx
      · cases hx
      · rw [List.mem_singleton] at hx; omega
    · have := ih _ _ x hx
      omega
theorem width_marks (l : List UInt8) : width (marks l) = l.length := by
  refine marks_ind (p := fun l => width (marks l) = l.length) rfl ?_ l
  intro l hl ih
  have := mark_n l hl
  rw [marks_cons l hl]
  show (mrk l).2.1 + width (marks (l.drop (mrk l).2.1)) = _
  rw [ih, List.length_drop]; omega
theorem begL_bd (l : List UInt8) : ∀ x ∈ begL l, 0 ≤ x ∧ x ≤ l.length := by
  intro x hx
  have := begF_bd st0 0 (marks l) x hx
  rw [width_marks] at this
  omega
theorem lastB_bd (l : List UInt8) : 0 ≤ lastB (begL l) ∧ lastB (begL l) ≤ l.length := by
  unfold lastB
  cases h : (begL l).getLast? with
  | none => simp
  | some x => exact begL_bd l x (List.mem_of_getLast? h)
/-- The first one behind 0, or the text's end. -/
def frsL (l : List UInt8) : Int := ((begL l).find? (fun x => decide (0 < x))).getD l.length
theorem frsL_none (l : List UInt8) (h : ∀ x ∈ begL l, ¬ 0 < x) : frsL l = l.length := by
  unfold frsL
  rw [List.find?_eq_none.2 (by simpa using h)]; rfl
theorem frsL_some (l : List UInt8) (r : List Int) (x : Int) (hp : r ++ [x] <+: begL l) (hx : 0 < x) (h : ∀ y ∈ r, ¬ 0 < y) : frsL l = x := by
  obtain ⟨t, ht⟩ := hp
  unfold frsL
  rw [← ht, List.append_assoc, List.find?_append, List.find?_eq_none.2 (by simpa using h)]
  simp [hx]

end Go.Proofs.Ytglljkbpdbnhaaa.Gm
