/- The classes of characters as plain mathematics: the table's rows, a character's class, and what both answers say of it. -/
import Derived.Lib.Hide
import Derived.Test.YtglljkbpdbnhaaaUtfM
set_option linter.unusedVariables false
set_option linter.unusedSimpArgs false
namespace Go.Proofs.Ytglljkbpdbnhaaa.Cm

/-- A row of the table. -/
def rowK : Nat → List (Int × Int)
  | 1 => [(13, 13)]
  | 2 => [(10, 10)]
  | 3 => [(0, 9), (11, 12), (14, 31), (127, 159), (173, 173), (8203, 8203), (8206, 8207), (8232, 8238), (8288, 8303), (65279, 65279), (65520, 65531), (917504, 917535)]
  | 4 => [(768, 879), (1155, 1161), (1425, 1469), (1552, 1562), (1611, 1631), (1648, 1648), (2364, 2364), (2369, 2376), (2381, 2381), (8204, 8204), (8400, 8432), (12330, 12335), (12441, 12442), (65024, 65039), (65056, 65071), (127995, 127999), (917536, 917631), (917760, 917999)]
  | 5 => [(8205, 8205)]
  | 6 => [(127462, 127487)]
  | 7 => [(1536, 1541), (1757, 1757), (1807, 1807), (2274, 2274)]
  | 8 => [(2307, 2307), (2363, 2363), (2366, 2368), (2377, 2380), (2434, 2435), (3635, 3635), (3763, 3763)]
  | 9 => [(4352, 4447), (43360, 43388)]
  | 10 => [(4448, 4519), (55216, 55238)]
  | 11 => [(4520, 4607), (55243, 55291)]
  | 14 => [(169, 169), (174, 174), (8252, 8252), (8265, 8265), (8482, 8482), (8505, 8505), (8596, 8601), (8986, 8987), (9728, 9732), (9989, 9989), (10084, 10084), (127744, 127994), (128000, 128591), (128640, 128767), (129280, 129535)]
  | _ => []
/-- Whether a range holds a character. -/
def inR (c : Int) (r : Int × Int) : Bool := decide (r.1 ≤ c) && decide (c ≤ r.2)
/-- Whether a row holds it. -/
def anyK (c : Int) (k : Nat) : Bool := (rowK k).any (inR c)
/-- A character's class. -/
def cls (c : Int) : Nat :=
  if 44032 ≤ c ∧ c ≤ 55203 then (if (c - 44032) % 28 = 0 then 12 else 13)
  else ((List.range 15).find? (anyK c)).getD 0

/-- The row of whatever number. -/
def rowZ (k : Int) : List (Int × Int) := if 0 ≤ k then rowK k.toNat else []
theorem rowZ_nat (k : Nat) : rowZ k = rowK k := by unfold rowZ; rw [if_pos (by omega)]; rfl
theorem rowK_none {k : Nat} (h : ¬ (1 ≤ k ∧ k ≤ 11) ∧ ¬ k = 14) : rowK k = [] := by
  unfold rowK
  split <;> first | rfl | omega
theorem rowZ_none {k : Int} (h : ¬ (1 ≤ k ∧ k ≤ 11) ∧ ¬ k = 14) : rowZ k = [] := by
  unfold rowZ
  split
  · exact rowK_none (by omega)
  · rfl
theorem rowZ_len (k : Int) : (rowZ k).length ≤ 18 := by
  by_cases h : ¬ (1 ≤ k ∧ k ≤ 11) ∧ ¬ k = 14
  · rw [rowZ_none h]; simp
  · have : k = 1 ∨ k = 2 ∨ k = 3 ∨ k = 4 ∨ k = 5 ∨ k = 6 ∨ k = 7 ∨ k = 8 ∨ k = 9 ∨ k = 10 ∨ k = 11 ∨ k = 14 := by omega
    rcases this with rfl | rfl | rfl | rfl | rfl | rfl | rfl | rfl | rfl | rfl | rfl | rfl <;> decide +kernel

/-- A syllable of Hangul. -/
def syll (c : Int) : Prop := 44032 ≤ c ∧ c ≤ 55203
theorem cls_lv {c : Int} (h : syll c) (h0 : (c - 44032) % 28 = 0) : cls c = 12 := by
  unfold cls; exact (if_pos h).trans (if_pos h0)
theorem cls_lvt {c : Int} (h : syll c) (h0 : ¬ (c - 44032) % 28 = 0) : cls c = 13 := by
  unfold cls; exact (if_pos h).trans (if_neg h0)
theorem cls_neg {c : Int} (h : ¬ syll c) : cls c = ((List.range 15).find? (anyK c)).getD 0 := by unfold cls; exact if_neg h
theorem cls_at {c : Int} {j : Nat} (hs : ¬ syll c) (hj : j < 15) (h0 : ∀ m, m < j → anyK c m = false) (h1 : anyK c j = true) : cls c = j := by
  rw [cls_neg hs]
  have : (List.range 15).find? (anyK c) = some j := by
    rw [List.find?_eq_some_iff_getElem]
    refine ⟨h1, j, by simpa using hj, by simp, fun m hm => ?_⟩
    simp [h0 m hm]
  rw [this]; rfl
theorem cls_no {c : Int} (hs : ¬ syll c) (h0 : ∀ m, m < 15 → anyK c m = false) : cls c = 0 := by
  rw [cls_neg hs]
  have : (List.range 15).find? (anyK c) = none := by
    rw [List.find?_eq_none]
    intro m hm
    simp [h0 m (by simpa using hm)]
  rw [this]; rfl
theorem cls_le (c : Int) : cls c ≤ 14 := by
  by_cases h : syll c
  · by_cases h0 : (c - 44032) % 28 = 0
    · rw [cls_lv h h0]; omega
    · rw [cls_lvt h h0]; omega
  · rw [cls_neg h]
    cases hf : (List.range 15).find? (anyK c) with
    | none => simp
    | some j =>
      have := List.mem_of_find?_eq_some hf
      simp at this
      simp; omega

/-- The table of the document's own answer: first, last, class. -/
def tab : List (Int × Int × Int) := (List.range 15).flatMap fun k => (rowK k).map fun r => (r.1, r.2, (k : Int))
theorem tab_len : tab.length = 66 := by decide +kernel
def inT (c : Int) (r : Int × Int × Int) : Bool := inR c (r.1, r.2.1)
theorem find_tab (c : Int) (ks : List Nat) :
    ((ks.flatMap fun k => (rowK k).map fun r => (r.1, r.2, (k : Int))).find? (inT c)).map (·.2.2) = (ks.find? (anyK c)).map (Nat.cast : Nat → Int) := by
  induction ks with
  | nil => rfl
  | cons k ks ih =>
    rw [List.flatMap_cons, List.find?_append, List.find?_cons]
    have hm : ∀ l : List (Int × Int), ((l.map fun r => (r.1, r.2, (k : Int))).find? (inT c)).map (·.2.2) = if l.any (inR c) then some (k : Int) else none := by
      intro l
      induction l with
      | nil => rfl
      | cons r l il =>
        rw [List.map_cons, List.find?_cons, List.any_cons]
        have e : inT c (r.1, r.2, (k : Int)) = inR c r := rfl
        rw [e]
        cases inR c r
        · exact il
        · rfl
    have hk := hm (rowK k)
    show _ = Option.map _ (match (rowK k).any (inR c) with | true => some k | false => ks.find? (anyK c))
    cases ha : (rowK k).any (inR c)
    · rw [ha] at hk
      simp only [Bool.false_eq_true, if_false, Option.map_eq_none_iff] at hk
      rw [hk]
      simpa using ih
    · rw [ha] at hk
      simp only [if_true] at hk
      cases hf : ((rowK k).map fun r => (r.1, r.2, (k : Int))).find? (inT c) with
      | none => rw [hf] at hk; cases hk
      | some x => rw [hf] at hk; simpa using hk
theorem tab_cls {c : Int} (hs : ¬ syll c) : (((tab.find? (inT c)).map (·.2.2)).getD 0) = (cls c : Int) := by
  unfold tab; rw [find_tab]
  rw [cls_neg hs]
  cases (List.range 15).find? (anyK c) <;> rfl
theorem tab_at {c : Int} {j : Nat} (hs : ¬ syll c) (hj : j < 66) (h0 : (tab.take j).any (inT c) = false) (h1 : inT c (tab.getD j (0, 0, 0)) = true) : (tab.getD j (0, 0, 0)).2.2 = (cls c : Int) := by
  have hl : j < tab.length := by rw [tab_len]; exact hj
  have hg : tab.getD j (0, 0, 0) = tab[j] := by rw [List.getD_eq_getElem?_getD, List.getElem?_eq_getElem hl]; rfl
  have : tab.find? (inT c) = some (tab.getD j (0, 0, 0)) := by
    rw [List.find?_eq_some_iff_getElem]
    refine ⟨h1, j, hl, hg.symm, fun m hm => ?_⟩
    have := (List.any_eq_false.1 h0) (tab[m]'(by omega)) (by rw [List.mem_take_iff_getElem]; exact ⟨m, by omega, rfl⟩)
    simpa using this
  rw [← tab_cls hs, this]; rfl
theorem tab_no {c : Int} (hs : ¬ syll c) (h0 : tab.any (inT c) = false) : cls c = 0 := by
  have : tab.find? (inT c) = none := by
    rw [List.find?_eq_none]
    intro x hx
    have := (List.any_eq_false.1 h0) x hx
    simpa using this
  have h := tab_cls hs
  rw [this] at h
  have : (0 : Int) = (cls c : Int) := h
  omega

theorem tab_bd (j : Nat) : 0 ≤ (tab.getD j (0, 0, 0)).1 ∧ (tab.getD j (0, 0, 0)).1 ≤ 917999 ∧ 0 ≤ (tab.getD j (0, 0, 0)).2.1 ∧ (tab.getD j (0, 0, 0)).2.1 ≤ 917999 ∧ (tab.getD j (0, 0, 0)).1 ≤ (tab.getD j (0, 0, 0)).2.1 ∧ 0 ≤ (tab.getD j (0, 0, 0)).2.2 ∧ (tab.getD j (0, 0, 0)).2.2 ≤ 14 := by
  have h : tab.all (fun r => decide (0 ≤ r.1) && decide (r.1 ≤ 917999) && decide (0 ≤ r.2.1) && decide (r.2.1 ≤ 917999) && decide (r.1 ≤ r.2.1) && decide (0 ≤ r.2.2) && decide (r.2.2 ≤ 14)) = true := by decide +kernel
  rw [List.getD_eq_getElem?_getD]
  by_cases hj : j < tab.length
  · rw [List.getElem?_eq_getElem hj]
    have := (List.all_eq_true.1 h) tab[j] (List.getElem_mem hj)
    simp only [Bool.and_eq_true, decide_eq_true_eq] at this
    exact ⟨this.1.1.1.1.1.1, this.1.1.1.1.1.2, this.1.1.1.1.2, this.1.1.1.2, this.1.1.2, this.1.2, this.2⟩
  · rw [List.getElem?_eq_none (by omega)]; decide
/-- A character at a range's edge, or beside it. -/
def edge (n side : Int) : Int :=
  let r := tab.getD (Um.around n 66).toNat (0, 0, 0)
  if side.tmod 4 = 0 then r.1 else if side.tmod 4 = 1 ∨ side.tmod 4 = -1 then r.2.1 else if side.tmod 4 = 2 ∨ side.tmod 4 = -2 then r.1 - 1 else r.2.1 + 1
theorem edge_bd (n side : Int) : -1 ≤ edge n side ∧ edge n side ≤ 918000 := by
  have := tab_bd (Um.around n 66).toNat
  unfold edge
  simp only
  split
  · omega
  · split
    · omega
    · split <;> omega

/-- The blanks. -/
def blanks : List Int := [9, 10, 11, 12, 13, 32, 160, 8201, 8239]
def blankB (c : Int) : Bool := blanks.contains c
/-- Plain, so far. -/
def plP (l : List Int) : Bool := (l.all fun c => cls c == 0 || cls c == 4) && (match l with | [] => true | c :: _ => cls c == 0)
def plainB (l : List Int) : Bool := plP l && decide (0 < l.length)
theorem plP_snoc (l : List Int) (c : Int) : plP (l ++ [c]) = (plP l && (cls c == 0 || (cls c == 4 && decide (0 < l.length)))) := by
  cases l with
  | nil =>
    simp only [plP, List.nil_append, List.all_cons, List.all_nil]
    cases (cls c == 0) <;> cases (cls c == 4) <;> simp
  | cons d r =>
    simp only [plP, List.cons_append, List.all_cons, List.all_append, List.all_nil, List.length_cons]
    have : decide (0 < r.length + 1) = true := by simp
    rw [this]
    cases (cls c == 0) <;> cases (cls c == 4) <;> cases (cls d == 0) <;> cases (cls d == 4) <;> cases (r.all fun c => cls c == 0 || cls c == 4) <;> rfl
theorem plP_take (l : List Int) (j : Nat) (h : j < l.length) : plP (l.take (j + 1)) = (plP (l.take j) && (cls (l.getD j 0) == 0 || (cls (l.getD j 0) == 4 && decide (0 < j)))) := by
  rw [List.take_succ_eq_append_getElem h, plP_snoc, List.getD_eq_getElem?_getD, List.getElem?_eq_getElem h]
  have : (l.take j).length = j := by rw [List.length_take]; omega
  rw [this]; rfl
theorem plP_false_take (l : List Int) (j : Nat) (h : plP (l.take j) = false) : plP l = false := by
  have e : l = l.take j ++ l.drop j := (List.take_append_drop j l).symm
  generalize l.take j = a at *
  generalize l.drop j = b at *
  subst e
  cases a with
  | nil => simp [plP] at h
  | cons d r =>
    simp only [plP, List.cons_append, List.all_cons, List.all_append] at h ⊢
    cases h1 : (cls d == 0) <;> cases h2 : (cls d == 4) <;> cases h3 : (r.all fun c => cls c == 0 || cls c == 4) <;> simp_all

/-- The characters that a plain list is made of. -/
def chrP (i : Nat) (x : Int) : Int := if 25 < Um.around x 60 ∧ 0 < i then 768 + Um.around x 60 else 65 + Um.around x 60 % 26
def plG (i : Nat) : List Int → List Int
  | [] => []
  | x :: r => chrP i x :: plG (i + 1) r
theorem plG_length (i : Nat) (l : List Int) : (plG i l).length = l.length := by
  induction l generalizing i with
  | nil => rfl
  | cons x r ih => simp [plG, ih]
theorem plG_app (i : Nat) (a b : List Int) : plG i (a ++ b) = plG i a ++ plG (i + a.length) b := by
  induction a generalizing i with
  | nil => simp [plG]
  | cons x r ih => simp only [List.cons_append, plG, ih, List.length_cons]; rw [show i + 1 + r.length = i + (r.length + 1) from by omega]
theorem plG_take (l : List Int) (j : Nat) (h : j < l.length) : plG 0 (l.take (j + 1)) = plG 0 (l.take j) ++ [chrP j (l.getD j 0)] := by
  rw [List.take_succ_eq_append_getElem h, plG_app, List.getD_eq_getElem?_getD, List.getElem?_eq_getElem h]
  have : (l.take j).length = j := by rw [List.length_take]; omega
  rw [this]; simp [plG]
theorem cls_letters : ∀ n : Nat, n < 26 → cls (65 + (n : Int)) = 0 := by decide +kernel
theorem cls_marks : ∀ n : Nat, n < 34 → cls (794 + (n : Int)) = 4 := by decide +kernel
theorem chrP_cls (i : Nat) (x : Int) : cls (chrP i x) = 0 ∨ (0 < i ∧ cls (chrP i x) = 4) := by
  have hb := Um.around_bd x 60 (by omega)
  unfold chrP
  split
  · rename_i h
    refine .inr ⟨h.2, ?_⟩
    have := cls_marks (Um.around x 60 - 26).toNat (by omega)
    rw [show (794 : Int) + ((Um.around x 60 - 26).toNat : Int) = 768 + Um.around x 60 from by omega] at this
    exact this
  · refine .inl ?_
    have := cls_letters (Um.around x 60 % 26).toNat (by omega)
    rw [show (65 : Int) + ((Um.around x 60 % 26).toNat : Int) = 65 + Um.around x 60 % 26 from by omega] at this
    exact this
theorem plG_all (i : Nat) (l : List Int) : (plG i l).all (fun c => cls c == 0 || cls c == 4) = true := by
  induction l generalizing i with
  | nil => rfl
  | cons x r ih =>
    simp only [plG, List.all_cons, ih, Bool.and_true]
    rcases chrP_cls i x with h | ⟨_, h⟩ <;> simp [h]
theorem plG_head (x : Int) (r : List Int) : (cls (chrP 0 x) == 0) = true := by
  rcases chrP_cls 0 x with h | ⟨h, _⟩
  · simp [h]
  · omega
theorem plP_two (a b : List Int) : plP (plG 0 a ++ plG 0 b) = true := by
  unfold plP
  rw [List.all_append, plG_all, plG_all]
  cases a with
  | nil =>
    cases b with
    | nil => rfl
    | cons x r => simpa [plG] using plG_head x r
  | cons x r => simpa [plG] using plG_head x r
theorem plP_begin (a : List Int) (j : Nat) : plP ((plG 0 a).take j) = true := by
  cases h : plP ((plG 0 a).take j)
  · have h1 := plP_false_take _ _ h
    have h2 := plP_two a []
    simp [plG] at h2
    rw [h1] at h2; cases h2
  · rfl
theorem plainB_two (a b : List Int) : plainB (plG 0 a ++ plG 0 b) = decide (0 < (plG 0 a ++ plG 0 b).length) := by
  unfold plainB; rw [plP_two]; rfl
theorem plainB_begin (a : List Int) (j : Nat) (h : j ≤ a.length) : plainB ((plG 0 a).take j) = decide (0 < j) := by
  unfold plainB; rw [plP_begin, List.length_take, plG_length, Nat.min_eq_left h]; rfl

end Go.Proofs.Ytglljkbpdbnhaaa.Cm
