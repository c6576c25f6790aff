/- What the statements on items ask, as plain mathematics: signs, groups, atoms. (and more) -/
import Derived.Test.YtnlfeamhedihpaaGreatDoorR00
import Derived.Test.YtnlfeamhedihpaaGreatDoorR04
import Derived.Test.YtnlfeamhedihpaaGreatDoorR05
import Derived.Test.YtnlfeamhedihpaaGreatDoorR40
import Derived.Test.YtnlfeamhedihpaaGreatDoorR01
import Derived.Test.YtnlfeamhedihpaaGreatDoorR10
import Derived.Test.YtnlfeamhedihpaaGreatDoorR15
import Derived.Test.YtnlfeamhedihpaaGreatDoorR03
import Derived.Test.YtnlfeamhedihpaaGreatDoorR09
import Derived.Test.YtnlfeamhedihpaaGreatDoorR31
import Derived.Test.YtnlfeamhedihpaaGreatDoorR02
import Derived.Test.YtnlfeamhedihpaaGreatDoorRows
set_option linter.unusedVariables false
set_option linter.unusedSimpArgs false
namespace Go.Proofs.YtnlfeamhedihpaaGreatDoor
namespace Im
open Um Cm Gm
theorem cnt_take (p : E → Bool) (l : List E) (k : Nat) (hk : k < l.length) : (l.take (k + 1)).countP p = (l.take k).countP p + if p (l.getD k e0) = true then 1 else 0 := by
  rw [List.take_add_one, List.getElem?_eq_getElem hk, List.countP_append, List.getD_eq_getElem?_getD, List.getElem?_eq_getElem hk]
  simp [List.countP_cons]
theorem cnt_le (p : E → Bool) (l : List E) (k : Nat) : (l.take k).countP p ≤ k := Nat.le_trans List.countP_le_length (by rw [List.length_take]; omega)
theorem mem_at (l : List E) (k : Nat) (hk : k < l.length) : l.getD k e0 ∈ l := by
  rw [List.getD_eq_getElem?_getD, List.getElem?_eq_getElem hk]
  exact List.getElem_mem hk
theorem aff_tag {r : Lm.Rec} {l : List Pb.E} {e : E} (h : e ∈ affI r l) : (e.1 = 0 ∨ e.1 = 1) ∧ e.2.2 = -1 ∧ (e.1 = 1 → e.2.1 = Lm.bs r.min) := by
  obtain ⟨p, _, rfl⟩ := List.mem_map.1 h
  unfold affE
  by_cases h1 : p.1 = true
  · rw [if_pos h1]; exact ⟨.inr rfl, rfl, fun _ => rfl⟩
  · rw [if_neg h1]; exact ⟨.inl rfl, rfl, fun h => by cases h⟩
theorem wh_tag {r : Lm.Rec} {p s : Int} {I : List Int} : ∀ k, ∀ e ∈ whI r p s I k, e.1 = 2 ∨ (e.1 = 3 ∧ e.2.2 = -1)
  | 0, e, he => by cases he
  | k + 1, e, he => by
    rw [whI_succ] at he
    rcases List.mem_append.1 he with he | he
    · exact wh_tag k e he
    · rcases List.mem_cons.1 he with rfl | he
      · exact .inl rfl
      · unfold grpI at he
        split at he
        · simp only [List.mem_cons, List.not_mem_nil, or_false] at he
          subst he; exact .inr ⟨rfl, rfl⟩
        · cases he
theorem re_tag {r : Lm.Rec} {n : Nat} {F : List Int} : ∀ k, ∀ e ∈ reI r n F k, e.1 = 2 ∨ e.1 = 4
  | 0, e, he => by
    rw [reI_zero] at he
    simp only [List.mem_cons, List.not_mem_nil, or_false] at he
    subst he; exact .inr rfl
  | k + 1, e, he => by
    rw [reI_succ] at he
    rcases List.mem_append.1 he with he | he
    · exact re_tag k e he
    · simp only [List.mem_cons, List.not_mem_nil, or_false] at he
      subst he; exact .inl rfl
theorem res_tag {r : Lm.Rec} {d : Tm.T} {e : E} (he : e ∈ resI r d) : e.1 = 2 ∨ e.1 = 4 := by
  unfold resI at he
  split at he
  · exact re_tag _ e he
  · cases he
def sgB (e : E) : Bool := e.1 == 1
theorem aff_cnt (r : Lm.Rec) (l : List Pb.E) : (affI r l).countP sgB = Ro.sgs l := by
  unfold affI Ro.sgs
  rw [List.countP_map]
  congr 1
  funext p
  show sgB (affE r p) = p.1
  unfold sgB affE
  cases p.1 <;> simp
theorem cnt_no {p : E → Bool} {l : List E} (h : ∀ e ∈ l, p e = false) : l.countP p = 0 := by
  rw [List.countP_eq_zero]
  intro e he
  rw [h e he]; simp
theorem sgn_count {r : Lm.Rec} {X : Pt.Pat} (hO : Lm.Ok r X) (d : Tm.T) (g : Bool) : (itm r X.pr X.se d (Lo.parP r (Ro.ahd g X)) (Lo.parP r (Ro.bhd g X))).countP sgB = if g = true then 1 else 0 := by
  have h := (Ro.around_fact hO g).2.1
  rw [Ro.sgs_app] at h
  unfold itm
  rw [List.countP_append, List.countP_append, List.countP_append, aff_cnt, aff_cnt]
  rw [cnt_no (l := whI r X.pr X.se d.i d.i.length) (fun e he => by
    unfold sgB
    rcases wh_tag _ e he with h1 | h1
    · rw [h1]; rfl
    · rw [h1.1]; rfl)]
  rw [cnt_no (l := resI r d) (fun e he => by
    unfold sgB
    rcases res_tag he with h1 | h1 <;> rw [h1] <;> rfl)]
  omega
theorem sgn_text {r : Lm.Rec} {p s : Int} {d : Tm.T} {A B : List Pb.E} {e : E} (he : e ∈ itm r p s d A B) (h1 : e.1 = 1) : e.2.1 = Lm.bs r.min := by
  unfold itm at he
  rcases List.mem_append.1 he with he | he
  · rcases List.mem_append.1 he with he | he
    · rcases List.mem_append.1 he with he | he
      · exact (aff_tag he).2.2 h1
      · rcases wh_tag _ e he with h2 | h2 <;> omega
    · rcases res_tag he with h2 | h2 <;> omega
  · exact (aff_tag he).2.2 h1
def gpB (e : E) : Bool := e.1 == 3
theorem wh_cnt (r : Lm.Rec) (p s : Int) (I : List Int) : ∀ k, k ≤ I.length → cntE p s I.length = cntE p s (I.length - k) + (whI r p s I k).countP gpB
  | 0, _ => by rw [whI_zero]; simp
  | k + 1, hk => by
    rw [wh_cnt r p s I k (by omega), whI_succ, List.countP_append]
    have h1 := cntE_succ p s (I.length - (k + 1))
    rw [show I.length - (k + 1) + 1 = I.length - k from by omega] at h1
    rw [h1]
    have h2 : ((I.length - (k + 1) : Nat) : Int) = (I.length : Int) - 1 - k := by omega
    rw [h2]
    have h3 : (dgE r (I.getD k 0) k :: grpI r ((I.length : Int) - 1 - k) p s).countP gpB = if endB ((I.length : Int) - 1 - k) p s = true then 1 else 0 := by
      unfold grpI
      split <;> rfl
    rw [h3]
    omega
theorem grp_count (r : Lm.Rec) (p s : Int) (hp : 0 ≤ p) (d : Tm.T) (A B : List Pb.E) : (((itm r p s d A B).countP gpB : Nat) : Int) = grp d.i.length p s := by
  rw [← cntE_eq p s d.i.length hp, wh_cnt r p s d.i d.i.length (Nat.le_refl _), Nat.sub_self, cntE_zero]
  unfold itm
  rw [List.countP_append, List.countP_append, List.countP_append]
  have h1 : ∀ l : List Pb.E, (affI r l).countP gpB = 0 := fun l => cnt_no fun e he => by
    unfold gpB
    rcases (aff_tag he).1 with h | h <;> rw [h] <;> rfl
  rw [h1, h1, cnt_no (l := resI r d) (fun e he => by
    unfold gpB
    rcases res_tag he with h1 | h1 <;> rw [h1] <;> rfl)]
  simp
def tg (l : List E) (i : Nat) : Int := (l.getD i e0).1
theorem tg_left (a b : List E) (i : Nat) (h : i < a.length) : tg (a ++ b) i = tg a i := by
  unfold tg
  rw [List.getD_eq_getElem?_getD, List.getD_eq_getElem?_getD, List.getElem?_append_left h]
theorem tg_right (a b : List E) (i : Nat) : tg (a ++ b) (a.length + i) = tg b i := by
  unfold tg
  rw [List.getD_eq_getElem?_getD, List.getD_eq_getElem?_getD, List.getElem?_append_right (by omega), Nat.add_sub_cancel_left]
theorem wh_inv (r : Lm.Rec) (p s : Int) (I : List Int) : ∀ k, (∀ i, i < (whI r p s I k).length → tg (whI r p s I k) i = 3 → 0 < i ∧ tg (whI r p s I k) (i - 1) = 2 ∧ (i + 1 < (whI r p s I k).length → tg (whI r p s I k) (i + 1) = 2)) ∧
    (0 < (whI r p s I k).length → tg (whI r p s I k) ((whI r p s I k).length - 1) = 3 → endB ((I.length : Int) - k) p s = true)
  | 0 => ⟨fun i hi => by simp [whI] at hi, fun h => by simp [whI] at h⟩
  | k + 1 => by
    obtain ⟨h1, h2⟩ := wh_inv r p s I k
    rw [whI_succ]
    generalize whI r p s I k = W at *
    have e0' : tg (W ++ (dgE r (I.getD k 0) k :: grpI r ((I.length : Int) - 1 - k) p s)) W.length = 2 := by
      have := tg_right W (dgE r (I.getD k 0) k :: grpI r ((I.length : Int) - 1 - k) p s) 0
      rw [Nat.add_zero] at this
      rw [this]; rfl
    unfold grpI at *
    by_cases hb : endB ((I.length : Int) - 1 - k) p s = true
    · rw [if_pos hb] at *
      have e1 : tg (W ++ [dgE r (I.getD k 0) k, (3, Lm.bs r.grp, -1)]) (W.length + 1) = 3 := by rw [tg_right]; rfl
      refine ⟨fun i hi ht => ?_, fun _ _ => by rw [show (I.length : Int) - ((k + 1 : Nat) : Int) = (I.length : Int) - 1 - k from by omega]; exact hb⟩
      simp only [List.length_append, List.length_cons, List.length_nil] at hi ⊢
      by_cases hi1 : i < W.length
      · rw [tg_left _ _ i hi1] at ht
        obtain ⟨q1, q2, q3⟩ := h1 i hi1 ht
        refine ⟨q1, by rw [tg_left _ _ _ (by omega)]; exact q2, fun _ => ?_⟩
        by_cases hi2 : i + 1 < W.length
        · rw [tg_left _ _ _ hi2]; exact q3 hi2
        · rw [show i + 1 = W.length from by omega]; exact e0'
      · by_cases hi2 : i = W.length
        · rw [hi2, e0'] at ht; omega
        · have : i = W.length + 1 := by omega
          subst this
          exact ⟨by omega, by rw [Nat.add_sub_cancel]; exact e0', fun h => by omega⟩
    · rw [if_neg hb] at *
      refine ⟨fun i hi ht => ?_, fun _ ht => ?_⟩
      · simp only [List.length_append, List.length_cons, List.length_nil] at hi ⊢
        by_cases hi1 : i < W.length
        · rw [tg_left _ _ i hi1] at ht
          obtain ⟨q1, q2, q3⟩ := h1 i hi1 ht
          refine ⟨q1, by rw [tg_left _ _ _ (by omega)]; exact q2, fun _ => ?_⟩
          by_cases hi2 : i + 1 < W.length
          · rw [tg_left _ _ _ hi2]; exact q3 hi2
          · rw [show i + 1 = W.length from by omega]; exact e0'
        · rw [show i = W.length from by omega, e0'] at ht; omega
      · simp only [List.length_append, List.length_cons, List.length_nil] at ht
        rw [show W.length + (0 + 1) - 1 = W.length from by omega, e0'] at ht
        omega
theorem grp_nb (r : Lm.Rec) (p s : Int) (d : Tm.T) (A B : List Pb.E) (i : Nat) (hi : i < (itm r p s d A B).length) (ht : tg (itm r p s d A B) i = 3) :
    0 < i ∧ i + 1 < (itm r p s d A B).length ∧ tg (itm r p s d A B) (i - 1) = 2 ∧ tg (itm r p s d A B) (i + 1) = 2 := by
  obtain ⟨h1, h2⟩ := wh_inv r p s d.i d.i.length
  have e : itm r p s d A B = affI r A ++ (whI r p s d.i d.i.length ++ (resI r d ++ affI r B)) := by unfold itm; simp [List.append_assoc]
  rw [e] at hi ht ⊢
  clear e
  have hR : ∀ x ∈ resI r d ++ affI r B, x.1 ≠ 3 := by
    intro x hx
    rcases List.mem_append.1 hx with hx | hx
    · rcases res_tag hx with h | h <;> omega
    · rcases (aff_tag hx).1 with h | h <;> omega
  have hA : ∀ x ∈ affI r A, x.1 ≠ 3 := by
    intro x hx
    rcases (aff_tag hx).1 with h | h <;> omega
  generalize whI r p s d.i d.i.length = W at *
  generalize resI r d ++ affI r B = R at *
  generalize affI r A = A' at *
  have hia : ¬ i < A'.length := fun h => by
    rw [tg_left _ _ i h] at ht
    exact hA _ (mem_at A' i h) ht
  obtain ⟨j, rfl⟩ : ∃ j, i = A'.length + j := ⟨i - A'.length, by omega⟩
  rw [tg_right] at ht
  simp only [List.length_append] at hi ⊢
  have hjw : j < W.length := by
    by_cases h : j < W.length
    · exact h
    · obtain ⟨q, rfl⟩ : ∃ q, j = W.length + q := ⟨j - W.length, by omega⟩
      rw [tg_right] at ht
      exact absurd ht (hR _ (mem_at R q (by omega)))
  rw [tg_left _ _ j hjw] at ht
  obtain ⟨q1, q2, q3⟩ := h1 j hjw ht
  have hj1 : j + 1 < W.length := by
    by_cases h : j + 1 < W.length
    · exact h
    · have h3 : j = W.length - 1 := by omega
      rw [h3] at ht
      have h4 := h2 (by omega) ht
      rw [endB_low (by omega)] at h4
      cases h4
  refine ⟨by omega, by omega, ?_, ?_⟩
  · rw [show A'.length + j - 1 = A'.length + (j - 1) from by omega, tg_right, tg_left _ _ _ (by omega)]; exact q2
  · rw [show A'.length + j + 1 = A'.length + (j + 1) from by omega, tg_right, tg_left _ _ _ hj1]; exact q3 hj1
theorem row_at {q : E → Bool} {f : Nat → E} {N : Nat} {l : List E} (hf : l.filter q = (List.range N).map f) (hat : ∀ j, (f j).2.2 = (j : Int)) (hno : ∀ e ∈ l, q e = false → e.2.2 = -1) (i : Nat) (hi : i < l.length) (hq : q (l.getD i e0) = true) :
    (l.take i).countP q < N ∧ l.getD i e0 = f ((l.take i).countP q) := by
  have h1 : l.getD i e0 = l[i] := by rw [List.getD_eq_getElem?_getD, List.getElem?_eq_getElem hi]; rfl
  have h2 : l = l.take i ++ (l[i] :: l.drop (i + 1)) := by rw [← List.drop_eq_getElem_cons hi, List.take_append_drop]
  have h3 : l.filter q = (l.take i).filter q ++ (l[i] :: (l.drop (i + 1)).filter q) := by
    conv => lhs; rw [h2]
    rw [List.filter_append, List.filter_cons, if_pos (by rw [← h1]; exact hq)]
  have h4 : ((List.range N).map f)[((l.take i).filter q).length]? = some l[i] := by
    rw [← hf, h3, List.getElem?_append_right (Nat.le_refl _), Nat.sub_self]
    rfl
  rw [List.countP_eq_length_filter]
  have h5 : ((l.take i).filter q).length < N := by
    have := (List.getElem?_eq_some_iff.1 h4).1
    simpa using this
  refine ⟨h5, ?_⟩
  rw [List.getElem?_map, List.getElem?_range h5] at h4
  rw [h1]
  exact (Option.some.inj h4).symm
theorem cnt_mono (q : E → Bool) (l : List E) {j i : Nat} (h : j < i) (hi : i ≤ l.length) (hq : q (l.getD j e0) = true) : (l.take j).countP q < (l.take i).countP q := by
  have h1 := cnt_take q l j (by omega)
  rw [if_pos hq] at h1
  have h2 : (l.take (j + 1)).countP q ≤ (l.take i).countP q := by
    have e : l.take (j + 1) = (l.take i).take (j + 1) := by rw [List.take_take, Nat.min_eq_left (by omega)]
    rw [e]
    exact (List.take_sublist (j + 1) (l.take i)).countP_le
  omega
theorem fnd_skip (p : E → Bool) (l : List E) (i : Nat) (hi : i ≤ l.length) (h : ∀ j, j < i → p (l.getD j e0) = false) : fndI p (l.drop 0) 0 = fndI p (l.drop i) i := by
  induction i with
  | zero => rfl
  | succ i ih =>
    rw [ih (by omega) (fun j hj => h j (by omega)), fndI_at p l i (by omega), h i (by omega)]
    rfl
theorem row_fnd {q : E → Bool} {f : Nat → E} {N : Nat} {l : List E} (hf : l.filter q = (List.range N).map f) (hat : ∀ j, (f j).2.2 = (j : Int)) (hno : ∀ e ∈ l, q e = false → e.2.2 = -1) (i : Nat) (hi : i < l.length) (hq : q (l.getD i e0) = true) :
    fndI (fun x => x.2.2 == (((l.take i).countP q : Nat) : Int)) l 0 = (i : Int) := by
  obtain ⟨h1, h2⟩ := row_at hf hat hno i hi hq
  have h3 := fnd_skip (fun x => x.2.2 == (((l.take i).countP q : Nat) : Int)) l i (by omega) (fun j hj => by
    rw [beq_eq_false_iff_ne]
    cases hqj : q (l.getD j e0)
    · rw [hno _ (mem_at l j (by omega)) hqj]; omega
    · obtain ⟨g1, g2⟩ := row_at hf hat hno j (by omega) hqj
      have g3 := cnt_mono q l hj (by omega) hqj
      rw [g2, hat]; omega)
  rw [List.drop_zero] at h3
  rw [h3, fndI_at _ l i hi]
  rw [if_pos (by rw [h2, hat]; simp)]
theorem row_none {q : E → Bool} {f : Nat → E} {N : Nat} {l : List E} (hf : l.filter q = (List.range N).map f) (hat : ∀ j, (f j).2.2 = (j : Int)) (hno : ∀ e ∈ l, q e = false → e.2.2 = -1) :
    fndI (fun x => x.2.2 == ((N : Nat) : Int)) l 0 = -1 := by
  have h3 := fnd_skip (fun x => x.2.2 == ((N : Nat) : Int)) l l.length (Nat.le_refl _) (fun j hj => by
    rw [beq_eq_false_iff_ne]
    cases hqj : q (l.getD j e0)
    · rw [hno _ (mem_at l j hj) hqj]; omega
    · obtain ⟨g1, g2⟩ := row_at hf hat hno j hj hqj
      rw [g2, hat]; omega)
  rw [List.drop_zero] at h3
  rw [h3, fndI_end _ l _ (Nat.le_refl _)]
def atB (e : E) : Bool := e.1 == 2 || e.1 == 4
def atE (r : Lm.Rec) (L : List Int) (j : Nat) : E := if L.getD j 0 = 10 then (4, Lm.bs r.dec, (j : Int)) else dgE r (L.getD j 0) j
theorem atE_at (r : Lm.Rec) (L : List Int) (j : Nat) : (atE r L j).2.2 = (j : Int) := by
  unfold atE
  split <;> rfl
theorem row_filter (r : Lm.Rec) (p s n : Int) (L : List Int) : ∀ k, (rowI r p s n L k).filter atB = (List.range k).map (atE r L)
  | 0 => rfl
  | k + 1 => by
    rw [rowI_succ, List.filter_append, row_filter r p s n L k, List.range_succ, List.map_append]
    congr 1
    show (stpI r p s n L k).filter atB = [atE r L k]
    unfold stpI atE grpI
    split
    · rfl
    · split <;> rfl
theorem aff_filter (r : Lm.Rec) (l : List Pb.E) : (affI r l).filter atB = [] := by
  rw [List.filter_eq_nil_iff]
  intro e he
  unfold atB
  rcases (aff_tag he).1 with h | h <;> rw [h] <;> simp
theorem itm_filter (r : Lm.Rec) (p s : Int) (d : Tm.T) (hm : Tm.may d = true) (A B : List Pb.E) : (itm r p s d A B).filter atB = (List.range (Tm.ats d).length).map (atE r (Tm.ats d)) := by
  rw [itm_mid, ← row_all r p s d hm, List.filter_append, List.filter_append, aff_filter, aff_filter, row_filter]
  simp
theorem itm_no {r : Lm.Rec} {p s : Int} {d : Tm.T} {A B : List Pb.E} {e : E} (he : e ∈ itm r p s d A B) (h : atB e = false) : e.2.2 = -1 := by
  unfold itm at he
  unfold atB at h
  rcases List.mem_append.1 he with he | he
  · rcases List.mem_append.1 he with he | he
    · rcases List.mem_append.1 he with he | he
      · exact (aff_tag he).2.1
      · rcases wh_tag _ e he with h1 | h1
        · rw [h1] at h; simp at h
        · exact h1.2
    · rcases res_tag he with h1 | h1 <;> rw [h1] at h <;> simp at h
  · exact (aff_tag he).2.1
theorem itm_cnt (r : Lm.Rec) (p s : Int) (d : Tm.T) (hm : Tm.may d = true) (A B : List Pb.E) : (itm r p s d A B).countP atB = (Tm.ats d).length := by
  rw [List.countP_eq_length_filter, itm_filter r p s d hm]
  simp
theorem sgn_at {r : Lm.Rec} {X : Pt.Pat} (hO : Lm.Ok r X) {i : Nat} {x : ByteArray} (h : (Lm.syms r)[i]? = some x) (hi : i ≠ 11) : Lm.sgn r x = i := by
  have h0 := hO.ne i x h hi
  unfold Lm.sgn
  rw [if_neg (by omega), Lm.plc_nodup _ 0 i x hO.dis h]
  simp
theorem dgt_at (r : Lm.Rec) (k : Nat) (hk : k < 10) : (Lm.syms r)[k]? = some (Lm.dgt r k) := by
  match k, hk with
  | 0, _ => rfl
  | 1, _ => rfl
  | 2, _ => rfl
  | 3, _ => rfl
  | 4, _ => rfl
  | 5, _ => rfl
  | 6, _ => rfl
  | 7, _ => rfl
  | 8, _ => rfl
  | 9, _ => rfl
theorem atE_sgn {r : Lm.Rec} {X : Pt.Pat} (hO : Lm.Ok r X) (L : List Int) (hL : Tm.okA L = true) (j : Nat) (hj : j < L.length) : Lm.sgn r (atE r L j).2.1 = L.getD j 0 := by
  have hb := (Tm.okA_iff L).1 hL (L.getD j 0) (by rw [List.getD_eq_getElem?_getD, List.getElem?_eq_getElem hj]; exact List.getElem_mem hj)
  unfold atE
  by_cases h : L.getD j 0 = 10
  · rw [if_pos h, h]
    exact sgn_at hO (i := 10) rfl (by omega)
  · rw [if_neg h]
    show Lm.sgn r (Lm.dgt r (L.getD j 0).toNat) = _
    rw [sgn_at hO (dgt_at r (L.getD j 0).toNat (by omega)) (by omega)]
    omega
end Im
end Go.Proofs.YtnlfeamhedihpaaGreatDoor
