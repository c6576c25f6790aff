/- Drafts as plain mathematics: its atoms, the draft of atoms, other atoms in the place of some, its number, a number's draft. (and more) -/
import Derived.Test.YtnlfeamhedihpaaGreatDoorR00
import Derived.Test.YtnlfeamhedihpaaGreatDoorR01
import Derived.Test.YtnlfeamhedihpaaGreatDoorRows
import Derived.Test.YtnlfeamhedihpaaGreatDoorR02
import Derived.Laws.CopyOwn
import Derived.Laws.Tables
import Derived.Deep.AppendLies
set_option linter.unusedVariables false
set_option linter.unusedSimpArgs false
namespace Go.Proofs.YtnlfeamhedihpaaGreatDoor.Tm
open Dm
structure T where
  g : Bool
  i : List Int
  s : Bool
  f : List Int
def T0 : T := ⟨false, [], false, []⟩
def may (d : T) : Bool := okB d.i && okB d.f && (d.s || d.f.isEmpty)
def sep (s : Bool) : List Int := if s then [10] else []
theorem sep_len (s : Bool) : (sep s).length ≤ 1 := by cases s <;> simp [sep]
def ats (d : T) : List Int := d.i ++ sep d.s ++ d.f
theorem ats_len (d : T) : (ats d).length = d.i.length + (sep d.s).length + d.f.length := by simp [ats]; omega
def okA (l : List Int) : Bool := l.all fun d => decide (0 ≤ d ∧ d ≤ 10)
theorem okA_iff (l : List Int) : okA l = true ↔ ∀ d ∈ l, 0 ≤ d ∧ d ≤ 10 := by simp [okA]
def ahd (l : List Int) : List Int := l.takeWhile fun x => !(x == 10)
def bhd (l : List Int) : List Int := (l.dropWhile fun x => !(x == 10)).drop 1
def has (l : List Int) : Bool := l.any fun x => x == 10
theorem ahd_cons (x : Int) (l : List Int) : ahd (x :: l) = if x = 10 then [] else x :: ahd l := by
  unfold ahd
  by_cases h : x = 10
  · subst h; rw [List.takeWhile_cons_of_neg (by simp), if_pos rfl]
  · rw [List.takeWhile_cons_of_pos (by simpa using h), if_neg h]
theorem bhd_cons (x : Int) (l : List Int) : bhd (x :: l) = if x = 10 then l else bhd l := by
  unfold bhd
  by_cases h : x = 10
  · subst h; rw [List.dropWhile_cons_of_neg (by simp), if_pos rfl]; rfl
  · rw [List.dropWhile_cons_of_pos (by simpa using h), if_neg h]
theorem has_cons (x : Int) (l : List Int) : has (x :: l) = (x == 10 || has l) := rfl
theorem parts (l : List Int) : ahd l ++ sep (has l) ++ bhd l = l := by
  induction l with
  | nil => rfl
  | cons x l ih =>
    rw [ahd_cons, bhd_cons, has_cons]
    by_cases h : x = 10
    · subst h; simp [sep]
    · rw [if_neg h, if_neg h, show (x == 10) = false from by simpa using h, Bool.false_or, List.cons_append, List.cons_append, ih]
theorem has_no (l : List Int) (h : has l = false) : ahd l = l ∧ bhd l = [] := by
  induction l with
  | nil => exact ⟨rfl, rfl⟩
  | cons x l ih =>
    rw [has_cons, Bool.or_eq_false_iff] at h
    have hx : ¬ x = 10 := by simpa using h.1
    rw [ahd_cons, bhd_cons, if_neg hx, if_neg hx, (ih h.2).1, (ih h.2).2]
    exact ⟨rfl, rfl⟩
def cnt (l : List Int) : Nat := (l.filter fun x => x == 10).length
theorem cnt_le (l : List Int) : cnt l ≤ l.length := List.length_filter_le _ _
theorem cnt_nil : cnt [] = 0 := rfl
theorem cnt_has (l : List Int) : cnt l = 0 ↔ has l = false := by
  unfold cnt has
  rw [List.length_eq_zero_iff, List.filter_eq_nil_iff, List.any_eq_false]
theorem cnt_parts (l : List Int) : cnt l = (if has l = true then 1 else 0) + cnt (bhd l) := by
  induction l with
  | nil => rfl
  | cons x l ih =>
    rw [bhd_cons, has_cons]
    by_cases h : x = 10
    · subst h; simp [cnt]; omega
    · have e : cnt (x :: l) = cnt l := by unfold cnt; rw [List.filter_cons_of_neg (by simpa using h)]
      rw [if_neg h, e, ih, show (x == 10) = false from by simpa using h, Bool.false_or]
theorem cnt_two (l : List Int) : (1 < cnt l) ↔ has (bhd l) = true := by
  have h1 := cnt_parts l
  have h2 := cnt_has (bhd l)
  by_cases h : has l = true
  · rw [if_pos h] at h1
    constructor
    · intro hc
      cases hb : has (bhd l) with
      | true => rfl
      | false => have := h2.2 hb; omega
    · intro hb
      have : ¬ cnt (bhd l) = 0 := fun e => by rw [h2.1 e] at hb; cases hb
      omega
  · have hn := has_no l (by simpa using h)
    rw [if_neg h] at h1
    rw [hn.2] at h1 ⊢
    simp only [cnt_nil] at h1
    simp [has]; omega
def ofD (g : Bool) (l : List Int) : T := ⟨g, ahd l, has l, bhd l⟩
def ofC (l : List Int) : Int := if okA l = true then (if has (bhd l) = true then 6 else 0) else 1
def ofR (g : Bool) (l : List Int) : T := if ofC l = 0 then ofD g l else T0
theorem ofC_two {l : List Int} (h : okA l = true) (h2 : has (bhd l) = true) : ofC l = 6 := by unfold ofC; rw [if_pos h, if_pos h2]
theorem ofC_ok {l : List Int} (h : okA l = true) (h2 : has (bhd l) = false) : ofC l = 0 := by unfold ofC; rw [if_pos h, h2]; rfl
theorem ofR_ok {g : Bool} {l : List Int} (h : okA l = true) (h2 : has (bhd l) = false) : ofR g l = ofD g l := by unfold ofR; rw [ofC_ok h h2]; rfl
theorem ats_of (g : Bool) (l : List Int) : ats (ofD g l) = l := parts l
theorem okA_append (a b : List Int) : okA (a ++ b) = (okA a && okA b) := by simp [okA]
theorem ten_no (l : List Int) (h : okD l) : has l = false := by
  unfold has
  rw [List.any_eq_false]
  intro x hx
  have := h x hx
  simp; omega
theorem okA_dig (l : List Int) (h : okD l) : okA l = true := (okA_iff l).2 fun d hd => by have := h d hd; omega
theorem may_dig {d : T} (h : may d = true) : okD d.i ∧ okD d.f ∧ (d.s = false → d.f = []) := by
  simp only [may, Bool.and_eq_true, Bool.or_eq_true] at h
  refine ⟨(okB_iff _).1 h.1.1, (okB_iff _).1 h.1.2, fun hs => ?_⟩
  rcases h.2 with h2 | h2
  · rw [hs] at h2; cases h2
  · simpa using h2
theorem okA_ats {d : T} (h : may d = true) : okA (ats d) = true := by
  obtain ⟨h1, h2, _⟩ := may_dig h
  unfold ats
  rw [okA_append, okA_append, okA_dig _ h1, okA_dig _ h2]
  cases d.s <;> rfl
theorem may_of (g : Bool) (l : List Int) (h : okA l = true) (h2 : has (bhd l) = false) : may (ofD g l) = true := by
  have hp := parts l
  have ho := (okA_iff l).1 h
  rw [← hp] at ho
  have hd1 : okD (ahd l) := fun d hd => by
    have h3 := ho d (by simp [hd])
    have h4 : (!(d == 10)) = true := List.all_eq_true.1 (List.all_takeWhile (l := l) (p := fun x => !(x == 10))) d hd
    have : ¬ d = 10 := by simpa using h4
    omega
  have hd2 : okD (bhd l) := fun d hd => by
    have h3 := ho d (by simp [hd])
    have h4 := List.any_eq_false.1 h2 d hd
    have : ¬ d = 10 := by simpa using h4
    omega
  unfold may ofD
  dsimp only
  rw [(okB_iff _).2 hd1, (okB_iff _).2 hd2, Bool.true_and, Bool.true_and]
  cases h4 : has l with
  | true => rfl
  | false => rw [(has_no l h4).2]; rfl
def spl (d : T) (i j : Int) (A : List Int) : List Int := (ats d).take i.toNat ++ A ++ (ats d).drop j.toNat
def spC (d : T) (i j : Int) (A : List Int) : Int := if (may d && okA A) = true then (if i < 0 ∨ j < i ∨ ((ats d).length : Int) < j then 3 else ofC (spl d i j A)) else 1
def spR (d : T) (i j : Int) (A : List Int) : T := if spC d i j A = 0 then ofD d.g (spl d i j A) else T0
theorem spC_in {d : T} {i j : Int} {A : List Int} (h : (may d && okA A) = true) (h2 : ¬ (i < 0 ∨ j < i ∨ ((ats d).length : Int) < j)) : spC d i j A = ofC (spl d i j A) ∧ spR d i j A = ofR d.g (spl d i j A) := by
  have e : spC d i j A = ofC (spl d i j A) := by unfold spC; rw [if_pos h, if_neg h2]
  exact ⟨e, by unfold spR ofR; rw [e]⟩
theorem back (g : Bool) (I : List Int) (i : Nat) (A : List Int) (hI : okD I) (hi : i ≤ I.length) (hA : okA A = true) :
    spC ⟨g, I, false, []⟩ i i A = (if 1 < cnt A then 6 else 0) ∧
    (cnt A ≤ 1 → spR ⟨g, I, false, []⟩ i i A = ofD g (I.take i ++ A ++ I.drop i) ∧ (ats (spR ⟨g, I, false, []⟩ i i A)).length = I.length + A.length ∧ may (spR ⟨g, I, false, []⟩ i i A) = true ∧
      spC (spR ⟨g, I, false, []⟩ i i A) i (i + A.length : Nat) [] = 0 ∧ spR (spR ⟨g, I, false, []⟩ i i A) i (i + A.length : Nat) [] = ⟨g, I, false, []⟩) := by
  have hm : may ⟨g, I, false, []⟩ = true := by unfold may; dsimp only; rw [(okB_iff I).2 hI]; rfl
  have ha : ats ⟨g, I, false, []⟩ = I := by simp [ats, sep]
  have hsp : spl ⟨g, I, false, []⟩ i i A = I.take i ++ A ++ I.drop i := by unfold spl; rw [ha]; rfl
  have h1 := spC_in (d := ⟨g, I, false, []⟩) (i := i) (j := i) (A := A) (by rw [hm, hA]; rfl) (by rw [ha]; omega)
  rw [hsp] at h1
  have hok : okA (I.take i ++ A ++ I.drop i) = true := by
    rw [okA_append, okA_append, hA, okA_dig _ (okD_take hI i), okA_dig _ (okD_drop hI i)]; rfl
  have hc : cnt (I.take i ++ A ++ I.drop i) = cnt A := by
    have e1 := (cnt_has _).2 (ten_no _ (okD_take hI i))
    have e2 := (cnt_has _).2 (ten_no _ (okD_drop hI i))
    unfold cnt at *
    rw [List.filter_append, List.filter_append, List.length_append, List.length_append, e1, e2]; omega
  have h2 := cnt_two (I.take i ++ A ++ I.drop i)
  rw [hc] at h2
  have hl : (I.take i ++ A ++ I.drop i).length = I.length + A.length := by
    simp only [List.length_append, List.length_take, List.length_drop]; omega
  by_cases hh : 1 < cnt A
  · refine ⟨by rw [h1.1, ofC_two hok (h2.1 hh), if_pos hh], fun h => absurd hh (by omega)⟩
  · have hb : has (bhd (I.take i ++ A ++ I.drop i)) = false := by
      cases h3 : has (bhd (I.take i ++ A ++ I.drop i)) with
      | false => rfl
      | true => exact absurd (h2.2 h3) hh
    refine ⟨by rw [h1.1, ofC_ok hok hb, if_neg hh], fun _ => ?_⟩
    have hR : spR ⟨g, I, false, []⟩ i i A = ofD g (I.take i ++ A ++ I.drop i) := by rw [h1.2, ofR_ok hok hb]
    rw [hR]
    refine ⟨rfl, by rw [ats_of, hl], may_of g _ hok hb, ?_⟩
    have hm2 := may_of g _ hok hb
    have ha2 := ats_of g (I.take i ++ A ++ I.drop i)
    have h4 := spC_in (d := ofD g (I.take i ++ A ++ I.drop i)) (i := i) (j := (i + A.length : Nat)) (A := []) (by rw [hm2]; rfl) (by rw [ha2, hl]; omega)
    have hs2 : spl (ofD g (I.take i ++ A ++ I.drop i)) i (i + A.length : Nat) [] = I := by
      unfold spl
      rw [ha2, Int.toNat_natCast, Int.toNat_natCast, List.append_nil]
      have e1 : (I.take i).length = i := by rw [List.length_take]; omega
      have e2 : (I.take i ++ A ++ I.drop i).take i = I.take i := by
        rw [List.append_assoc, List.take_append_of_le_length (by omega)]
        conv => lhs; lhs; rw [← e1]
        rw [e1, List.take_of_length_le (by omega)]
      have e3 : (I.take i ++ A ++ I.drop i).drop (i + A.length) = I.drop i := by
        have : (I.take i ++ A).length = i + A.length := by rw [List.length_append, e1]
        rw [← this, List.drop_left]
      rw [e2, e3, List.take_append_drop]
    rw [hs2] at h4
    have hn := has_no I (ten_no I hI)
    have hbI : has (bhd I) = false := by rw [hn.2]; rfl
    refine ⟨by rw [h4.1, ofC_ok (okA_dig I hI) hbI], ?_⟩
    rw [h4.2, ofR_ok (okA_dig I hI) hbI]
    unfold ofD
    rw [hn.1, hn.2, ten_no I hI]
end Go.Proofs.YtnlfeamhedihpaaGreatDoor.Tm
namespace Go.Proofs.YtnlfeamhedihpaaGreatDoor
namespace Pt
open Um
/-! ### numbers made of any -/
def nmB (c : Int) : Bool := c == 35 || c == 48 || c == 44 || c == 46
theorem nmB_kind {c : Int} (h : nmB c = true) : c ≠ 39 ∧ kindC c = 4 := by
  simp only [nmB, Bool.or_eq_true, beq_iff_eq] at h
  rcases h with ((rfl | rfl) | rfl) | rfl <;> decide
set_option maxRecDepth 100000 in
theorem nmT_all : ∀ z, z < 7 → ∀ p, p < 5 → ∀ q, q < 5 → ∀ a, a < 4 → ∀ b, b < 4 →
    ((match num (nmT z p q a b) with | none => false | some n => !n.long) && (nmT z p q a b).all nmB && decide (1 ≤ (nmT z p q a b).length ∧ (nmT z p q a b).length ≤ 20)) = true := by decide +kernel
theorem nmT_ok {z p q a b : Nat} (hz : z < 7) (hp : p < 5) (hq : q < 5) (ha : a < 4) (hb : b < 4) :
    (∃ n, num (nmT z p q a b) = some n ∧ n.long = false) ∧ (∀ c ∈ nmT z p q a b, nmB c = true) ∧ 1 ≤ (nmT z p q a b).length ∧ (nmT z p q a b).length ≤ 20 := by
  have h := nmT_all z hz p hp q hq a ha b hb
  simp only [Bool.and_eq_true, List.all_eq_true, decide_eq_true_eq] at h
  refine ⟨?_, h.1.2, h.2⟩
  have h1 := h.1.1
  cases hn : num (nmT z p q a b) with
  | none => rw [hn] at h1; cases h1
  | some n => rw [hn] at h1; exact ⟨n, rfl, by simpa using h1⟩
theorem sign_out (ns : List Int) (h : ∀ c ∈ ns, nmB c = true) : outS false false ns = some (ns.map fun c => (4, c), false, false) := by
  induction ns with
  | nil => rfl
  | cons c r ih =>
    obtain ⟨h1, h2⟩ := nmB_kind (h c List.mem_cons_self)
    rw [outS_cons, if_neg h1, if_neg (by simp), h2, if_neg (by decide), ih fun d hd => h d (List.mem_cons_of_mem _ hd)]
    rfl
theorem signs_out (c : Bool) (ns : List Int) (h : ∀ c ∈ ns, nmB c = true) (hn : 1 ≤ ns.length) : outS c c ns = some (ns.map fun c => (4, c), false, false) := by
  cases ns with
  | nil => simp at hn
  | cons d r =>
    obtain ⟨h1, h2⟩ := nmB_kind (h d List.mem_cons_self)
    rw [outS_cons, if_neg h1, if_neg (by simp), h2, if_neg (by decide), sign_out r fun d hd => h d (List.mem_cons_of_mem _ hd)]
    rfl
structure Hv (P N S : List (Int × Int)) : Prop where
  p : okT P
  s : okT S
  n : ∀ x ∈ N, x.1 = 4
theorem okT_isN {l : List (Int × Int)} (h : okT l) : ∀ x ∈ l, isN x = false := fun x hx => by
  have := h x hx
  unfold isN
  rw [beq_eq_false_iff_ne]; omega
theorem okT_isD {l : List (Int × Int)} (h : okT l) : ∀ x ∈ l, isD x = false := fun x hx => by
  have := h x hx
  unfold isD
  rw [beq_eq_false_iff_ne]; omega
theorem tw_all {α : Type} {f : α → Bool} {a b : List α} (h : ∀ x ∈ a, f x = true) : (a ++ b).takeWhile f = a ++ b.takeWhile f ∧ (a ++ b).dropWhile f = b.dropWhile f := by
  induction a with
  | nil => exact ⟨rfl, rfl⟩
  | cons x r ih =>
    have hx := h x List.mem_cons_self
    have := ih fun y hy => h y (List.mem_cons_of_mem _ hy)
    simp [List.takeWhile_cons, List.dropWhile_cons, hx, this]
theorem tw_no {α : Type} {f : α → Bool} {a : List α} (h : ∀ x ∈ a, f x = false) : a.takeWhile f = [] ∧ a.dropWhile f = a := by
  cases a with
  | nil => exact ⟨rfl, rfl⟩
  | cons x r => simp [List.takeWhile_cons, List.dropWhile_cons, h x List.mem_cons_self]
theorem half_of {P N S : List (Int × Int)} (h : Hv P N S) (hN : 1 ≤ N.length) : half (P ++ N ++ S) = (num (N.map (·.2))).map fun n => ⟨joinT [] P, joinT [] S, n⟩ := by
  have e1 := tw_all (f := fun x => !isN x) (a := P) (b := N ++ S) fun x hx => by rw [okT_isN h.p x hx]; rfl
  have hNn : ∀ x ∈ N, isN x = true := fun x hx => by unfold isN; rw [h.n x hx]; rfl
  have e2 : (N ++ S).takeWhile (fun x => !isN x) = [] ∧ (N ++ S).dropWhile (fun x => !isN x) = N ++ S := by
    cases N with
    | nil => simp at hN
    | cons x r => simp [List.takeWhile_cons, List.dropWhile_cons, hNn x List.mem_cons_self]
  have e3 := tw_all (f := isN) (a := N) (b := S) hNn
  have e4 := tw_no (f := isN) (okT_isN h.s)
  have e5 : S.any isN = false := by
    rw [List.any_eq_false]
    intro x hx; rw [okT_isN h.s x hx]; simp
  unfold half
  rw [List.append_assoc]
  simp only [e1, e2, e3, e4, e5, List.append_nil, Bool.false_eq_true, if_false]
theorem Hv.noD {P N S : List (Int × Int)} (h : Hv P N S) : ∀ x ∈ P ++ N ++ S, isD x = false := by
  intro x hx
  rcases List.mem_append.1 hx with hx | hx
  · rcases List.mem_append.1 hx with hx | hx
    · exact okT_isD h.p x hx
    · unfold isD; rw [h.n x hx]; rfl
  · exact okT_isD h.s x hx
theorem parse_one {P N S : List (Int × Int)} (h : Hv P N S) (hN : 1 ≤ N.length) {n : Nm} (hn : num (N.map (·.2)) = some n) (hl : n.long = false) :
    parseT (P ++ N ++ S) = (mkP ⟨joinT [] P, joinT [] S, n⟩ ((3, []) :: joinT [] P) (joinT [] S), 0) := by
  have hd := tw_all (f := fun x => !isD x) (a := P ++ N ++ S) (b := []) fun x hx => by rw [h.noD x hx]; rfl
  rw [List.append_nil] at hd
  unfold parseT
  rw [hd.1, hd.2]
  simp only [List.takeWhile_nil, List.dropWhile_nil, List.append_nil, half_of h hN, hn, Option.map_some, hl, Bool.false_eq_true, if_false]
theorem parse_two {P N S P' N' S' : List (Int × Int)} (h : Hv P N S) (hN : 1 ≤ N.length) {n : Nm} (hn : num (N.map (·.2)) = some n) (hl : n.long = false) (h' : Hv P' N' S') (hN' : 1 ≤ N'.length) {n' : Nm} (hn' : num (N'.map (·.2)) = some n') (hl' : n'.long = false) :
    parseT (P ++ N ++ S ++ (5, 59) :: (P' ++ N' ++ S')) = (mkP ⟨joinT [] P, joinT [] S, n⟩ (joinT [] P') (joinT [] S'), 0) := by
  have hd := tw_all (f := fun x => !isD x) (a := P ++ N ++ S) (b := (5, 59) :: (P' ++ N' ++ S')) fun x hx => by rw [h.noD x hx]; rfl
  have h5 : isD (5, 59) = true := rfl
  have ha : (P' ++ N' ++ S').any isD = false := by
    rw [List.any_eq_false]
    intro x hx; rw [h'.noD x hx]; simp
  unfold parseT
  rw [hd.1, hd.2]
  simp only [List.takeWhile_cons, List.dropWhile_cons, h5, Bool.not_true, Bool.false_eq_true, if_false, List.append_nil, half_of h hN, hn, Option.map_some, hl, ha, half_of h' hN', hn', hl', Bool.or_self]
def hfT (pre suf : List Int) (z p q a b : Nat) : List Int := sgL pre ++ nmT z p q a b ++ sgL suf
theorem hfT_out (pre suf : List Int) {z p q a b : Nat} (hz : z < 7) (hp : p < 5) (hq : q < 5) (ha : a < 4) (hb : b < 4) :
    ∃ P N S c, outS false false (hfT pre suf z p q a b) = some (P ++ N ++ S, c, c) ∧ Hv P N S ∧ N.map (·.2) = nmT z p q a b ∧ 1 ≤ N.length := by
  obtain ⟨_, h2, h3, _⟩ := nmT_ok hz hp hq ha hb
  obtain ⟨P, c1, h4, h5⟩ := sgL_out pre false
  obtain ⟨S, c2, h6, h7⟩ := sgL_out suf false
  refine ⟨P, (nmT z p q a b).map fun c => (4, c), S, c2, ?_, ⟨h5, h7, fun x hx => ?_⟩, ?_, by rw [List.length_map]; exact h3⟩
  · unfold hfT
    rw [out_append, out_append, h4]
    simp [signs_out c1 _ h2 h3, h6]
  · obtain ⟨d, _, rfl⟩ := List.mem_map.1 hx; rfl
  · rw [List.map_map]
    conv => rhs; rw [← List.map_id (nmT z p q a b)]
    rfl
theorem halves (pre suf : List Int) {z p q a b : Nat} (hz : z < 7) (hp : p < 5) (hq : q < 5) (ha : a < 4) (hb : b < 4) :
    ∃ X : Pat, parseC (hfT pre suf z p q a b) = (X, 0) ∧ parseC (hfT pre suf z p q a b ++ 59 :: 45 :: hfT pre suf z p q a b) = (X, 0) ∧ X.npre = (3, []) :: X.pre := by
  obtain ⟨⟨n, hn, hl⟩, _⟩ := nmT_ok hz hp hq ha hb
  obtain ⟨P, N, S, c, ho, hv, hN, hN1⟩ := hfT_out pre suf hz hp hq ha hb
  rw [← hN] at hn
  have t1 : tkn (hfT pre suf z p q a b) = some (P ++ N ++ S) := by
    unfold tkn
    rw [tok_out, ho]; simp
  have hv' : Hv ((3, 45) :: P) N S := ⟨fun x hx => by
    rcases List.mem_cons.1 hx with rfl | hx
    · simp
    · exact hv.p x hx, hv.s, hv.n⟩
  have t2 : tkn (hfT pre suf z p q a b ++ 59 :: 45 :: hfT pre suf z p q a b) = some (P ++ N ++ S ++ (5, 59) :: ((3, 45) :: P ++ N ++ S)) := by
    unfold tkn
    rw [tok_append, ho]
    have e : tokS c c (59 :: 45 :: hfT pre suf z p q a b) = some ((5, 59) :: (3, 45) :: (P ++ N ++ S)) := by
      rw [tokS_cons, if_neg (by decide), if_neg (by simp), if_neg (by decide), tokS_cons, if_neg (by decide), if_neg (by decide), if_neg (by decide)]
      have := t1
      unfold tkn at this
      rw [this]; rfl
    simp [e]
  refine ⟨mkP ⟨joinT [] P, joinT [] S, n⟩ ((3, []) :: joinT [] P) (joinT [] S), ?_, ?_, rfl⟩
  · unfold parseC
    rw [t1]
    exact parse_one hv hN1 hn hl
  · unfold parseC
    rw [t2]
    have := parse_two hv hN1 hn hl hv' hN1 hn hl
    have ej : joinT [] ((3, 45) :: P) = (3, []) :: joinT [] P := rfl
    rw [ej] at this
    exact this
/-! ### long numbers -/
/-! ### a literal of whatever signs -/
def dbl (l : List Int) : List Int := l.flatMap fun c => if c = 39 then [39, 39] else [c]
def lit (l : List Int) : List (Int × Int) := l.map fun c => (0, c)
theorem dbl_cons (c : Int) (r : List Int) : dbl (c :: r) = (if c = 39 then [39, 39] else [c]) ++ dbl r := rfl
theorem dbl_in (l : List Int) : outS true false (dbl l) = some (lit l, true, false) := by
  induction l with
  | nil => rfl
  | cons c r ih =>
    rw [dbl_cons]
    by_cases h : c = 39
    · subst h
      rw [if_pos rfl]
      show outS true false (39 :: 39 :: dbl r) = _
      rw [outS_cons, if_pos rfl, if_neg (by decide), outS_cons, if_pos rfl, if_pos rfl, ih]; rfl
    · rw [if_neg h]
      show outS true false (c :: dbl r) = _
      rw [outS_cons, if_neg h, if_pos (by decide), ih]; rfl
theorem dbl_first (l : List Int) (h : ∃ c ∈ l, c ≠ 39) : outS false true (dbl l) = some (lit l, true, false) := by
  induction l with
  | nil => obtain ⟨c, hc, _⟩ := h; cases hc
  | cons c r ih =>
    rw [dbl_cons]
    by_cases hc : c = 39
    · subst hc
      rw [if_pos rfl]
      show outS false true (39 :: 39 :: dbl r) = _
      have hr : ∃ c ∈ r, c ≠ 39 := by
        obtain ⟨d, hd, hn⟩ := h
        rcases List.mem_cons.1 hd with rfl | hd
        · exact absurd rfl hn
        · exact ⟨d, hd, hn⟩
      rw [outS_cons, if_pos rfl, if_pos rfl, outS_cons, if_pos rfl, if_neg (by decide), ih hr]; rfl
    · rw [if_neg hc]
      show outS false true (c :: dbl r) = _
      rw [outS_cons, if_neg hc, if_pos (by decide), dbl_in r]; rfl
theorem okT_lit (l : List Int) : okT (lit l) := fun x hx => by
  obtain ⟨c, _, rfl⟩ := List.mem_map.1 hx
  simp
def nm1 : Nm := ⟨0, 0, 0, 0, 0, false⟩
theorem num_one : num [35] = some nm1 := by decide +kernel
def litP (l : List Int) : Pat := mkP ⟨joinT [] (lit l), [], nm1⟩ ((3, []) :: joinT [] (lit l)) []
theorem parse_lit {cs l : List Int} (h : ∃ b, outS false false cs = some (lit l, b, b)) : parseC (cs ++ [35]) = (litP l, 0) := by
  obtain ⟨b, hb⟩ := h
  have t1 : tkn (cs ++ [35]) = some (lit l ++ [(4, 35)] ++ []) := by
    unfold tkn
    rw [tok_append, hb]
    have : tokS b b [35] = some [(4, 35)] := by
      rw [tokS_cons, if_neg (by decide), if_neg (by simp), if_neg (by decide)]; rfl
    simp [this]
  unfold parseC
  rw [t1]
  exact parse_one (N := [(4, 35)]) ⟨okT_lit l, fun x hx => absurd hx List.not_mem_nil, fun x hx => by simp at hx; rw [hx]⟩ (by simp) num_one rfl
theorem quoted (l : List Int) (h : ∃ c ∈ l, c ≠ 39) : parseC (39 :: dbl l ++ [39] ++ [35]) = (litP l, 0) := by
  refine parse_lit ⟨true, ?_⟩
  rw [List.cons_append, outS_cons, if_pos rfl, if_neg (by decide), out_append, dbl_first l h]
  simp [outS]
end Pt
end Go.Proofs.YtnlfeamhedihpaaGreatDoor
namespace Go.Proofs.YtnlfeamhedihpaaGreatDoor
open Go.RowKit
namespace Rw
theorem all1 {l : List Value} (h : l.all (·.oneCell') = true) : l.toArray.all (·.oneCell') = true := by simpa using h
theorem Q_row {w u : World} (h : Q w u) {b : Nat} (hb : w.heap.size ≤ b) (cs : Array Value) : Q w (u.setRow b cs) := below_setRow h hb cs
theorem Bk_row {u : World} {b : Nat} {T : TypeId} {l : List Value} (h : Bk u b T l) (l' : List Value) : Bk (u.setRow b l'.toArray) b T l' := setRow_heap u b l.toArray l'.toArray T (0, 0) h
theorem Bk_other {u : World} {b g : Nat} {T : TypeId} {l : List Value} (h : Bk u b T l) (hg : b ≠ g) (cs : Array Value) : Bk (u.setRow g cs) b T l := (setRow_other u g b cs hg).trans h
end Rw
end Go.Proofs.YtnlfeamhedihpaaGreatDoor
namespace Go.Proofs.YtnlfeamhedihpaaGreatDoor
open Go.RowKit
theorem ld_row {o : Oper} {a : Act} {T : TypeId} {x : Operand} {b : Nat} {l : List Value} {uz : World} {fs : _} (ho : o.op = .load T x) (hx : a.eval x = .pointer (some ⟨b, 0, none⟩))
    (hB : Bk uz b T l) (hu : Tryz.prog.underlying T = some (.struct fs)) (hi : (Tryz.prog.info? T).map (·.size) = some l.length) :
    (execOp a.eval o).run Tryz.prog uz = .ok (.value (.agg l.toArray)) uz := by
  have h := run_loadVar_row uz b T T l.toArray (0, 0) _ hB hu rfl (by simpa using hi)
  unfold execOp
  simp only [ho, hx, Instr.loadAt, Instr.sureAddr, Sem.run_bind, Sem.run_pure, Result.andThen_ok, h]
end Go.Proofs.YtnlfeamhedihpaaGreatDoor
namespace Go.Proofs.YtnlfeamhedihpaaGreatDoor
open Go.RowKit
namespace Im
abbrev E := Int × ByteArray × Int
def e0 : E := (0, ⟨#[]⟩, 0)
def flat (l : List E) : List Value := l.flatMap fun p => [.int .i64 p.1, .string p.2.1, .int .i64 p.2.2]
theorem flat_cons (p : E) (l : List E) : flat (p :: l) = .int .i64 p.1 :: .string p.2.1 :: .int .i64 p.2.2 :: flat l := by simp [flat]
theorem flat_len (l : List E) : (flat l).length = l.length * 3 := by
  induction l with
  | nil => rfl
  | cons p l ih => rw [flat_cons]; simp [ih]; omega
theorem flat_app (a b : List E) : flat (a ++ b) = flat a ++ flat b := by simp [flat]
theorem flat_get (l : List E) (i : Nat) (h : i < l.length) : (flat l)[i * 3]? = some (.int .i64 (l.getD i e0).1) ∧ (flat l)[i * 3 + 1]? = some (.string (l.getD i e0).2.1) ∧ (flat l)[i * 3 + 2]? = some (.int .i64 (l.getD i e0).2.2) := by
  induction l generalizing i with
  | nil => simp at h
  | cons p l ih =>
    cases i with
    | zero => rw [flat_cons]; simp
    | succ i =>
      have := ih i (by simpa using h)
      rw [flat_cons, show (i + 1) * 3 = i * 3 + 1 + 1 + 1 from by omega]
      simpa using this
theorem flat_one (l : List E) : ∀ u ∈ flat l, u.oneCell' = true := by
  intro u hu
  obtain ⟨p, _, hp⟩ := List.mem_flatMap.1 hu
  simp only [List.mem_cons, List.not_mem_nil, or_false] at hp
  rcases hp with rfl | rfl | rfl <;> rfl
def LstI (w : World) (v : Value) (l : List E) : Prop :=
  (l = [] ∧ ∃ a c, v = .slice a 0 c ∧ c ≤ maxLen ∧ (a = none → c = 0)) ∨
  ∃ g off cap, v = .slice (some ⟨g, off, none⟩) l.length cap ∧ g < w.heap.size ∧ l.length ≤ cap ∧ cap ≤ maxLen ∧ ∀ i, i < l.length → w.cell? ⟨g, off + i * 3, none⟩ = some (.int .i64 (l.getD i e0).1) ∧ w.cell? ⟨g, off + i * 3 + 1, none⟩ = some (.string (l.getD i e0).2.1) ∧ w.cell? ⟨g, off + i * 3 + 2, none⟩ = some (.int .i64 (l.getD i e0).2.2)
theorem LstI.nil (w : World) (a : Option Addr) (c : Nat) (hc : c ≤ maxLen) (hn : a = none → c = 0) : LstI w (.slice a 0 c) [] := .inl ⟨rfl, a, c, rfl, hc, hn⟩
theorem LstI.q {w w' : World} {v : Value} {l : List E} (h : LstI w v l) (hq : Q w w') : LstI w' v l := by
  rcases h with h | ⟨g, off, cap, hv, hg, h1, h2, hc⟩
  · exact .inl h
  · refine .inr ⟨g, off, cap, hv, Nat.lt_of_lt_of_le hg hq.le, h1, h2, fun i hi => ?_⟩
    obtain ⟨c1, c2, c3⟩ := hc i hi
    exact ⟨(World.cell?_of_block (w := w) (hq.block hg)).trans c1, (World.cell?_of_block (w := w) (hq.block hg)).trans c2, (World.cell?_of_block (w := w) (hq.block hg)).trans c3⟩
theorem LstI.shape2 {w : World} {v : Value} {l : List E} (h : LstI w v l) : ∃ a c, v = .slice a l.length c ∧ l.length ≤ c ∧ c ≤ maxLen := by
  rcases h with ⟨rfl, a, c, rfl, hc, _⟩ | ⟨g, off, cap, hv, _, h1, h2, _⟩
  · exact ⟨a, c, rfl, Nat.zero_le _, hc⟩
  · exact ⟨_, _, hv, h1, h2⟩
theorem LstI.form0 {w : World} {v : Value} {l : List E} {n : Nat} (h : LstI w v l) (hn : l.length = n) : ∃ a c, v = .slice a n c ∧ n ≤ c ∧ c ≤ maxLen := by
  subst hn; exact h.shape2
theorem LstI.cellOf {w : World} {v : Value} {l : List E} {n k : Nat} (h : LstI w v l) (hn : l.length = n) (hk : k < n) :
    ∃ g off cap, v = .slice (some ⟨g, off, none⟩) n cap ∧ g < w.heap.size ∧ n ≤ cap ∧ cap ≤ maxLen ∧ w.cell? ⟨g, off + k * 3, none⟩ = some (.int .i64 (l.getD k e0).1) ∧ w.cell? ⟨g, off + k * 3 + 1, none⟩ = some (.string (l.getD k e0).2.1) ∧ w.cell? ⟨g, off + k * 3 + 2, none⟩ = some (.int .i64 (l.getD k e0).2.2) := by
  rcases h with ⟨rfl, _⟩ | ⟨g, off, cap, hv, hg, h1, h2, hc⟩
  · simp at hn; omega
  · rw [hn] at hv h1 hc
    exact ⟨g, off, cap, hv, hg, h1, h2, (hc k hk).1, (hc k hk).2.1, (hc k hk).2.2⟩
def OwnI (T : TypeId) (w : World) (B : Nat) (v : Value) (l : List E) : Prop := w.ownsRow B T 3 v l.length (flat l)
theorem OwnI.nil (T : TypeId) (w : World) (B : Nat) : OwnI T w B (.slice none 0 0) [] := World.ownsRow_nil w B T 3
theorem OwnI.mono {T : TypeId} {w : World} {B B' : Nat} {v : Value} {l : List E} (h : OwnI T w B v l) (hB : B' ≤ B) : OwnI T w B' v l := by
  obtain ⟨h1, h2⟩ := h
  refine ⟨h1, ?_⟩
  rcases h2 with h2 | ⟨g, cap, cur, hv, hg, r⟩
  · exact .inl h2
  · exact .inr ⟨g, cap, cur, hv, by omega, r⟩
theorem OwnI.same {T : TypeId} {w w' : World} {B : Nat} {v : Value} {l : List E} (h : OwnI T w B v l) (hs : ∀ g, v.ownBlock = some g → w'.heap[g]? = w.heap[g]?) : OwnI T w' B v l := by
  obtain ⟨h1, h2⟩ := h
  refine ⟨h1, ?_⟩
  rcases h2 with h2 | ⟨g, cap, cur, hv, hg, hh, r⟩
  · exact .inl h2
  · exact .inr ⟨g, cap, cur, hv, hg, by rw [hs g (by rw [hv]; rfl)]; exact hh, r⟩
theorem OwnI.lt {T : TypeId} {w : World} {B : Nat} {v : Value} {l : List E} (h : OwnI T w B v l) : ∀ g, v.ownBlock = some g → B ≤ g ∧ g < w.heap.size := World.ownsRow.lt h
theorem OwnI.q {T : TypeId} {w w' : World} {B : Nat} {v : Value} {l : List E} (h : OwnI T w B v l) (hq : Q w w') : OwnI T w' B v l := h.same fun g hg => hq.block (h.lt g hg).2
theorem OwnI.lst {T : TypeId} {w : World} {B : Nat} {v : Value} {l : List E} (h : OwnI T w B v l) : LstI w v l := by
  rcases h.2 with ⟨hv, hn⟩ | ⟨g, cap, cur, hv, _, hh, hnc, hcm, hcs, ht⟩
  · have : l = [] := List.eq_nil_of_length_eq_zero hn
    subst this; subst hv
    exact .nil _ _ _ (by unfold maxLen; omega) (fun _ => rfl)
  · refine .inr ⟨g, 0, cap, hv, (Array.getElem?_eq_some_iff.1 hh).1, hnc, hcm, fun i hi => ⟨?_, ?_, ?_⟩⟩
    · rw [cell_of_row w g (0 + i * 3) cur T (0, 0) hh]
      have h1 := congrArg (fun x => x[i * 3]?) ht
      rw [List.getElem?_take, if_pos (by omega), (flat_get l i hi).1] at h1
      rw [Nat.zero_add, ← Array.getElem?_toList, h1]
    · rw [cell_of_row w g (0 + i * 3 + 1) cur T (0, 0) hh]
      have h1 := congrArg (fun x => x[i * 3 + 1]?) ht
      rw [List.getElem?_take, if_pos (by omega), (flat_get l i hi).2.1] at h1
      rw [Nat.zero_add, ← Array.getElem?_toList, h1]
    · rw [cell_of_row w g (0 + i * 3 + 2) cur T (0, 0) hh]
      have h1 := congrArg (fun x => x[i * 3 + 2]?) ht
      rw [List.getElem?_take, if_pos (by omega), (flat_get l i hi).2.2] at h1
      rw [Nat.zero_add, ← Array.getElem?_toList, h1]
theorem OwnI.shape {T : TypeId} {w : World} {B : Nat} {v : Value} {l : List E} (h : OwnI T w B v l) : ∃ a c, v = .slice a l.length c := by
  obtain ⟨a, c, hv, _⟩ := h.lst.shape2
  exact ⟨a, c, hv⟩
structure El (T ST : TypeId) : Prop where
  info : (Tryz.prog.info? T).map (fun i => (i.zero, i.size, i.bytes)) = some (some (.agg #[.int .i64 0, .string ByteArray.empty, .int .i64 0]), 3, 32)
  under : Tryz.prog.underlying ST = some (.slice T)
theorem push {T ST : TypeId} (he : El T ST) {w : World} {B : Nat} {v : Value} {l : List E} (hown : OwnI T w B v l) {ops : Array Oper} {rest : List Oper} {o : Oper} {a : Act} {R : Exit → Act → World → Prop} (hgd : o.guard = none) (s x : Operand)
    (ho : o.op = .call { callee := .builtin .append, args := #[s, x], argTypes := #[ST, ST] })
    (p : Int) (t : ByteArray) (q : Int) (hs : a.eval s = v) (hx : a.eval x = .slice (some ⟨w.heap.size, 0, none⟩) 1 1) (hlen : l.length < 1073741824) (hB : B ≤ w.heap.size)
    (h : ∀ v' w', OwnI T w' B v' (l ++ [(p, t, q)]) → w.grownBy w' v.ownBlock → (v'.ownBlock = v.ownBlock ∨ v'.ownBlock = some (w.heap.size + 1)) → wpList Tryz.prog ops R rest (a.put o.dst v') w') :
    wpList Tryz.prog ops R (o :: rest) a (w.alloc (.cells #[.int .i64 p, .string t, .int .i64 q] T)) := by
  obtain ⟨i0, hi, hz0, hz1, hz2⟩ := info_parts he.info
  refine wpList_append_own_at _ hgd s x ST ho B T i0 (.agg #[.int .i64 0, .string ByteArray.empty, .int .i64 0]) 3 32 he.under hi hz0 hz1 hz2 rfl (by decide) v l.length _ hs (World.ownsRow.alloc hown _)
    ⟨w.heap.size, 0, none⟩ 1 1 [.int .i64 p, .string t, .int .i64 q] hx rfl ?_ ?_ ?_ ?_ ?_ ?_
  · intro j u hj
    match j, hj with
    | 0, hj => simp at hj; subst hj; show World.cell? _ ⟨w.heap.size, 0 + 0, none⟩ = _; rw [World.cell?_alloc_at _ _ _ _ rfl]; rfl
    | 1, hj => simp at hj; subst hj; show World.cell? _ ⟨w.heap.size, 0 + 1, none⟩ = _; rw [World.cell?_alloc_at _ _ _ _ rfl]; rfl
    | 2, hj => simp at hj; subst hj; show World.cell? _ ⟨w.heap.size, 0 + 2, none⟩ = _; rw [World.cell?_alloc_at _ _ _ _ rfl]; rfl
  · intro u hu; simp at hu; rcases hu with rfl | rfl | rfl <;> rfl
  · unfold maxLen; omega
  · omega
  · simp; omega
  · intro v' w' hown' hg _ hat
    refine h v' w' ?_ ?_ ?_
    · unfold OwnI
      rw [List.length_append, flat_app]
      exact hown'
    · exact (World.grownBy_alloc w _ _).trans hg
    · simpa using hat
theorem pushl {T ST : TypeId} (he : El T ST) {w : World} {B : Nat} {v u : Value} {l k : List E} (hown : OwnI T w B v l) (hu : LstI w u k) {ops : Array Oper} {rest : List Oper} {o : Oper} {a : Act} {R : Exit → Act → World → Prop} (hgd : o.guard = none) (s x : Operand)
    (ho : o.op = .call { callee := .builtin .append, args := #[s, x], argTypes := #[ST, ST] })
    (hs : a.eval s = v) (hx : a.eval x = u) (hlen : l.length + k.length < 1073741824) (hB : B ≤ w.heap.size)
    (h : ∀ v' w', OwnI T w' B v' (l ++ k) → w.grownBy w' v.ownBlock → (v'.ownBlock = v.ownBlock ∨ v'.ownBlock = some w.heap.size) → wpList Tryz.prog ops R rest (a.put o.dst v') w') :
    wpList Tryz.prog ops R (o :: rest) a w := by
  obtain ⟨i0, hi, hz0, hz1, hz2⟩ := info_parts he.info
  have key : ∀ (ad : Addr) (m c : Nat), u = .slice (some ad) m c → k.length = m → (∀ j x, (flat k)[j]? = some x → w.cell? (ad.add j) = some x) → wpList Tryz.prog ops R (o :: rest) a w := by
    intro ad m c hu hm hc
    subst hu; subst hm
    refine wpList_append_own_at _ hgd s x ST ho B T i0 (.agg #[.int .i64 0, .string ByteArray.empty, .int .i64 0]) 3 32 he.under hi hz0 hz1 hz2 rfl (by decide) v l.length _ hs hown
      ad k.length c (flat k) hx (by rw [flat_len]) hc (flat_one k) ?_ ?_ hB ?_
    · unfold maxLen; omega
    · omega
    · intro v' w' hown' hg _ hat
      refine h v' w' ?_ hg hat
      unfold OwnI
      rw [List.length_append, flat_app]
      exact hown'
  rcases hu with ⟨rfl, ad, c, rfl, hc, hn⟩ | ⟨g, off, cap, hv, hg, h1, h2, hc⟩
  · cases ad with
    | none =>
      obtain rfl := hn rfl
      refine wpList_append_own_none hgd s x ST ho B T i0 3 he.under hi v l.length _ hs hown hx ?_
      exact h v w (by rw [List.append_nil]; exact hown) ⟨rfl, rfl, rfl, Nat.le_refl _, fun _ _ _ => rfl⟩ (.inl rfl)
    | some ad => exact key ad 0 c rfl rfl (by simp [flat])
  · refine key ⟨g, off, none⟩ k.length cap hv rfl fun j x hj => ?_
    have hjl : j < k.length * 3 := by
      have := (List.getElem?_eq_some_iff.1 hj).1
      rwa [flat_len] at this
    have hadd : (⟨g, off, none⟩ : Addr).add j = ⟨g, off + j, none⟩ := by unfold Addr.add; split <;> simp_all
    obtain ⟨i, hi⟩ : ∃ i, i = j / 3 := ⟨_, rfl⟩
    have hik : i < k.length := by omega
    obtain ⟨f1, f2, f3⟩ := flat_get k i hik
    obtain ⟨c1, c2, c3⟩ := hc i hik
    rw [hadd]
    rcases (show j = i * 3 ∨ j = i * 3 + 1 ∨ j = i * 3 + 2 from by omega) with hj2 | hj2 | hj2
    · rw [hj2] at hj ⊢
      rw [f1] at hj
      rw [c1]; exact hj
    · rw [hj2] at hj ⊢
      rw [f2] at hj
      rw [← Nat.add_assoc, c2]; exact hj
    · rw [hj2] at hj ⊢
      rw [f3] at hj
      rw [← Nat.add_assoc, c3]; exact hj
theorem pushR {T ST : TypeId} (he : El T ST) {w : World} {B : Nat} {v : Value} {l : List E} (hown : OwnI T w B v l) {ops : Array Oper} {o : Oper} {a : Act} {K : Act → World → Prop} {R : Exit → Act → World → Prop} {E' : Prop} (hgd : o.guard = none) (s x : Operand)
    (ho : o.op = .call { callee := .builtin .append, args := #[s, x], argTypes := #[ST, ST] })
    {g0 : Nat} (p : Int) (t : ByteArray) (q : Int) (hs : a.eval s = v) (hx : a.eval x = .slice (some ⟨g0, 0, none⟩) 1 1) (c0 : w.cell? ⟨g0, 0, none⟩ = some (.int .i64 p)) (c1 : w.cell? ⟨g0, 1, none⟩ = some (.string t)) (c2 : w.cell? ⟨g0, 2, none⟩ = some (.int .i64 q)) (hlen : l.length < 1073741824) (hB : B ≤ w.heap.size)
    (h : ∀ v' w', OwnI T w' B v' (l ++ [(p, t, q)]) → w.grownBy w' v.ownBlock → (v'.ownBlock = v.ownBlock ∨ v'.ownBlock = some w.heap.size) → K (a.put o.dst v') w') :
    if Region.wanted o (yielded ops a.tmps) = true then Oper.wp Tryz.prog o a w K R else E' := by
  obtain ⟨i0, hi, hz0, hz1, hz2⟩ := info_parts he.info
  refine step_append_lies w hgd s x ST ho B T i0 (.agg #[.int .i64 0, .string ByteArray.empty, .int .i64 0]) 3 32 he.under hi hz0 hz1 hz2 rfl (by decide) v l.length _ hs hown
    ⟨g0, 0, none⟩ 1 1 [.int .i64 p, .string t, .int .i64 q] hx rfl ?_ ?_ (by decide) ?_ ?_ hB w.heap.size rfl ?_
  · intro j u hj
    match j, hj with
    | 0, hj => simp at hj; subst hj; exact c0
    | 1, hj => simp at hj; subst hj; exact c1
    | 2, hj => simp at hj; subst hj; exact c2
  · intro u hu; simp at hu; rcases hu with rfl | rfl | rfl <;> rfl
  · unfold maxLen; omega
  · omega
  · intro g cap w' hown' hg hat _
    refine h _ w' ?_ hg ?_
    · unfold OwnI
      rw [List.length_append, flat_app]
      exact hown'
    · rcases hat with hat | hat
      · exact .inl hat.symm
      · exact .inr (by rw [hat]; rfl)
theorem Gap_grow {A W W' : World} {lo hi : Nat} {row : Option Nat} (h : Gap lo hi A W) (hg : W.grownBy W' row) (hr : ∀ k, row = some k → (lo ≤ k ∧ k < hi) ∨ A.heap.size ≤ k) : Gap lo hi A W' := by
  obtain ⟨g1, g2, g3, g4, g5⟩ := hg
  refine ⟨g1.trans h.os, g2.trans h.tape, g3.trans h.output, Nat.le_trans h.size g4, fun k hk ho => ?_⟩
  rw [g5 k (Nat.lt_of_lt_of_le hk h.size) (by
    intro e
    rcases hr k e.symm with h1 | h1 <;> omega)]
  exact h.block k hk ho
theorem gap_q2 {a b c : World} {lo hi : Nat} (h : Q a b) (hl : a.heap.size ≤ lo) (g : Gap lo hi b c) : Q a c := Below.trans h ⟨g.os, g.tape, g.output, g.size, fun k hk => g.block k (Nat.lt_of_lt_of_le hk h.le) (.inl (Nat.lt_of_lt_of_le hk hl))⟩
theorem bk_gap {w w' : World} {b lo hi : Nat} {T : TypeId} {l : List Value} (h : Bk w b T l) (g : Gap lo hi w w') (ho : b < lo ∨ hi ≤ b) : Bk w' b T l := (g.block b h.lt ho).trans h
theorem OwnI.made1 {T : TypeId} (w : World) (p : Int) (t : ByteArray) (q : Int) : OwnI T (w.alloc (.cells #[.int .i64 p, .string t, .int .i64 q] T)) w.heap.size (.slice (some ⟨w.heap.size, 0, none⟩) 1 1) [(p, t, q)] := by
  refine ⟨by simp [flat], .inr ⟨w.heap.size, 1, #[.int .i64 p, .string t, .int .i64 q], rfl, Nat.le_refl _, ?_, Nat.le_refl _, by unfold maxLen; omega, rfl, rfl⟩⟩
  exact Bk.new w T [.int .i64 p, .string t, .int .i64 q]
end Im
end Go.Proofs.YtnlfeamhedihpaaGreatDoor
