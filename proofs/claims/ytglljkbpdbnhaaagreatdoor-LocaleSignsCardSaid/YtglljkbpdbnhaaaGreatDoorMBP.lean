/- Patterns of numbers, as plain mathematics: what a text's characters are, halves, numbers, a pattern. Patterns of numbers, as plain mathematics: a pattern of one half and that with its minus behind; long numbers; a literal of whatever signs. -/
import Derived.Test.YtglljkbpdbnhaaaGreatDoorRows
import Derived.Test.YtglljkbpdbnhaaaGreatDoorMB
set_option linter.unusedVariables false
set_option linter.unusedSimpArgs false
namespace Go.Proofs.YtglljkbpdbnhaaaGreatDoor
namespace Pt
open Um

/-- What a character is outside a quotation: 0 a literal, 1 to 3 a place, 4 a number sign, 5 what divides, 6 wrong. -/
def kindC (c : Int) : Int :=
  if c = 164 then 1 else if c = 37 then 2 else if c = 45 then 3
  else if c = 35 ∨ c = 48 ∨ c = 44 ∨ c = 46 then 4
  else if c = 59 then 5
  else if (49 ≤ c ∧ c ≤ 57) ∨ c = 64 ∨ c = 42 ∨ c = 43 ∨ c = 69 then 6 else 0
/-- A text's characters, each with what it is. q: quoted; p: a quote stands there of which it is not known yet what it is. None: a quotation does not end, or one is wrong. -/
def tokS : Bool → Bool → List Int → Option (List (Int × Int))
  | q, p, [] => if (q != p) = true then none else some []
  | q, p, c :: r =>
    if c = 39 then (if p = true then (tokS q false r).map ((0, 39) :: ·) else tokS q true r)
    else if (q != p) = true then (tokS true false r).map ((0, c) :: ·)
    else if kindC c = 6 then none
    else (tokS false false r).map ((kindC c, c) :: ·)
def tkn (cs : List Int) : Option (List (Int × Int)) := tokS false false cs
/-- The same, in parts: what comes of a text's front, and how its end stands. -/
def outS : Bool → Bool → List Int → Option (List (Int × Int) × Bool × Bool)
  | q, p, [] => some ([], q, p)
  | q, p, c :: r =>
    if c = 39 then (if p = true then (outS q false r).map (fun x => ((0, 39) :: x.1, x.2)) else outS q true r)
    else if (q != p) = true then (outS true false r).map (fun x => ((0, c) :: x.1, x.2))
    else if kindC c = 6 then none
    else (outS false false r).map (fun x => ((kindC c, c) :: x.1, x.2))
theorem tokS_cons (q p : Bool) (c : Int) (r : List Int) : tokS q p (c :: r) = if c = 39 then (if p = true then (tokS q false r).map ((0, 39) :: ·) else tokS q true r) else if (q != p) = true then (tokS true false r).map ((0, c) :: ·) else if kindC c = 6 then none else (tokS false false r).map ((kindC c, c) :: ·) := rfl
theorem outS_cons (q p : Bool) (c : Int) (r : List Int) : outS q p (c :: r) = if c = 39 then (if p = true then (outS q false r).map (fun x => ((0, 39) :: x.1, x.2)) else outS q true r) else if (q != p) = true then (outS true false r).map (fun x => ((0, c) :: x.1, x.2)) else if kindC c = 6 then none else (outS false false r).map (fun x => ((kindC c, c) :: x.1, x.2)) := rfl
theorem tok_append (a b : List Int) : ∀ (q p : Bool), tokS q p (a ++ b) = (outS q p a).bind fun x => (tokS x.2.1 x.2.2 b).map (x.1 ++ ·) := by
  induction a with
  | nil => intro q p; simp [outS]
  | cons c r ih =>
    intro q p
    rw [List.cons_append]
    rw [tokS_cons, outS_cons]
    by_cases h1 : c = 39
    · rw [if_pos h1, if_pos h1]
      cases p
      · simp only [Bool.false_eq_true, if_false]
        exact ih q true
      · simp only [if_true]
        rw [ih q false]
        cases outS q false r with
        | none => rfl
        | some x => simp [Option.map_map, Function.comp_def]
    · rw [if_neg h1, if_neg h1]
      by_cases h2 : (q != p) = true
      · rw [if_pos h2, if_pos h2, ih true false]
        cases outS true false r with
        | none => rfl
        | some x => simp [Option.map_map, Function.comp_def]
      · rw [if_neg h2, if_neg h2]
        by_cases h3 : kindC c = 6
        · rw [if_pos h3, if_pos h3]; rfl
        · rw [if_neg h3, if_neg h3, ih false false]
          cases outS false false r with
          | none => rfl
          | some x => simp [Option.map_map, Function.comp_def]
theorem out_append (a b : List Int) : ∀ (q p : Bool), outS q p (a ++ b) = (outS q p a).bind fun x => (outS x.2.1 x.2.2 b).map fun y => (x.1 ++ y.1, y.2) := by
  induction a with
  | nil => intro q p; simp [outS]
  | cons c r ih =>
    intro q p
    rw [List.cons_append]
    rw [outS_cons, outS_cons]
    by_cases h1 : c = 39
    · rw [if_pos h1, if_pos h1]
      cases p
      · simp only [Bool.false_eq_true, if_false]
        exact ih q true
      · simp only [if_true]
        rw [ih q false]
        cases outS q false r with
        | none => rfl
        | some x => simp [Option.map_map, Function.comp_def]
    · rw [if_neg h1, if_neg h1]
      by_cases h2 : (q != p) = true
      · rw [if_pos h2, if_pos h2, ih true false]
        cases outS true false r with
        | none => rfl
        | some x => simp [Option.map_map, Function.comp_def]
      · rw [if_neg h2, if_neg h2]
        by_cases h3 : kindC c = 6
        · rw [if_pos h3, if_pos h3]; rfl
        · rw [if_neg h3, if_neg h3, ih false false]
          cases outS false false r with
          | none => rfl
          | some x => simp [Option.map_map, Function.comp_def]
theorem tok_out (cs : List Int) (q p : Bool) : tokS q p cs = (outS q p cs).bind fun x => if (x.2.1 != x.2.2) = true then none else some x.1 := by
  have := tok_append cs [] q p
  rw [List.append_nil] at this
  rw [this]
  cases outS q p cs with
  | none => rfl
  | some x =>
    simp only [Option.bind_some, tokS]
    split <;> simp

/-- A character's bytes. -/
def encL (c : Int) : List UInt8 := (encB c).data.toList
/-- Pieces: literals side by side as one, places without a text. -/
def joinT : List UInt8 → List (Int × Int) → List (Int × List UInt8)
  | t, [] => if t = [] then [] else [(0, t)]
  | t, x :: r => if x.1 = 0 then joinT (t ++ encL x.2) r else (if t = [] then [] else [(0, t)]) ++ (x.1, []) :: joinT [] r

/-- How far a number's signs have been read. -/
structure NS where
  point : Bool
  since : Int
  group : Int
  commas : Int
  whole : Int
  zeros : Int
  minF : Int
  maxF : Int
deriving DecidableEq
def numS : NS → List Int → Option NS
  | n, [] => some n
  | n, c :: r =>
    if c = 46 then (if n.point = true ∨ n.whole = 0 ∨ (0 < n.commas ∧ n.since = 0) then none else numS { n with point := true } r)
    else if n.point = true then (if c = 44 ∨ (c = 48 ∧ n.minF < n.maxF) then none else numS { n with maxF := n.maxF + 1, minF := if c = 48 then n.minF + 1 else n.minF } r)
    else if c = 44 then (if n.since = 0 then none else numS { n with group := n.since, since := 0, commas := n.commas + 1 } r)
    else if c = 35 ∧ 0 < n.zeros then none
    else numS { n with zeros := if c = 48 then n.zeros + 1 else n.zeros, whole := n.whole + 1, since := n.since + 1 } r
def ns0 : NS := ⟨false, 0, 0, 0, 0, 0, 0, 0⟩
/-- What a number says: Primary, Secondary, MinInt, MinFrac, MaxFrac; whether it is too long. -/
structure Nm where
  pr : Int
  se : Int
  mi : Int
  mf : Int
  xf : Int
  long : Bool
deriving DecidableEq
def numE (n : NS) : Option Nm :=
  if n.whole = 0 ∨ n.since = 0 ∨ (n.point = true ∧ n.maxF = 0) then none
  else some ⟨if 0 < n.commas then n.since else 0, if 1 < n.commas then n.group else if 0 < n.commas then n.since else 0, n.zeros, n.minF, n.maxF, decide (64 < n.whole ∨ 64 < n.maxF)⟩
def num (cs : List Int) : Option Nm := (numS ns0 cs).bind numE

abbrev Pc := Int × List UInt8
structure Hf where
  pre : List Pc
  suf : List Pc
  nm : Nm
deriving DecidableEq
def isN (x : Int × Int) : Bool := x.1 == 4
def half (l : List (Int × Int)) : Option Hf :=
  let r := l.dropWhile fun x => !isN x
  let s := r.dropWhile isN
  if s.any isN = true then none
  else (num ((r.takeWhile isN).map (·.2))).map fun n => ⟨joinT [] (l.takeWhile fun x => !isN x), joinT [] s, n⟩

structure Pat where
  pre : List Pc
  suf : List Pc
  npre : List Pc
  nsuf : List Pc
  pr : Int
  se : Int
  mi : Int
  mf : Int
  xf : Int
deriving DecidableEq
def pat0 : Pat := ⟨[], [], [], [], 0, 0, 0, 0, 0⟩
def isD (x : Int × Int) : Bool := x.1 == 5
def mkP (h : Hf) (np ns : List Pc) : Pat := ⟨h.pre, h.suf, np, ns, h.nm.pr, h.nm.se, h.nm.mi, h.nm.mf, h.nm.xf⟩
/-- The pattern of tokens, and the error. -/
def parseT (l : List (Int × Int)) : Pat × Int :=
  match half (l.takeWhile fun x => !isD x) with
  | none => (pat0, 2)
  | some h =>
    match l.dropWhile fun x => !isD x with
    | [] => if h.nm.long = true then (pat0, 3) else (mkP h ((3, []) :: h.pre) h.suf, 0)
    | _ :: r =>
      if r.any isD = true then (pat0, 2)
      else match half r with
        | none => (pat0, 2)
        | some k => if (h.nm.long || k.nm.long) = true then (pat0, 3) else (mkP h k.pre k.suf, 0)
def parseC (cs : List Int) : Pat × Int := match tkn cs with
  | none => (pat0, 2)
  | some l => parseT l

/-! ### texts that are made of any -/
/-- The ten signs, as characters. -/
def sgn : List (List Int) := [[97], [164], [37], [45], [39, 35, 39], [39, 39], [160], [101, 769], [39, 46, 59, 39], [120, 39, 121, 39]]
def sgL (l : List Int) : List Int := (l.take 5).flatMap fun n => sgn.getD (around n 10).toNat []
/-- A number's signs ahead of the point, counted down from i. -/
def whl (n zeros p q : Int) : Nat → List Int
  | 0 => []
  | i + 1 => (if (i + 1 : Int) < n ∧ ((i + 1 : Int) = p ∨ (0 < p ∧ 0 < q ∧ (i + 1 : Int) = p + q)) then [44] else []) ++ (if (i + 1 : Int) ≤ zeros then 48 else 35) :: whl n zeros p q i
def nmT (zeros p q a b : Nat) : List Int :=
  let n : Nat := max zeros (p + q + 1)
  whl n zeros p q n ++ (if 0 < a + b then 46 :: ([48, 48, 48].take a ++ [35, 35, 35].take b) else [])

/-- Signs that begin and end outside a quotation: none of them is a number sign, none divides. -/
def okT (l : List (Int × Int)) : Prop := ∀ x ∈ l, 0 ≤ x.1 ∧ x.1 ≤ 3
theorem sgn_out : ∀ i, i < 10 → ∀ b : Bool, ∃ l c, outS b b (sgn.getD i []) = some (l, c, c) ∧ okT l := by
  intro i hi b
  have h : ∀ i, i < 10 → ∀ b : Bool, (match outS b b (sgn.getD i []) with | none => false | some (l, c, d) => (c == d) && l.all fun x => decide (0 ≤ x.1 ∧ x.1 ≤ 3)) = true := by decide +kernel
  have := h i hi b
  cases ho : outS b b (sgn.getD i []) with
  | none => rw [ho] at this; cases this
  | some x =>
    obtain ⟨l, c, d⟩ := x
    rw [ho] at this
    simp only [Bool.and_eq_true, beq_iff_eq, List.all_eq_true, decide_eq_true_eq] at this
    exact ⟨l, c, by rw [this.1], this.2⟩
theorem flat_out (ls : List (List Int)) (h : ∀ s ∈ ls, ∀ b : Bool, ∃ l c, outS b b s = some (l, c, c) ∧ okT l) : ∀ b : Bool, ∃ l c, outS b b ls.flatten = some (l, c, c) ∧ okT l := by
  induction ls with
  | nil => intro b; exact ⟨[], b, rfl, fun x hx => absurd hx List.not_mem_nil⟩
  | cons s r ih =>
    intro b
    obtain ⟨l1, c1, h1, k1⟩ := h s List.mem_cons_self b
    obtain ⟨l2, c2, h2, k2⟩ := ih (fun t ht => h t (List.mem_cons_of_mem _ ht)) c1
    refine ⟨l1 ++ l2, c2, ?_, fun x hx => ?_⟩
    · rw [List.flatten_cons, out_append, h1]
      simp [h2]
    · rcases List.mem_append.1 hx with hx | hx
      · exact k1 x hx
      · exact k2 x hx
theorem sgL_out (l : List Int) (b : Bool) : ∃ t c, outS b b (sgL l) = some (t, c, c) ∧ okT t := by
  unfold sgL
  rw [List.flatMap_def]
  refine flat_out _ (fun s hs => ?_) b
  obtain ⟨n, _, rfl⟩ := List.mem_map.1 hs
  have := around_bd n 10 (by omega)
  exact sgn_out _ (by omega)

end Pt
end Go.Proofs.YtglljkbpdbnhaaaGreatDoor

set_option linter.unusedVariables false
set_option linter.unusedSimpArgs false
namespace Go.Proofs.YtglljkbpdbnhaaaGreatDoor
namespace Pt
open Um

/-! ### numbers made of any -/
def nmB (c : Int) : Bool := c == 35 || c == 48 || c == 44 || c == 46
theorem nmB_kind {c : Int} (h : nmB c = true) : c ≠ 39 ∧ kindC c = 4 := by
  simp only [nmB, Bool.or_eq_true, beq_iff_eq] at h
  rcases h with ((rfl | rfl) | rfl) | rfl <;> decide
set_option maxRecDepth 100000 in
theorem nmT_all : ∀ z, z < 7 → ∀ p, p < 5 → ∀ q, q < 5 → ∀ a, a < 4 → ∀ b, b < 4 →
    ((match num (nmT z p q a b) with | none => false | some n => !n.long) && (nmT z p q a b).all nmB && decide (1 ≤ (nmT z p q a b).length ∧ (nmT z p q a b).length ≤ 20)) = true := by decide +kernel
theorem nmT_ok {z p q a b : Nat} (hz : z < 7) (hp : p < 5) (hq : q < 5) (ha : a < 4) (hb : b < 4) :
    (∃ n, num (nmT z p q a b) = some n ∧ n.long = false) ∧ (∀ c ∈ nmT z p q a b, nmB c = true) ∧ 1 ≤ (nmT z p q a b).length ∧ (nmT z p q a b).length ≤ 20 := by
  have h := nmT_all z hz p hp q hq a ha b hb
  simp only [Bool.and_eq_true, List.all_eq_true, decide_eq_true_eq] at h
  refine ⟨?_, h.1.2, h.2⟩
  have h1 := h.1.1
  cases hn : num (nmT z p q a b) with
  | none => rw [hn] at h1; cases h1
  | some n => rw [hn] at h1; exact ⟨n, rfl, by simpa using h1⟩

theorem sign_out (ns : List Int) (h : ∀ c ∈ ns, nmB c = true) : outS false false ns = some (ns.map fun c => (4, c), false, false) := by
  induction ns with
  | nil => rfl
  | cons c r ih =>
    obtain ⟨h1, h2⟩ := nmB_kind (h c List.mem_cons_self)
    rw [outS_cons, if_neg h1, if_neg (by simp), h2, if_neg (by decide), ih fun d hd => h d (List.mem_cons_of_mem _ hd)]
    rfl
theorem signs_out (c : Bool) (ns : List Int) (h : ∀ c ∈ ns, nmB c = true) (hn : 1 ≤ ns.length) : outS c c ns = some (ns.map fun c => (4, c), false, false) := by
  cases ns with
  | nil => simp at hn
  | cons d r =>
    obtain ⟨h1, h2⟩ := nmB_kind (h d List.mem_cons_self)
    rw [outS_cons, if_neg h1, if_neg (by simp), h2, if_neg (by decide), sign_out r fun d hd => h d (List.mem_cons_of_mem _ hd)]
    rfl

/-- A half's tokens. -/
structure Hv (P N S : List (Int × Int)) : Prop where
  p : okT P
  s : okT S
  n : ∀ x ∈ N, x.1 = 4
theorem okT_isN {l : List (Int × Int)} (h : okT l) : ∀ x ∈ l, isN x = false := fun x hx => by
  have := h x hx
  unfold isN
  rw [beq_eq_false_iff_ne]; omega
theorem okT_isD {l : List (Int × Int)} (h : okT l) : ∀ x ∈ l, isD x = false := fun x hx => by
  have := h x hx
  unfold isD
  rw [beq_eq_false_iff_ne]; omega
theorem tw_all {α : Type} {f : α → Bool} {a b : List α} (h : ∀ x ∈ a, f x = true) : (a ++ b).takeWhile f = a ++ b.takeWhile f ∧ (a ++ b).dropWhile f = b.dropWhile f := by
  induction a with
  | nil => exact ⟨rfl, rfl⟩
  | cons x r ih =>
    have hx := h x List.mem_cons_self
    have := ih fun y hy => h y (List.mem_cons_of_mem _ hy)
    simp [List.takeWhile_cons, List.dropWhile_cons, hx, this]
theorem tw_no {α : Type} {f : α → Bool} {a : List α} (h : ∀ x ∈ a, f x = false) : a.takeWhile f = [] ∧ a.dropWhile f = a := by
  cases a with
  | nil => exact ⟨rfl, rfl⟩
  | cons x r => simp [List.takeWhile_cons, List.dropWhile_cons, h x List.mem_cons_self]
theorem half_of {P N S : List (Int × Int)} (h : Hv P N S) (hN : 1 ≤ N.length) : half (P ++ N ++ S) = (num (N.map (·.2))).map fun n => ⟨joinT [] P, joinT [] S, n⟩ := by
  have e1 := tw_all (f := fun x => !isN x) (a := P) (b := N ++ S) fun x hx => by rw [okT_isN h.p x hx]; rfl
  have hNn : ∀ x ∈ N, isN x = true := fun x hx => by unfold isN; rw [h.n x hx]; rfl
  have e2 : (N ++ S).takeWhile (fun x => !isN x) = [] ∧ (N ++ S).dropWhile (fun x => !isN x) = N ++ S := by
    cases N with
    | nil => simp at hN
    | cons x r => simp [List.takeWhile_cons, List.dropWhile_cons, hNn x List.mem_cons_self]
  have e3 := tw_all (f := isN) (a := N) (b := S) hNn
  have e4 := tw_no (f := isN) (okT_isN h.s)
  have e5 : S.any isN = false := by
    rw [List.any_eq_false]
    intro x hx; rw [okT_isN h.s x hx]; simp
  unfold half
  rw [List.append_assoc]
  simp only [e1, e2, e3, e4, e5, List.append_nil, Bool.false_eq_true, if_false]
theorem Hv.noD {P N S : List (Int × Int)} (h : Hv P N S) : ∀ x ∈ P ++ N ++ S, isD x = false := by
  intro x hx
  rcases List.mem_append.1 hx with hx | hx
  · rcases List.mem_append.1 hx with hx | hx
    · exact okT_isD h.p x hx
    · unfold isD; rw [h.n x hx]; rfl
  · exact okT_isD h.s x hx
theorem parse_one {P N S : List (Int × Int)} (h : Hv P N S) (hN : 1 ≤ N.length) {n : Nm} (hn : num (N.map (·.2)) = some n) (hl : n.long = false) :
    parseT (P ++ N ++ S) = (mkP ⟨joinT [] P, joinT [] S, n⟩ ((3, []) :: joinT [] P) (joinT [] S), 0) := by
  have hd := tw_all (f := fun x => !isD x) (a := P ++ N ++ S) (b := []) fun x hx => by rw [h.noD x hx]; rfl
  rw [List.append_nil] at hd
  unfold parseT
  rw [hd.1, hd.2]
  simp only [List.takeWhile_nil, List.dropWhile_nil, List.append_nil, half_of h hN, hn, Option.map_some, hl, Bool.false_eq_true, if_false]
theorem parse_two {P N S P' N' S' : List (Int × Int)} (h : Hv P N S) (hN : 1 ≤ N.length) {n : Nm} (hn : num (N.map (·.2)) = some n) (hl : n.long = false) (h' : Hv P' N' S') (hN' : 1 ≤ N'.length) {n' : Nm} (hn' : num (N'.map (·.2)) = some n') (hl' : n'.long = false) :
    parseT (P ++ N ++ S ++ (5, 59) :: (P' ++ N' ++ S')) = (mkP ⟨joinT [] P, joinT [] S, n⟩ (joinT [] P') (joinT [] S'), 0) := by
  have hd := tw_all (f := fun x => !isD x) (a := P ++ N ++ S) (b := (5, 59) :: (P' ++ N' ++ S')) fun x hx => by rw [h.noD x hx]; rfl
  have h5 : isD (5, 59) = true := rfl
  have ha : (P' ++ N' ++ S').any isD = false := by
    rw [List.any_eq_false]
    intro x hx; rw [h'.noD x hx]; simp
  unfold parseT
  rw [hd.1, hd.2]
  simp only [List.takeWhile_cons, List.dropWhile_cons, h5, Bool.not_true, Bool.false_eq_true, if_false, List.append_nil, half_of h hN, hn, Option.map_some, hl, ha, half_of h' hN', hn', hl', Bool.or_self]

/-- A half's text made of any. -/
def hfT (pre suf : List Int) (z p q a b : Nat) : List Int := sgL pre ++ nmT z p q a b ++ sgL suf
theorem hfT_out (pre suf : List Int) {z p q a b : Nat} (hz : z < 7) (hp : p < 5) (hq : q < 5) (ha : a < 4) (hb : b < 4) :
    ∃ P N S c, outS false false (hfT pre suf z p q a b) = some (P ++ N ++ S, c, c) ∧ Hv P N S ∧ N.map (·.2) = nmT z p q a b ∧ 1 ≤ N.length := by
  obtain ⟨_, h2, h3, _⟩ := nmT_ok hz hp hq ha hb
  obtain ⟨P, c1, h4, h5⟩ := sgL_out pre false
  obtain ⟨S, c2, h6, h7⟩ := sgL_out suf false
  refine ⟨P, (nmT z p q a b).map fun c => (4, c), S, c2, ?_, ⟨h5, h7, fun x hx => ?_⟩, ?_, by rw [List.length_map]; exact h3⟩
  · unfold hfT
    rw [out_append, out_append, h4]
    simp [signs_out c1 _ h2 h3, h6]
  · obtain ⟨d, _, rfl⟩ := List.mem_map.1 hx; rfl
  · rw [List.map_map]
    conv => rhs; rw [← List.map_id (nmT z p q a b)]
    rfl
/-- A pattern without a second half is that whose second half has a minus ahead of the prefix. -/
theorem halves (pre suf : List Int) {z p q a b : Nat} (hz : z < 7) (hp : p < 5) (hq : q < 5) (ha : a < 4) (hb : b < 4) :
    ∃ X : Pat, parseC (hfT pre suf z p q a b) = (X, 0) ∧ parseC (hfT pre suf z p q a b ++ 59 :: 45 :: hfT pre suf z p q a b) = (X, 0) ∧ X.npre = (3, []) :: X.pre := by
  obtain ⟨⟨n, hn, hl⟩, _⟩ := nmT_ok hz hp hq ha hb
  obtain ⟨P, N, S, c, ho, hv, hN, hN1⟩ := hfT_out pre suf hz hp hq ha hb
  rw [← hN] at hn
  have t1 : tkn (hfT pre suf z p q a b) = some (P ++ N ++ S) := by
    unfold tkn
    rw [tok_out, ho]; simp
  have hv' : Hv ((3, 45) :: P) N S := ⟨fun x hx => by
    rcases List.mem_cons.1 hx with rfl | hx
    · simp
    · exact hv.p x hx, hv.s, hv.n⟩
  have t2 : tkn (hfT pre suf z p q a b ++ 59 :: 45 :: hfT pre suf z p q a b) = some (P ++ N ++ S ++ (5, 59) :: ((3, 45) :: P ++ N ++ S)) := by
    unfold tkn
    rw [tok_append, ho]
    have e : tokS c c (59 :: 45 :: hfT pre suf z p q a b) = some ((5, 59) :: (3, 45) :: (P ++ N ++ S)) := by
      rw [tokS_cons, if_neg (by decide), if_neg (by simp), if_neg (by decide), tokS_cons, if_neg (by decide), if_neg (by decide), if_neg (by decide)]
      have := t1
      unfold tkn at this
      rw [this]; rfl
    simp [e]
  refine ⟨mkP ⟨joinT [] P, joinT [] S, n⟩ ((3, []) :: joinT [] P) (joinT [] S), ?_, ?_, rfl⟩
  · unfold parseC
    rw [t1]
    exact parse_one hv hN1 hn hl
  · unfold parseC
    rw [t2]
    have := parse_two hv hN1 hn hl hv' hN1 hn hl
    have ej : joinT [] ((3, 45) :: P) = (3, []) :: joinT [] P := rfl
    rw [ej] at this
    exact this

/-! ### long numbers -/
set_option maxRecDepth 100000 in
theorem longs : ∀ k, k < 10 → ∀ i, i < 4 →
    (parseC ([List.replicate (60 + k) 48, [48, 46] ++ List.replicate (60 + k) 48, [35, 59] ++ List.replicate (60 + k) 48, [35, 59, 48, 46] ++ List.replicate (60 + k) 48].getD i [])).2 = (if 4 < k then 3 else 0) ∧
    (parseC ([List.replicate (60 + k) 48, [48, 46] ++ List.replicate (60 + k) 48, [35, 59] ++ List.replicate (60 + k) 48, [35, 59, 48, 46] ++ List.replicate (60 + k) 48].getD i [] ++ [39])).2 = 2 := by decide +kernel

/-! ### a literal of whatever signs -/
/-- Each quote doubled. -/
def dbl (l : List Int) : List Int := l.flatMap fun c => if c = 39 then [39, 39] else [c]
def lit (l : List Int) : List (Int × Int) := l.map fun c => (0, c)
theorem dbl_cons (c : Int) (r : List Int) : dbl (c :: r) = (if c = 39 then [39, 39] else [c]) ++ dbl r := rfl
/-- Within a quotation that has had something else than quotes. -/
theorem dbl_in (l : List Int) : outS true false (dbl l) = some (lit l, true, false) := by
  induction l with
  | nil => rfl
  | cons c r ih =>
    rw [dbl_cons]
    by_cases h : c = 39
    · subst h
      rw [if_pos rfl]
      show outS true false (39 :: 39 :: dbl r) = _
      rw [outS_cons, if_pos rfl, if_neg (by decide), outS_cons, if_pos rfl, if_pos rfl, ih]; rfl
    · rw [if_neg h]
      show outS true false (c :: dbl r) = _
      rw [outS_cons, if_neg h, if_pos (by decide), ih]; rfl
/-- Behind the quote that begins one. -/
theorem dbl_first (l : List Int) (h : ∃ c ∈ l, c ≠ 39) : outS false true (dbl l) = some (lit l, true, false) := by
  induction l with
  | nil => obtain ⟨c, hc, _⟩ := h; cases hc
  | cons c r ih =>
    rw [dbl_cons]
    by_cases hc : c = 39
    · subst hc
      rw [if_pos rfl]
      show outS false true (39 :: 39 :: dbl r) = _
      have hr : ∃ c ∈ r, c ≠ 39 := by
        obtain ⟨d, hd, hn⟩ := h
        rcases List.mem_cons.1 hd with rfl | hd
        · exact absurd rfl hn
        · exact ⟨d, hd, hn⟩
      rw [outS_cons, if_pos rfl, if_pos rfl, outS_cons, if_pos rfl, if_neg (by decide), ih hr]; rfl
    · rw [if_neg hc]
      show outS false true (c :: dbl r) = _
      rw [outS_cons, if_neg hc, if_pos (by decide), dbl_in r]; rfl
/-- Of quotes alone. -/
theorem dbl_only (l : List Int) (h : ∀ c ∈ l, c = 39) : outS false false (dbl l) = some (lit l, false, false) := by
  induction l with
  | nil => rfl
  | cons c r ih =>
    obtain rfl := h c List.mem_cons_self
    rw [dbl_cons, if_pos rfl]
    show outS false false (39 :: 39 :: dbl r) = _
    rw [outS_cons, if_pos rfl, if_neg (by decide), outS_cons, if_pos rfl, if_pos rfl, ih fun c hc => h c (List.mem_cons_of_mem _ hc)]; rfl
/-- A run as it is printed. -/
def fl (r : List Int) : List Int := if r.all (· == 39) = true then dbl r else 39 :: dbl r ++ [39]
theorem fl_out (r : List Int) : ∃ b, outS false false (fl r) = some (lit r, b, b) := by
  unfold fl
  by_cases h : r.all (· == 39) = true
  · rw [if_pos h]
    refine ⟨false, dbl_only r fun c hc => ?_⟩
    have := List.all_eq_true.1 h c hc
    simpa using this
  · rw [if_neg h]
    have hx : ∃ c ∈ r, c ≠ 39 := by
      simp only [List.all_eq_true, beq_iff_eq, Classical.not_forall] at h
      obtain ⟨c, hc, hn⟩ := h
      exact ⟨c, hc, hn⟩
    refine ⟨true, ?_⟩
    rw [List.cons_append, outS_cons, if_pos rfl, if_neg (by decide), out_append, dbl_first r hx]
    simp [outS]
def spc (c : Int) : Bool := c == 39 || kindC c != 0
/-- A literal's text as it is printed. -/
def prS : List Int → List Int → List Int
  | run, [] => fl run
  | run, c :: r => if spc c = true then prS (run ++ [c]) r else fl run ++ c :: prS [] r
theorem prS_out (l : List Int) : ∀ run, ∃ b, outS false false (prS run l) = some (lit (run ++ l), b, b) := by
  induction l with
  | nil => intro run; rw [List.append_nil]; exact fl_out run
  | cons c r ih =>
    intro run
    unfold prS
    by_cases h : spc c = true
    · rw [if_pos h]
      obtain ⟨b, hb⟩ := ih (run ++ [c])
      exact ⟨b, by rw [hb, List.append_assoc]; rfl⟩
    · rw [if_neg h]
      have hk : c ≠ 39 ∧ kindC c = 0 := by simpa [spc] using h
      obtain ⟨b, hb⟩ := fl_out run
      obtain ⟨d, hd⟩ := ih []
      refine ⟨d, ?_⟩
      rw [out_append, hb]
      simp only [Option.bind_some]
      rw [outS_cons, if_neg hk.1, if_neg (by simp), hk.2, if_neg (by decide), hd]
      simp [lit]
theorem join_lit (l : List Int) : ∀ t, joinT t (lit l) = if t ++ l.flatMap encL = [] then [] else [(0, t ++ l.flatMap encL)] := by
  induction l with
  | nil => intro t; simp [lit, joinT]
  | cons c r ih =>
    intro t
    show (if (0 : Int) = 0 then joinT (t ++ encL c) (lit r) else _) = _
    rw [if_pos rfl, ih]
    simp [List.flatMap_cons]
theorem okT_lit (l : List Int) : okT (lit l) := fun x hx => by
  obtain ⟨c, _, rfl⟩ := List.mem_map.1 hx
  simp
def nm1 : Nm := ⟨0, 0, 0, 0, 0, false⟩
theorem num_one : num [35] = some nm1 := by decide +kernel
/-- A pattern that has a literal ahead, and one number sign. -/
def litP (l : List Int) : Pat := mkP ⟨joinT [] (lit l), [], nm1⟩ ((3, []) :: joinT [] (lit l)) []
theorem parse_lit {cs l : List Int} (h : ∃ b, outS false false cs = some (lit l, b, b)) : parseC (cs ++ [35]) = (litP l, 0) := by
  obtain ⟨b, hb⟩ := h
  have t1 : tkn (cs ++ [35]) = some (lit l ++ [(4, 35)] ++ []) := by
    unfold tkn
    rw [tok_append, hb]
    have : tokS b b [35] = some [(4, 35)] := by
      rw [tokS_cons, if_neg (by decide), if_neg (by simp), if_neg (by decide)]; rfl
    simp [this]
  unfold parseC
  rw [t1]
  exact parse_one (N := [(4, 35)]) ⟨okT_lit l, fun x hx => absurd hx List.not_mem_nil, fun x hx => by simp at hx; rw [hx]⟩ (by simp) num_one rfl
/-- A literal put between quotes. -/
theorem quoted (l : List Int) (h : ∃ c ∈ l, c ≠ 39) : parseC (39 :: dbl l ++ [39] ++ [35]) = (litP l, 0) := by
  refine parse_lit ⟨true, ?_⟩
  rw [List.cons_append, outS_cons, if_pos rfl, if_neg (by decide), out_append, dbl_first l h]
  simp [outS]
/-- What is printed of it is parsed as it was. -/
theorem printed (l : List Int) : parseC (prS [] l ++ [35]) = (litP l, 0) := parse_lit (prS_out l [])

end Pt
end Go.Proofs.YtglljkbpdbnhaaaGreatDoor
