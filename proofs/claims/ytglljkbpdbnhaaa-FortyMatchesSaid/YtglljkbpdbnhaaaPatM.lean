/- Patterns of numbers, as plain mathematics: what a text's characters are, halves, numbers, a pattern. -/
import Derived.Test.YtglljkbpdbnhaaaRows
import Derived.Test.YtglljkbpdbnhaaaUtfM
set_option linter.unusedVariables false
set_option linter.unusedSimpArgs false
namespace Go.Proofs.Ytglljkbpdbnhaaa
namespace Pt
open Um

/-- What a character is outside a quotation: 0 a literal, 1 to 3 a place, 4 a number sign, 5 what divides, 6 wrong. -/
def kindC (c : Int) : Int :=
  if c = 164 then 1 else if c = 37 then 2 else if c = 45 then 3
  else if c = 35 ∨ c = 48 ∨ c = 44 ∨ c = 46 then 4
  else if c = 59 then 5
  else if (49 ≤ c ∧ c ≤ 57) ∨ c = 64 ∨ c = 42 ∨ c = 43 ∨ c = 69 then 6 else 0
/-- A text's characters, each with what it is. q: quoted; p: a quote stands there of which it is not known yet what it is. None: a quotation does not end, or one is wrong. -/
def tokS : Bool → Bool → List Int → Option (List (Int × Int))
  | q, p, [] => if (q != p) = true then none else some []
  | q, p, c :: r =>
    if c = 39 then (if p = true then (tokS q false r).map ((0, 39) :: ·) else tokS q true r)
    else if (q != p) = true then (tokS true false r).map ((0, c) :: ·)
    else if kindC c = 6 then none
    else (tokS false false r).map ((kindC c, c) :: ·)
def tkn (cs : List Int) : Option (List (Int × Int)) := tokS false false cs
/-- The same, in parts: what comes of a text's front, and how its end stands. -/
def outS : Bool → Bool → List Int → Option (List (Int × Int) × Bool × Bool)
  | q, p, [] => some ([], q, p)
  | q, p, c :: r =>
    if c = 39 then (if p = true then (outS q false r).map (fun x => ((0, 39) :: x.1, x.2)) else outS q true r)
    else if (q != p) = true then (outS true false r).map (fun x => ((0, c) :: x.1, x.2))
    else if kindC c = 6 then none
    else (outS false false r).map (fun x => ((kindC c, c) :: x.1, x.2))
theorem tokS_cons (q p : Bool) (c : Int) (r : List Int) : tokS q p (c :: r) = if c = 39 then (if p = true then (tokS q false r).map ((0, 39) :: ·) else tokS q true r) else if (q != p) = true then (tokS true false r).map ((0, c) :: ·) else if kindC c = 6 then none else (tokS false false r).map ((kindC c, c) :: ·) := rfl
theorem outS_cons (q p : Bool) (c : Int) (r : List Int) : outS q p (c :: r) = if c = 39 then (if p = true then (outS q false r).map (fun x => ((0, 39) :: x.1, x.2)) else outS q true r) else if (q != p) = true then (outS true false r).map (fun x => ((0, c) :: x.1, x.2)) else if kindC c = 6 then none else (outS false false r).map (fun x => ((kindC c, c) :: x.1, x.2)) := rfl
theorem tok_append (a b : List Int) : ∀ (q p : Bool), tokS q p (a ++ b) = (outS q p a).bind fun x => (tokS x.2.1 x.2.2 b).map (x.1 ++ ·) := by
  induction a with
  | nil => intro q p; simp [outS]
  | cons c r ih =>
    intro q p
    rw [List.cons_append]
    rw [tokS_cons, outS_cons]
    by_cases h1 : c = 39
    · rw [if_pos h1, if_pos h1]
      cases p
      · simp only [Bool.false_eq_true, if_false]
        exact ih q true
      · simp only [if_true]
        rw [ih q false]
        cases outS q false r with
        | none => rfl
        | some x => simp [Option.map_map, Function.comp_def]
    · rw [if_neg h1, if_neg h1]
      by_cases h2 : (q != p) = true
      · rw [if_pos h2, if_pos h2, ih true false]
        cases outS true false r with
        | none => rfl
        | some x => simp [Option.map_map, Function.comp_def]
      · rw [if_neg h2, if_neg h2]
        by_cases h3 : kindC c = 6
        · rw [if_pos h3, if_pos h3]; rfl
        · rw [if_neg h3, if_neg h3, ih false false]
          cases outS false false r with
          | none => rfl
          | some x => simp [Option.map_map, Function.comp_def]
theorem out_append (a b : List Int) : ∀ (q p : Bool), outS q p (a ++ b) = (outS q p a).bind fun x => (outS x.2.1 x.2.2 b).map fun y => (x.1 ++ y.1, y.2) := by
  induction a with
  | nil => intro q p; simp [outS]
  | cons c r ih =>
    intro q p
    rw [List.cons_append]
    rw [outS_cons, outS_cons]
    by_cases h1 : c = 39
    · rw [if_pos h1, if_pos h1]
      cases p
      · simp only [Bool.false_eq_true, if_false]
        exact ih q true
      · simp only [if_true]
        rw [ih q false]
        cases outS q false r with
        | none => rfl
        | some x => simp [Option.map_map, Function.comp_def]
    · rw [if_neg h1, if_neg h1]
      by_cases h2 : (q != p) = true
      · rw [if_pos h2, if_pos h2, ih true false]
        cases outS true false r with
        | none => rfl
        | some x => simp [Option.map_map, Function.comp_def]
      · rw [if_neg h2, if_neg h2]
        by_cases h3 : kindC c = 6
        · rw [if_pos h3, if_pos h3]; rfl
        · rw [if_neg h3, if_neg h3, ih false false]
          cases outS false false r with
          | none => rfl
          | some x => simp [Option.map_map, Function.comp_def]
theorem tok_out (cs : List Int) (q p : Bool) : tokS q p cs = (outS q p cs).bind fun x => if (x.2.1 != x.2.2) = true then none else some x.1 := by
  have := tok_append cs [] q p
  rw [List.append_nil] at this
  rw [this]
  cases outS q p cs with
  | none => rfl
  | some x =>
    simp only [Option.bind_some, tokS]
    split <;> simp

/-- A character's bytes. -/
def encL (c : Int) : List UInt8 := (encB c).data.toList
/-- Pieces: literals side by side as one, places without a text. -/
def joinT : List UInt8 → List (Int × Int) → List (Int × List UInt8)
  | t, [] => if t = [] then [] else [(0, t)]
  | t, x :: r => if x.1 = 0 then joinT (t ++ encL x.2) r else (if t = [] then [] else [(0, t)]) ++ (x.1, []) :: joinT [] r

/-- How far a number's signs have been read. -/
structure NS where
  point : Bool
  since : Int
  group : Int
  commas : Int
  whole : Int
  zeros : Int
  minF : Int
  maxF : Int
deriving DecidableEq
def numS : NS → List Int → Option NS
  | n, [] => some n
  | n, c :: r =>
    if c = 46 then (if n.point = true ∨ n.whole = 0 ∨ (0 < n.commas ∧ n.since = 0) then none else numS { n with point := true } r)
    else if n.point = true then (if c = 44 ∨ (c = 48 ∧ n.minF < n.maxF) then none else numS { n with maxF := n.maxF + 1, minF := if c = 48 then n.minF + 1 else n.minF } r)
    else if c = 44 then (if n.since = 0 then none else numS { n with group := n.since, since := 0, commas := n.commas + 1 } r)
    else if c = 35 ∧ 0 < n.zeros then none
    else numS { n with zeros := if c = 48 then n.zeros + 1 else n.zeros, whole := n.whole + 1, since := n.since + 1 } r
def ns0 : NS := ⟨false, 0, 0, 0, 0, 0, 0, 0⟩
/-- What a number says: Primary, Secondary, MinInt, MinFrac, MaxFrac; whether it is too long. -/
structure Nm where
  pr : Int
  se : Int
  mi : Int
  mf : Int
  xf : Int
  long : Bool
deriving DecidableEq
def numE (n : NS) : Option Nm :=
  if n.whole = 0 ∨ n.since = 0 ∨ (n.point = true ∧ n.maxF = 0) then none
  else some ⟨if 0 < n.commas then n.since else 0, if 1 < n.commas then n.group else if 0 < n.commas then n.since else 0, n.zeros, n.minF, n.maxF, decide (64 < n.whole ∨ 64 < n.maxF)⟩
def num (cs : List Int) : Option Nm := (numS ns0 cs).bind numE

abbrev Pc := Int × List UInt8
structure Hf where
  pre : List Pc
  suf : List Pc
  nm : Nm
deriving DecidableEq
def isN (x : Int × Int) : Bool := x.1 == 4
def half (l : List (Int × Int)) : Option Hf :=
  let r := l.dropWhile fun x => !isN x
  let s := r.dropWhile isN
  if s.any isN = true then none
  else (num ((r.takeWhile isN).map (·.2))).map fun n => ⟨joinT [] (l.takeWhile fun x => !isN x), joinT [] s, n⟩

structure Pat where
  pre : List Pc
  suf : List Pc
  npre : List Pc
  nsuf : List Pc
  pr : Int
  se : Int
  mi : Int
  mf : Int
  xf : Int
deriving DecidableEq
def pat0 : Pat := ⟨[], [], [], [], 0, 0, 0, 0, 0⟩
def isD (x : Int × Int) : Bool := x.1 == 5
def mkP (h : Hf) (np ns : List Pc) : Pat := ⟨h.pre, h.suf, np, ns, h.nm.pr, h.nm.se, h.nm.mi, h.nm.mf, h.nm.xf⟩
/-- The pattern of tokens, and the error. -/
def parseT (l : List (Int × Int)) : Pat × Int :=
  match half (l.takeWhile fun x => !isD x) with
  | none => (pat0, 2)
  | some h =>
    match l.dropWhile fun x => !isD x with
    | [] => if h.nm.long = true then (pat0, 3) else (mkP h ((3, []) :: h.pre) h.suf, 0)
    | _ :: r =>
      if r.any isD = true then (pat0, 2)
      else match half r with
        | none => (pat0, 2)
        | some k => if (h.nm.long || k.nm.long) = true then (pat0, 3) else (mkP h k.pre k.suf, 0)
def parseC (cs : List Int) : Pat × Int := match tkn cs with
  | none => (pat0, 2)
  | some l => parseT l

/-! ### texts that are made of any -/
/-- The ten signs, as characters. -/
def sgn : List (List Int) := [[97], [164], [37], [45], [39, 35, 39], [39, 39], [160], [101, 769], [39, 46, 59, 39], [120, 39, 121, 39]]
def sgL (l : List Int) : List Int := (l.take 5).flatMap fun n => sgn.getD (around n 10).toNat []
/-- A number's signs ahead of the point, counted down from i. -/
def whl (n zeros p q : Int) : Nat → List Int
  | 0 => []
  | i + 1 => (if (i + 1 : Int) < n ∧ ((i + 1 : Int) = p ∨ (0 < p ∧ 0 < q ∧ (i + 1 : Int) = p + q)) then [44] else []) ++ (if (i + 1 : Int) ≤ zeros then 48 else 35) :: whl n zeros p q i
def nmT (zeros p q a b : Nat) : List Int :=
  let n : Nat := max zeros (p + q + 1)
  whl n zeros p q n ++ (if 0 < a + b then 46 :: ([48, 48, 48].take a ++ [35, 35, 35].take b) else [])

/-- Signs that begin and end outside a quotation: none of them is a number sign, none divides. -/
def okT (l : List (Int × Int)) : Prop := ∀ x ∈ l, 0 ≤ x.1 ∧ x.1 ≤ 3
theorem sgn_out : ∀ i, i < 10 → ∀ b : Bool, ∃ l c, outS b b (sgn.getD i []) = some (l, c, c) ∧ okT l := by
  intro i hi b
  have h : ∀ i, i < 10 → ∀ b : Bool, (match outS b b (sgn.getD i []) with | none => false | some (l, c, d) => (c == d) && l.all fun x => decide (0 ≤ x.1 ∧ x.1 ≤ 3)) = true := by decide +kernel
  have := h i hi b
  cases ho : outS b b (sgn.getD i []) with
  | none => rw [ho] at this; cases this
  | some x =>
    obtain ⟨l, c, d⟩ := x
    rw [ho] at this
    simp only [Bool.and_eq_true, beq_iff_eq, List.all_eq_true, decide_eq_true_eq] at this
    exact ⟨l, c, by rw [this.1], this.2⟩
theorem flat_out (ls : List (List Int)) (h : ∀ s ∈ ls, ∀ b : Bool, ∃ l c, outS b b s = some (l, c, c) ∧ okT l) : ∀ b : Bool, ∃ l c, outS b b ls.flatten = some (l, c, c) ∧ okT l := by
  induction ls with
  | nil => intro b; exact ⟨[], b, rfl, fun x hx => absurd hx List.not_mem_nil⟩
  | cons s r ih =>
    intro b
    obtain ⟨l1, c1, h1, k1⟩ := h s List.mem_cons_self b
    obtain ⟨l2, c2, h2, k2⟩ := ih (fun t ht => h t (List.mem_cons_of_mem _ ht)) c1
    refine ⟨l1 ++ l2, c2, ?_, fun x hx => ?_⟩
    · rw [List.flatten_cons, out_append, h1]
      simp [h2]
    · rcases List.mem_append.1 hx with hx | hx
      · exact k1 x hx
      · exact k2 x hx
theorem sgL_out (l : List Int) (b : Bool) : ∃ t c, outS b b (sgL l) = some (t, c, c) ∧ okT t := by
  unfold sgL
  rw [List.flatMap_def]
  refine flat_out _ (fun s hs => ?_) b
  obtain ⟨n, _, rfl⟩ := List.mem_map.1 hs
  have := around_bd n 10 (by omega)
  exact sgn_out _ (by omega)

end Pt
end Go.Proofs.Ytglljkbpdbnhaaa
