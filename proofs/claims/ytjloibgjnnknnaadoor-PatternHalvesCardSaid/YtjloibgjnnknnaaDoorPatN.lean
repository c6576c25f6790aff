/- Patterns of numbers, as plain mathematics: a pattern of one half and that with its minus behind; long numbers; a literal of whatever signs. -/
import Derived.Test.YtjloibgjnnknnaaDoorRows
import Derived.Test.YtjloibgjnnknnaaDoorUtfM
import Derived.Test.YtjloibgjnnknnaaDoorPatM
set_option linter.unusedVariables false
set_option linter.unusedSimpArgs false
namespace Go.Proofs.YtjloibgjnnknnaaDoor
namespace Pt
open Um

/-! ### numbers made of any -/
def nmB (c : Int) : Bool := c == 35 || c == 48 || c == 44 || c == 46
theorem nmB_kind {c : Int} (h : nmB c = true) : c ≠ 39 ∧ kindC c = 4 := by
  simp only [nmB, Bool.or_eq_true, beq_iff_eq] at h
  rcases h with ((rfl | rfl) | rfl) | rfl <;> decide
set_option maxRecDepth 100000 in
theorem nmT_all : ∀ z, z < 7 → ∀ p, p < 5 → ∀ q, q < 5 → ∀ a, a < 4 → ∀ b, b < 4 →
    ((match num (nmT z p q a b) with | none => false | some n => !n.long) && (nmT z p q a b).all nmB && decide (1 ≤ (nmT z p q a b).length ∧ (nmT z p q a b).length ≤ 20)) = true := by decide +kernel
theorem nmT_ok {z p q a b : Nat} (hz : z < 7) (hp : p < 5) (hq : q < 5) (ha : a < 4) (hb : b < 4) :
    (∃ n, num (nmT z p q a b) = some n ∧ n.long = false) ∧ (∀ c ∈ nmT z p q a b, nmB c = true) ∧ 1 ≤ (nmT z p q a b).length ∧ (nmT z p q a b).length ≤ 20 := by
  have h := nmT_all z hz p hp q hq a ha b hb
  simp only [Bool.and_eq_true, List.all_eq_true, decide_eq_true_eq] at h
  refine ⟨?_, h.1.2, h.2⟩
  have h1 := h.1.1
  cases hn : num (nmT z p q a b) with
  | none => rw [hn] at h1; cases h1
  | some n => rw [hn] at h1; exact ⟨n, rfl, by simpa using h1⟩

theorem sign_out (ns : List Int) (h : ∀ c ∈ ns, nmB c = true) : outS false false ns = some (ns.map fun c => (4, c), false, false) := by
  induction ns with
  | nil => rfl
  | cons c r ih =>
    obtain ⟨h1, h2⟩ := nmB_kind (h c List.mem_cons_self)
    rw [outS_cons, if_neg h1, if_neg (by simp), h2, if_neg (by decide), ih fun d hd => h d (List.mem_cons_of_mem _ hd)]
    rfl
theorem signs_out (c : Bool) (ns : List Int) (h : ∀ c ∈ ns, nmB c = true) (hn : 1 ≤ ns.length) : outS c c ns = some (ns.map fun c => (4, c), false, false) := by
  cases ns with
  | nil => simp at hn
  | cons d r =>
    obtain ⟨h1, h2⟩ := nmB_kind (h d List.mem_cons_self)
    rw [outS_cons, if_neg h1, if_neg (by simp), h2, if_neg (by decide), sign_out r fun d hd => h d (List.mem_cons_of_mem _ hd)]
    rfl

/-- A half's tokens. -/
structure Hv (P N S : List (Int × Int)) : Prop where
  p : okT P
  s : okT S
  n : ∀ x ∈ N, x.1 = 4
theorem okT_isN {l : List (Int × Int)} (h : okT l) : ∀ x ∈ l, isN x = false := fun x hx => by
  have := h x hx
  unfold isN
  rw [beq_eq_false_iff_ne]; omega
theorem okT_isD {l : List (Int × Int)} (h : okT l) : ∀ x ∈ l, isD x = false := fun x hx => by
  have := h x hx
  unfold isD
  rw [beq_eq_false_iff_ne]; omega
theorem tw_all {α : Type} {f : α → Bool} {a b : List α} (h : ∀ x ∈ a, f x = true) : (a ++ b).takeWhile f = a ++ b.takeWhile f ∧ (a ++ b).dropWhile f = b.dropWhile f := by
  induction a with
  | nil => exact ⟨rfl, rfl⟩
  | cons x r ih =>
    have hx := h x List.mem_cons_self
    have := ih fun y hy => h y (List.mem_cons_of_mem _ hy)
    simp [List.takeWhile_cons, List.dropWhile_cons, hx, this]
theorem tw_no {α : Type} {f : α → Bool} {a : List α} (h : ∀ x ∈ a, f x = false) : a.takeWhile f = [] ∧ a.dropWhile f = a := by
  cases a with
  | nil => exact ⟨rfl, rfl⟩
  | cons x r => simp [List.takeWhile_cons, List.dropWhile_cons, h x List.mem_cons_self]
theorem half_of {P N S : List (Int × Int)} (h : Hv P N S) (hN : 1 ≤ N.length) : half (P ++ N ++ S) = (num (N.map (·.2))).map fun n => ⟨joinT [] P, joinT [] S, n⟩ := by
  have e1 := tw_all (f := fun x => !isN x) (a := P) (b := N ++ S) fun x hx => by rw [okT_isN h.p x hx]; rfl
  have hNn : ∀ x ∈ N, isN x = true := fun x hx => by unfold isN; rw [h.n x hx]; rfl
  have e2 : (N ++ S).takeWhile (fun x => !isN x) = [] ∧ (N ++ S).dropWhile (fun x => !isN x) = N ++ S := by
    cases N with
    | nil => simp at hN
    | cons x r => simp [List.takeWhile_cons, List.dropWhile_cons, hNn x List.mem_cons_self]
  have e3 := tw_all (f := isN) (a := N) (b := S) hNn
  have e4 := tw_no (f := isN) (okT_isN h.s)
  have e5 : S.any isN = false := by
    rw [List.any_eq_false]
    intro x hx; rw [okT_isN h.s x hx]; simp
  unfold half
  rw [List.append_assoc]
  simp only [e1, e2, e3, e4, e5, List.append_nil, Bool.false_eq_true, if_false]
theorem Hv.noD {P N S : List (Int × Int)} (h : Hv P N S) : ∀ x ∈ P ++ N ++ S, isD x = false := by
  intro x hx
  rcases List.mem_append.1 hx with hx | hx
  · rcases List.mem_append.1 hx with hx | hx
    · exact okT_isD h.p x hx
    · unfold isD; rw [h.n x hx]; rfl
  · exact okT_isD h.s x hx
theorem parse_one {P N S : List (Int × Int)} (h : Hv P N S) (hN : 1 ≤ N.length) {n : Nm} (hn : num (N.map (·.2)) = some n) (hl : n.long = false) :
    parseT (P ++ N ++ S) = (mkP ⟨joinT [] P, joinT [] S, n⟩ ((3, []) :: joinT [] P) (joinT [] S), 0) := by
  have hd := tw_all (f := fun x => !isD x) (a := P ++ N ++ S) (b := []) fun x hx => by rw [h.noD x hx]; rfl
  rw [List.append_nil] at hd
  unfold parseT
  rw [hd.1, hd.2]
  simp only [List.takeWhile_nil, List.dropWhile_nil, List.append_nil, half_of h hN, hn, Option.map_some, hl, Bool.false_eq_true, if_false]
theorem parse_two {P N S P' N' S' : List (Int × Int)} (h : Hv P N S) (hN : 1 ≤ N.length) {n : Nm} (hn : num (N.map (·.2)) = some n) (hl : n.long = false) (h' : Hv P' N' S') (hN' : 1 ≤ N'.length) {n' : Nm} (hn' : num (N'.map (·.2)) = some n') (hl' : n'.long = false) :
    parseT (P ++ N ++ S ++ (5, 59) :: (P' ++ N' ++ S')) = (mkP ⟨joinT [] P, joinT [] S, n⟩ (joinT [] P') (joinT [] S'), 0) := by
  have hd := tw_all (f := fun x => !isD x) (a := P ++ N ++ S) (b := (5, 59) :: (P' ++ N' ++ S')) fun x hx => by rw [h.noD x hx]; rfl
  have h5 : isD (5, 59) = true := rfl
  have ha : (P' ++ N' ++ S').any isD = false := by
    rw [List.any_eq_false]
    intro x hx; rw [h'.noD x hx]; simp
  unfold parseT
  rw [hd.1, hd.2]
  simp only [List.takeWhile_cons, List.dropWhile_cons, h5, Bool.not_true, Bool.false_eq_true, if_false, List.append_nil, half_of h hN, hn, Option.map_some, hl, ha, half_of h' hN', hn', hl', Bool.or_self]

/-- A half's text made of any. -/
def hfT (pre suf : List Int) (z p q a b : Nat) : List Int := sgL pre ++ nmT z p q a b ++ sgL suf
theorem hfT_out (pre suf : List Int) {z p q a b : Nat} (hz : z < 7) (hp : p < 5) (hq : q < 5) (ha : a < 4) (hb : b < 4) :
    ∃ P N S c, outS false false (hfT pre suf z p q a b) = some (P ++ N ++ S, c, c) ∧ Hv P N S ∧ N.map (·.2) = nmT z p q a b ∧ 1 ≤ N.length := by
  obtain ⟨_, h2, h3, _⟩ := nmT_ok hz hp hq ha hb
  obtain ⟨P, c1, h4, h5⟩ := sgL_out pre false
  obtain ⟨S, c2, h6, h7⟩ := sgL_out suf false
  refine ⟨P, (nmT z p q a b).map fun c => (4, c), S, c2, ?_, ⟨h5, h7, fun x hx => ?_⟩, ?_, by rw [List.length_map]; exact h3⟩
  · unfold hfT
    rw [out_append, out_append, h4]
    simp [signs_out c1 _ h2 h3, h6]
  · obtain ⟨d, _, rfl⟩ := List.mem_map.1 hx; rfl
  · rw [List.map_map]
    conv => rhs; rw [← List.map_id (nmT z p q a b)]
    rfl
/-- A pattern without a second half is that whose second half has a minus ahead of the prefix. -/
theorem halves (pre suf : List Int) {z p q a b : Nat} (hz : z < 7) (hp : p < 5) (hq : q < 5) (ha : a < 4) (hb : b < 4) :
    ∃ X : Pat, parseC (hfT pre suf z p q a b) = (X, 0) ∧ parseC (hfT pre suf z p q a b ++ 59 :: 45 :: hfT pre suf z p q a b) = (X, 0) ∧ X.npre = (3, []) :: X.pre := by
  obtain ⟨⟨n, hn, hl⟩, _⟩ := nmT_ok hz hp hq ha hb
  obtain ⟨P, N, S, c, ho, hv, hN, hN1⟩ := hfT_out pre suf hz hp hq ha hb
  rw [← hN] at hn
  have t1 : tkn (hfT pre suf z p q a b) = some (P ++ N ++ S) := by
    unfold tkn
    rw [tok_out, ho]; simp
  have hv' : Hv ((3, 45) :: P) N S := ⟨fun x hx => by
    rcases List.mem_cons.1 hx with rfl | hx
    · simp
    · exact hv.p x hx, hv.s, hv.n⟩
  have t2 : tkn (hfT pre suf z p q a b ++ 59 :: 45 :: hfT pre suf z p q a b) = some (P ++ N ++ S ++ (5, 59) :: ((3, 45) :: P ++ N ++ S)) := by
    unfold tkn
    rw [tok_append, ho]
    have e : tokS c c (59 :: 45 :: hfT pre suf z p q a b) = some ((5, 59) :: (3, 45) :: (P ++ N ++ S)) := by
      rw [tokS_cons, if_neg (by decide), if_neg (by simp), if_neg (by decide), tokS_cons, if_neg (by decide), if_neg (by decide), if_neg (by decide)]
      have := t1
      unfold tkn at this
      rw [this]; rfl
    simp [e]
  refine ⟨mkP ⟨joinT [] P, joinT [] S, n⟩ ((3, []) :: joinT [] P) (joinT [] S), ?_, ?_, rfl⟩
  · unfold parseC
    rw [t1]
    exact parse_one hv hN1 hn hl
  · unfold parseC
    rw [t2]
    have := parse_two hv hN1 hn hl hv' hN1 hn hl
    have ej : joinT [] ((3, 45) :: P) = (3, []) :: joinT [] P := rfl
    rw [ej] at this
    exact this

/-! ### long numbers -/
set_option maxRecDepth 100000 in
theorem longs : ∀ k, k < 10 → ∀ i, i < 4 →
    (parseC ([List.replicate (60 + k) 48, [48, 46] ++ List.replicate (60 + k) 48, [35, 59] ++ List.replicate (60 + k) 48, [35, 59, 48, 46] ++ List.replicate (60 + k) 48].getD i [])).2 = (if 4 < k then 3 else 0) ∧
    (parseC ([List.replicate (60 + k) 48, [48, 46] ++ List.replicate (60 + k) 48, [35, 59] ++ List.replicate (60 + k) 48, [35, 59, 48, 46] ++ List.replicate (60 + k) 48].getD i [] ++ [39])).2 = 2 := by decide +kernel

/-! ### a literal of whatever signs -/
/-- Each quote doubled. -/
def dbl (l : List Int) : List Int := l.flatMap fun c => if c = 39 then [39, 39] else [c]
def lit (l : List Int) : List (Int × Int) := l.map fun c => (0, c)
theorem dbl_cons (c : Int) (r : List Int) : dbl (c :: r) = (if c = 39 then [39, 39] else [c]) ++ dbl r := rfl
/-- Within a quotation that has had something else than quotes. -/
theorem dbl_in (l : List Int) : outS true false (dbl l) = some (lit l, true, false) := by
  induction l with
  | nil => rfl
  | cons c r ih =>
    rw [dbl_cons]
    by_cases h : c = 39
    · subst h
      rw [if_pos rfl]
      show outS true false (39 :: 39 :: dbl r) = _
      rw [outS_cons, if_pos rfl, if_neg (by decide), outS_cons, if_pos rfl, if_pos rfl, ih]; rfl
    · rw [if_neg h]
      show outS true false (c :: dbl r) = _
      rw [outS_cons, if_neg h, if_pos (by decide), ih]; rfl
/-- Behind the quote that begins one. -/
theorem dbl_first (l : List Int) (h : ∃ c ∈ l, c ≠ 39) : outS false true (dbl l) = some (lit l, true, false) := by
  induction l with
  | nil => obtain ⟨c, hc, _⟩ := h; cases hc
  | cons c r ih =>
    rw [dbl_cons]
    by_cases hc : c = 39
    · subst hc
      rw [if_pos rfl]
      show outS false true (39 :: 39 :: dbl r) = _
      have hr : ∃ c ∈ r, c ≠ 39 := by
        obtain ⟨d, hd, hn⟩ := h
        rcases List.mem_cons.1 hd with rfl | hd
        · exact absurd rfl hn
        · exact ⟨d, hd, hn⟩
      rw [outS_cons, if_pos rfl, if_pos rfl, outS_cons, if_pos rfl, if_neg (by decide), ih hr]; rfl
    · rw [if_neg hc]
      show outS false true (c :: dbl r) = _
      rw [outS_cons, if_neg hc, if_pos (by decide), dbl_in r]; rfl
/-- Of quotes alone. -/
theorem dbl_only (l : List Int) (h : ∀ c ∈ l, c = 39) : outS false false (dbl l) = some (lit l, false, false) := by
  induction l with
  | nil => rfl
  | cons c r ih =>
    obtain rfl := h c List.mem_cons_self
    rw [dbl_cons, if_pos rfl]
    show outS false false (39 :: 39 :: dbl r) = _
    rw [outS_cons, if_pos rfl, if_neg (by decide), outS_cons, if_pos rfl, if_pos rfl, ih fun c hc => h c (List.mem_cons_of_mem _ hc)]; rfl
/-- A run as it is printed. -/
def fl (r : List Int) : List Int := if r.all (· == 39) = true then dbl r else 39 :: dbl r ++ [39]
theorem fl_out (r : List Int) : ∃ b, outS false false (fl r) = some (lit r, b, b) := by
  unfold fl
  by_cases h : r.all (· == 39) = true
  · rw [if_pos h]
    refine ⟨false, dbl_only r fun c hc => ?_⟩
    have := List.all_eq_true.1 h c hc
    simpa using this
  · rw [if_neg h]
    have hx : ∃ c ∈ r, c ≠ 39 := by
      simp only [List.all_eq_true, beq_iff_eq, Classical.not_forall] at h
      obtain ⟨c, hc, hn⟩ := h
      exact ⟨c, hc, hn⟩
    refine ⟨true, ?_⟩
    rw [List.cons_append, outS_cons, if_pos rfl, if_neg (by decide), out_append, dbl_first r hx]
    simp [outS]
def spc (c : Int) : Bool := c == 39 || kindC c != 0
/-- A literal's text as it is printed. -/
def prS : List Int → List Int → List Int
  | run, [] => fl run
  | run, c :: r => if spc c = true then prS (run ++ [c]) r else fl run ++ c :: prS [] r
theorem prS_out (l : List Int) : ∀ run, ∃ b, outS false false (prS run l) = some (lit (run ++ l), b, b) := by
  induction l with
  | nil => intro run; rw [List.append_nil]; exact fl_out run
  | cons c r ih =>
    intro run
    unfold prS
    by_cases h : spc c = true
    · rw [if_pos h]
      obtain ⟨b, hb⟩ := ih (run ++ [c])
      exact ⟨b, by rw [hb, List.append_assoc]; rfl⟩
    · rw [if_neg h]
      have hk : c ≠ 39 ∧ kindC c = 0 := by simpa [spc] using h
      obtain ⟨b, hb⟩ := fl_out run
      obtain ⟨d, hd⟩ := ih []
      refine ⟨d, ?_⟩
      rw [out_append, hb]
      simp only [Option.bind_some]
      rw [outS_cons, if_neg hk.1, if_neg (by simp), hk.2, if_neg (by decide), hd]
      simp [lit]
theorem join_lit (l : List Int) : ∀ t, joinT t (lit l) = if t ++ l.flatMap encL = [] then [] else [(0, t ++ l.flatMap encL)] := by
  induction l with
  | nil => intro t; simp [lit, joinT]
  | cons c r ih =>
    intro t
    show (if (0 : Int) = 0 then joinT (t ++ encL c) (lit r) else _) = _
    rw [if_pos rfl, ih]
    simp [List.flatMap_cons]
theorem okT_lit (l : List Int) : okT (lit l) := fun x hx => by
  obtain ⟨c, _, rfl⟩ := List.mem_map.1 hx
  simp
def nm1 : Nm := ⟨0, 0, 0, 0, 0, false⟩
theorem num_one : num [35] = some nm1 := by decide +kernel
/-- A pattern that has a literal ahead, and one number sign. -/
def litP (l : List Int) : Pat := mkP ⟨joinT [] (lit l), [], nm1⟩ ((3, []) :: joinT [] (lit l)) []
theorem parse_lit {cs l : List Int} (h : ∃ b, outS false false cs = some (lit l, b, b)) : parseC (cs ++ [35]) = (litP l, 0) := by
  obtain ⟨b, hb⟩ := h
  have t1 : tkn (cs ++ [35]) = some (lit l ++ [(4, 35)] ++ []) := by
    unfold tkn
    rw [tok_append, hb]
    have : tokS b b [35] = some [(4, 35)] := by
      rw [tokS_cons, if_neg (by decide), if_neg (by simp), if_neg (by decide)]; rfl
    simp [this]
  unfold parseC
  rw [t1]
  exact parse_one (N := [(4, 35)]) ⟨okT_lit l, fun x hx => absurd hx List.not_mem_nil, fun x hx => by simp at hx; rw [hx]⟩ (by simp) num_one rfl
/-- A literal put between quotes. -/
theorem quoted (l : List Int) (h : ∃ c ∈ l, c ≠ 39) : parseC (39 :: dbl l ++ [39] ++ [35]) = (litP l, 0) := by
  refine parse_lit ⟨true, ?_⟩
  rw [List.cons_append, outS_cons, if_pos rfl, if_neg (by decide), out_append, dbl_first l h]
  simp [outS]
/-- What is printed of it is parsed as it was. -/
theorem printed (l : List Int) : parseC (prS [] l ++ [35]) = (litP l, 0) := parse_lit (prS_out l [])

end Pt
end Go.Proofs.YtjloibgjnnknnaaDoor
