/- Records and locales: the mathematics. -/
import Derived.Test.YtglljkbpdbnhaaaGreatDoorMB
import Derived.Test.YtglljkbpdbnhaaaGreatDoorMBS
import Derived.Test.YtglljkbpdbnhaaaGreatDoorMBP
set_option linter.unusedVariables false
set_option linter.unusedSimpArgs false
namespace Go.Proofs.YtglljkbpdbnhaaaGreatDoor
namespace Lm

abbrev By := List UInt8
/-- Bytes as a text. -/
def bs (l : By) : ByteArray := ⟨l.toArray⟩
theorem bs_list (l : By) : (bs l).data.toList = l := by unfold bs; simp
theorem bs_size (l : By) : (bs l).size = l.length := by unfold bs; simp [ByteArray.size]
/-- A record. -/
structure Rec where
  nam : By
  pat : By
  sys : By
  dec : By
  grp : By
  min : By
  per : By
  cur : By
/-- What a word is, what a symbol. -/
def wordB (l : By) : Bool := decide (l.length ≤ 16) && (Um.okL l && Cm.plainB (Um.allL l))
def symB (l : By) : Bool := wordB l && Gm.oneB l
/-- A piece's text, an affix's. -/
def ptx (r : Rec) (x : Int × By) : By := if x.1 = 0 then x.2 else if x.1 = 1 then r.cur else if x.1 = 2 then r.per else []
def atx (r : Rec) (A : List (Int × By)) : By := A.flatMap (ptx r)
def affs (X : Pt.Pat) : List (List (Int × By)) := [X.pre, X.suf, X.npre, X.nsuf]
/-- How many pieces are of a kind. -/
def cnt (k : Int) (A : List (Int × By)) : Nat := A.countP fun x => x.1 == k
/-- The clusters of all affixes. -/
def clus (r : Rec) (X : Pt.Pat) : List ByteArray := (affs X).flatMap fun A => Gm.pcs (bs (atx r A))
/-- A digit's bytes; the symbols in their row. -/
def dgt (r : Rec) (d : Nat) : ByteArray := Sm.dgS (Sm.nz r.sys) d
def syms (r : Rec) : List ByteArray := [dgt r 0, dgt r 1, dgt r 2, dgt r 3, dgt r 4, dgt r 5, dgt r 6, dgt r 7, dgt r 8, dgt r 9, bs r.dec, bs r.grp, bs r.min]
/-- Where a text stands first. -/
def plc (x : ByteArray) : List ByteArray → Nat → Int
  | [], _ => -1
  | y :: r, k => if x = y then (k : Int) else plc x r (k + 1)
theorem plc_neg {x : ByteArray} (xs : List ByteArray) : ∀ k, (0 : Int) ≤ plc x xs k ↔ x ∈ xs := by
  induction xs with
  | nil => intro k; simp [plc]
  | cons y r ih =>
    intro k
    unfold plc
    by_cases h : x = y
    · rw [if_pos h]; simp [h]
    · rw [if_neg h, ih]; simp [h]
theorem plc_none {x : ByteArray} (xs : List ByteArray) : ∀ k, x ∉ xs → plc x xs k = -1 := by
  induction xs with
  | nil => intro k h; rfl
  | cons y r ih =>
    intro k h
    unfold plc
    rw [if_neg (fun e => h (by rw [e]; exact List.mem_cons_self)), ih _ (fun e => h (List.mem_cons_of_mem _ e))]
theorem plc_nodup (xs : List ByteArray) : ∀ k i (x : ByteArray), xs.Nodup → xs[i]? = some x → plc x xs k = ((k + i : Nat) : Int) := by
  induction xs with
  | nil => intro k i x _ h; simp at h
  | cons y r ih =>
    intro k i x hn h
    rw [List.nodup_cons] at hn
    unfold plc
    cases i with
    | zero =>
      simp at h
      rw [if_pos h.symm]; rfl
    | succ i =>
      rw [List.getElem?_cons_succ] at h
      have hm : x ∈ r := List.mem_of_getElem? h
      rw [if_neg (fun e => hn.1 (by rw [← e]; exact hm)), ih _ i x hn.2 h]
      congr 1; omega
/-- What a cluster is. -/
def sgn (r : Rec) (x : ByteArray) : Int := if x.size = 0 then -1 else plc x (syms r) 0

/-- A record that may be, of a pattern. -/
structure Ok (r : Rec) (X : Pt.Pat) : Prop where
  nam : ∀ b ∈ r.nam, (97 ≤ b.toNat ∧ b.toNat ≤ 122) ∨ (65 ≤ b.toNat ∧ b.toNat ≤ 90) ∨ b.toNat = 45
  nam1 : 1 ≤ r.nam.length ∧ r.nam.length ≤ 16
  sg : cnt 3 X.pre = 0 ∧ cnt 3 X.suf = 0 ∧ cnt 3 X.npre + cnt 3 X.nsuf = 1
  sys : 0 ≤ Sm.nz r.sys
  sysl : r.sys.length ≤ 16
  dec : symB r.dec = true
  min : symB r.min = true
  pr : 0 ≤ X.pr
  grp1 : 0 < X.pr → symB r.grp = true
  grp0 : ¬ 0 < X.pr → r.grp = []
  per : wordB r.per = true ∨ (r.per = [] ∧ ∀ A ∈ affs X, cnt 2 A = 0)
  cur : wordB r.cur = true ∨ (r.cur = [] ∧ ∀ A ∈ affs X, cnt 1 A = 0)
  aff : ∀ A ∈ affs X, A.length ≤ 10 ∧ ∀ x ∈ A, (0 ≤ x.1 ∧ x.1 ≤ 3) ∧ x.2.length ≤ 10 ∧ (x.1 = 0 → Cm.plainB (Um.allL x.2) = true) ∧ (x.1 ≠ 0 → x.2 = [])
  len : ∀ A ∈ affs X, (atx r A).length ≤ 64
  dis : (syms r).Nodup
  ne : ∀ i x, (syms r)[i]? = some x → i ≠ 11 → 0 < x.size
  cl : ∀ c ∈ clus r X, c ∉ syms r

def notin (x : ByteArray) (l : List ByteArray) : Bool := l.all fun y => decide (y ≠ x)
def isin (x : ByteArray) (l : List ByteArray) : Bool := l.any fun y => decide (y = x)
theorem of_notin {x : ByteArray} {l : List ByteArray} (h : notin x l = true) : x ∉ l := fun k => by
  have := List.all_eq_true.1 h x k
  simp at this
theorem of_isin {x : ByteArray} {l : List ByteArray} (h : isin x l = true) : x ∈ l := by
  obtain ⟨y, hy, he⟩ := List.any_eq_true.1 h
  exact of_decide_eq_true he ▸ hy
/-! ### the records made of numbers -/
def patC : List (List Int) := [[35, 44, 35, 35, 48, 46, 48, 48], [48, 46, 35, 35], [35, 44, 35, 35, 44, 35, 35, 48, 46, 35, 35, 35], [164, 35, 44, 35, 35, 48, 46, 48, 48], [35, 44, 35, 35, 48, 46, 48, 48, 120, 164], [164, 120, 35, 44, 35, 35, 48, 46, 48, 48, 59, 40, 164, 120, 45, 35, 41], [35, 44, 35, 35, 48, 37], [48, 46, 48, 59, 48, 46, 48, 45], [35, 44, 35, 35, 35, 48, 46, 48, 48, 121, 59, 121, 35, 44, 35, 35, 48, 46, 48, 48, 45, 121], [35, 44, 35, 35, 44, 35, 48, 46, 35, 59, 39, 35, 39, 35, 45, 39, 35, 39]]
def patB : List By := [[35, 44, 35, 35, 48, 46, 48, 48], [48, 46, 35, 35], [35, 44, 35, 35, 44, 35, 35, 48, 46, 35, 35, 35], [194, 164, 35, 44, 35, 35, 48, 46, 48, 48], [35, 44, 35, 35, 48, 46, 48, 48, 120, 194, 164], [194, 164, 120, 35, 44, 35, 35, 48, 46, 48, 48, 59, 40, 194, 164, 120, 45, 35, 41], [35, 44, 35, 35, 48, 37], [48, 46, 48, 59, 48, 46, 48, 45], [35, 44, 35, 35, 35, 48, 46, 48, 48, 121, 59, 121, 35, 44, 35, 35, 48, 46, 48, 48, 45, 121], [35, 44, 35, 35, 44, 35, 48, 46, 35, 59, 39, 35, 39, 35, 45, 39, 35, 39]]
def patX : List Pt.Pat := [⟨[], [], [(3, [])], [], 3, 3, 1, 2, 2⟩,
  ⟨[], [], [(3, [])], [], 0, 0, 1, 0, 2⟩,
  ⟨[], [], [(3, [])], [], 3, 2, 1, 0, 3⟩,
  ⟨[(1, [])], [], [(3, []), (1, [])], [], 3, 3, 1, 2, 2⟩,
  ⟨[], [(0, [120]), (1, [])], [(3, [])], [(0, [120]), (1, [])], 3, 3, 1, 2, 2⟩,
  ⟨[(1, []), (0, [120])], [], [(0, [40]), (1, []), (0, [120]), (3, [])], [(0, [41])], 3, 3, 1, 2, 2⟩,
  ⟨[], [(2, [])], [(3, [])], [(2, [])], 3, 3, 1, 0, 0⟩,
  ⟨[], [], [], [(3, [])], 0, 0, 1, 1, 1⟩,
  ⟨[], [(0, [121])], [(0, [121])], [(3, []), (0, [121])], 4, 4, 1, 2, 2⟩,
  ⟨[], [], [(0, [35])], [(3, []), (0, [35])], 2, 2, 1, 0, 1⟩]
def decL : List By := [[46], [44], [217, 171], [101, 204, 129]]
def minL : List By := [[45], [226, 136, 146], [226, 128, 144], [45, 204, 129]]
def perL : List By := [[37], [217, 170]]
def curL : List By := [[36], [226, 130, 172], [67, 72, 70], [107, 204, 129, 114]]
def grpL : List By := [[39], [194, 160], [226, 128, 175], [95], [46], [44]]
def eL : List ByteArray := [⟨#[36]⟩, ⟨#[226, 130, 172]⟩, ⟨#[67]⟩, ⟨#[72]⟩, ⟨#[70]⟩, ⟨#[107, 204, 129]⟩, ⟨#[114]⟩, ⟨#[120]⟩, ⟨#[40]⟩, ⟨#[41]⟩, ⟨#[37]⟩, ⟨#[217, 170]⟩, ⟨#[121]⟩, ⟨#[35]⟩]
def pX (p : Nat) : Pt.Pat := patX.getD p Pt.pat0
def grpAt (q d : Nat) : By := if grpL.getD q [] = decL.getD d [] then [32] else grpL.getD q []
def mk (s p d m u c q : Nat) : Rec := ⟨[120, 120], patB.getD p [], Sm.nmL.getD s [], decL.getD d [], if 0 < (pX p).pr then grpAt q d else [], minL.getD m [], perL.getD u [], curL.getD c []⟩
def liv : Rec := ⟨[101, 110], patB.getD 0 [], [108, 97, 116, 110], [46], [44], [45], [], []⟩

theorem f_pat : ∀ p, p < 10 → Um.joinL (patC.getD p []) = patB.getD p [] ∧ Pt.parseC (patC.getD p []) = (pX p, 0) ∧ (patC.getD p []).all (fun c => Um.vld c) = true := by decide +kernel
theorem f_aff : ∀ p, p < 10 → (affs (pX p)).all (fun A => decide (A.length ≤ 10) && A.all (fun x => decide (0 ≤ x.1 ∧ x.1 ≤ 3) && (decide (x.2.length ≤ 10) && ((x.1 != 0 || Cm.plainB (Um.allL x.2)) && (x.1 == 0 || x.2 == []))))) = true := by decide +kernel
theorem f_sg : ∀ p, p < 10 → cnt 3 (pX p).pre = 0 ∧ cnt 3 (pX p).suf = 0 ∧ cnt 3 (pX p).npre + cnt 3 (pX p).nsuf = 1 ∧ 0 ≤ (pX p).pr := by decide +kernel
theorem f_sys : ∀ s, s < 20 → 0 ≤ Sm.nz (Sm.nmL.getD s []) ∧ (Sm.nmL.getD s []).length ≤ 16 := by decide +kernel
theorem f_dec : ∀ d, d < 4 → symB (decL.getD d []) = true := by decide +kernel
theorem f_min : ∀ d, d < 4 → symB (minL.getD d []) = true := by decide +kernel
theorem f_grp : ∀ q, q < 6 → ∀ d, d < 4 → symB (grpAt q d) = true := by decide +kernel
theorem f_per : ∀ u, u < 2 → wordB (perL.getD u []) = true := by decide +kernel
theorem f_cur : ∀ u, u < 4 → wordB (curL.getD u []) = true := by decide +kernel
def atxC (p u c : Nat) (A : List (Int × By)) : By := A.flatMap fun x => if x.1 = 0 then x.2 else if x.1 = 1 then curL.getD c [] else if x.1 = 2 then perL.getD u [] else []
theorem f_len : ∀ p, p < 10 → ∀ u, u < 2 → ∀ c, c < 4 → (affs (pX p)).all (fun A => decide ((atxC p u c A).length ≤ 64)) = true := by decide +kernel
theorem f_clus : ∀ p, p < 10 → ∀ u, u < 2 → ∀ c, c < 4 → (affs (pX p)).all (fun A => (Gm.pcs (bs (atxC p u c A))).all fun x => isin x eL) = true := by decide +kernel
def digs (s : Nat) : List ByteArray := (List.range 10).map fun d : Nat => Sm.dgS (Sm.nz (Sm.nmL.getD s [])) (d : Int)
def others : List ByteArray := (decL ++ minL ++ grpL ++ [[32]]).map bs
theorem f_eD : ∀ s, s < 20 → eL.all (fun x => notin x (digs s)) = true := by decide +kernel
theorem f_eO : eL.all (fun x => decide (0 < x.size) && notin x others) = true := by decide +kernel
theorem f_dd : ∀ s, s < 20 → (digs s).Nodup := by decide +kernel
theorem f_dn : ∀ s, s < 20 → (digs s).all (fun x => decide (0 < x.size) && notin x others) = true := by decide +kernel
theorem f_on : others.all (fun x => decide (0 < x.size)) = true := by decide +kernel
theorem f_dm : ∀ d, d < 4 → ∀ m, m < 4 → bs (decL.getD d []) ≠ bs (minL.getD m []) := by decide +kernel
theorem f_dg : ∀ d, d < 4 → ∀ q, q < 6 → bs (decL.getD d []) ≠ bs (grpAt q d) := by decide +kernel
theorem f_gm : ∀ d, d < 4 → ∀ q, q < 6 → ∀ m, m < 4 → bs (grpAt q d) ≠ bs (minL.getD m []) := by decide +kernel

theorem f_othB : (∀ d, d < 4 → isin (bs (decL.getD d [])) others = true) ∧ (∀ m, m < 4 → isin (bs (minL.getD m [])) others = true) ∧ (∀ q, q < 6 → ∀ d, d < 4 → isin (bs (grpAt q d)) others = true) := by decide +kernel
theorem f_oth : (∀ d, d < 4 → bs (decL.getD d []) ∈ others) ∧ (∀ m, m < 4 → bs (minL.getD m []) ∈ others) ∧ (∀ q, q < 6 → ∀ d, d < 4 → bs (grpAt q d) ∈ others) :=
  ⟨fun d h => of_isin (f_othB.1 d h), fun d h => of_isin (f_othB.2.1 d h), fun q h d k => of_isin (f_othB.2.2 q h d k)⟩
theorem nod3 {D : List ByteArray} {x y z : ByteArray} (hD : D.Nodup) (hx : x ∉ D) (hy : y ∉ D) (hz : z ∉ D) (h1 : x ≠ y) (h2 : x ≠ z) (h3 : y ≠ z) : (D ++ [x, y, z]).Nodup := by
  rw [List.nodup_append]
  refine ⟨hD, by simp [h1, h2, h3], fun a ha b hb e => ?_⟩
  subst e
  simp only [List.mem_cons, List.not_mem_nil, or_false] at hb
  rcases hb with rfl | rfl | rfl
  · exact hx ha
  · exact hy ha
  · exact hz ha
theorem dig_mem {s : Nat} (hs : s < 20) {x : ByteArray} (h : x ∈ digs s) : 0 < x.size ∧ x ∉ others := by
  have h1 := List.all_eq_true.1 (f_dn s hs) x h
  simp only [Bool.and_eq_true, decide_eq_true_eq] at h1
  exact ⟨h1.1, of_notin h1.2⟩
theorem oth_size {x : ByteArray} (h : x ∈ others) : 0 < x.size := by
  have h1 := List.all_eq_true.1 f_on x h
  simpa using h1
theorem oth_dig {s : Nat} (hs : s < 20) {x : ByteArray} (h : x ∈ others) : x ∉ digs s := fun k => (dig_mem hs k).2 h
theorem emp_dig {s : Nat} (hs : s < 20) : bs [] ∉ digs s := fun k => by have := (dig_mem hs k).1; rw [bs_size] at this; simp at this
theorem e_mem {s : Nat} (hs : s < 20) {x : ByteArray} (h : x ∈ eL) : 0 < x.size ∧ x ∉ others ∧ x ∉ digs s := by
  have h1 := List.all_eq_true.1 f_eO x h
  have h2 := List.all_eq_true.1 (f_eD s hs) x h
  simp only [Bool.and_eq_true, decide_eq_true_eq] at h1
  exact ⟨h1.1, of_notin h1.2, of_notin h2⟩
/-- Symbols of a system, a decimal point, a group or none, and a minus. -/
def sy (s d m : Nat) (g : By) : List ByteArray := digs s ++ [bs (decL.getD d []), bs g, bs (minL.getD m [])]
theorem syms_mk (s p d m u c q : Nat) : syms (mk s p d m u c q) = sy s d m (mk s p d m u c q).grp := rfl
def IsG (d : Nat) (g : By) : Prop := g = [] ∨ ∃ q, q < 6 ∧ g = grpAt q d
theorem sy_nodup {s d m : Nat} {g : By} (hs : s < 20) (hd : d < 4) (hm : m < 4) (hg : IsG d g) : (sy s d m g).Nodup := by
  have o1 := f_oth.1 d hd
  have o2 := f_oth.2.1 m hm
  have z1 := oth_size o1
  have z2 := oth_size o2
  rcases hg with rfl | ⟨q, hq, rfl⟩
  · refine nod3 (f_dd s hs) (oth_dig hs o1) (emp_dig hs) (oth_dig hs o2) (fun e => ?_) (f_dm d hd m hm) (fun e => ?_)
    · rw [e, bs_size] at z1; simp at z1
    · rw [← e, bs_size] at z2; simp at z2
  · have o3 := f_oth.2.2 q hq d hd
    exact nod3 (f_dd s hs) (oth_dig hs o1) (oth_dig hs o3) (oth_dig hs o2) (f_dg d hd q hq) (f_dm d hd m hm) (f_gm d hd q hq m hm)
theorem sy_ne {s d m : Nat} {g : By} (hs : s < 20) (hd : d < 4) (hm : m < 4) (i : Nat) (x : ByteArray) (h : (sy s d m g)[i]? = some x) (h11 : i ≠ 11) : 0 < x.size := by
  have hl : (digs s).length = 10 := by unfold digs; simp
  unfold sy at h
  by_cases hi : i < 10
  · rw [List.getElem?_append_left (by omega)] at h
    exact (dig_mem hs (List.mem_of_getElem? h)).1
  · rw [List.getElem?_append_right (by omega), hl] at h
    obtain ⟨j, hj⟩ : ∃ j, j = i - 10 := ⟨_, rfl⟩
    rw [← hj] at h
    match j, hj, h with
    | 0, _, h => simp at h; subst h; exact oth_size (f_oth.1 d hd)
    | 1, hj, _ => omega
    | 2, _, h => simp at h; subst h; exact oth_size (f_oth.2.1 m hm)
    | k + 3, _, h => simp at h
theorem sy_e {s d m : Nat} {g : By} (hs : s < 20) (hd : d < 4) (hm : m < 4) (hg : IsG d g) {x : ByteArray} (h : x ∈ eL) : x ∉ sy s d m g := by
  obtain ⟨h1, h2, h3⟩ := e_mem hs h
  unfold sy
  intro k
  rcases List.mem_append.1 k with k | k
  · exact h3 k
  · simp only [List.mem_cons, List.not_mem_nil, or_false] at k
    rcases k with rfl | rfl | rfl
    · exact h2 (f_oth.1 d hd)
    · rcases hg with rfl | ⟨q, hq, rfl⟩
      · rw [bs_size] at h1; simp at h1
      · exact h2 (f_oth.2.2 q hq d hd)
    · exact h2 (f_oth.2.1 m hm)
theorem aff_of {p : Nat} (hp : p < 10) : ∀ A ∈ affs (pX p), A.length ≤ 10 ∧ ∀ x ∈ A, (0 ≤ x.1 ∧ x.1 ≤ 3) ∧ x.2.length ≤ 10 ∧ (x.1 = 0 → Cm.plainB (Um.allL x.2) = true) ∧ (x.1 ≠ 0 → x.2 = []) := by
  intro A hA
  have h := List.all_eq_true.1 (f_aff p hp) A hA
  simp only [Bool.and_eq_true, decide_eq_true_eq, List.all_eq_true, Bool.or_eq_true, bne_iff_ne, ne_eq, beq_iff_eq] at h
  refine ⟨h.1, fun x hx => ?_⟩
  obtain ⟨h1, h2, h3, h4⟩ := h.2 x hx
  exact ⟨h1, h2, fun e => h3.resolve_left (fun n => n e), fun e => h4.resolve_left e⟩
theorem mk_isG {s p d m u c q : Nat} (hq : q < 6) : IsG d (mk s p d m u c q).grp := by
  show IsG d (if 0 < (pX p).pr then grpAt q d else [])
  split
  · exact .inr ⟨q, hq, rfl⟩
  · exact .inl rfl
theorem mk_ok {s p d m u c q : Nat} (hs : s < 20) (hp : p < 10) (hd : d < 4) (hm : m < 4) (hu : u < 2) (hc : c < 4) (hq : q < 6) : Ok (mk s p d m u c q) (pX p) where
  nam := (by decide : ∀ b ∈ ([120, 120] : By), (97 ≤ b.toNat ∧ b.toNat ≤ 122) ∨ (65 ≤ b.toNat ∧ b.toNat ≤ 90) ∨ b.toNat = 45)
  nam1 := (by decide : 1 ≤ ([120, 120] : By).length ∧ ([120, 120] : By).length ≤ 16)
  sg := ⟨(f_sg p hp).1, (f_sg p hp).2.1, (f_sg p hp).2.2.1⟩
  sys := (f_sys s hs).1
  sysl := (f_sys s hs).2
  dec := f_dec d hd
  min := f_min m hm
  pr := (f_sg p hp).2.2.2
  grp1 := fun h => by show symB (if 0 < (pX p).pr then grpAt q d else []) = true; rw [if_pos h]; exact f_grp q hq d hd
  grp0 := fun h => by show (if 0 < (pX p).pr then grpAt q d else []) = []; rw [if_neg h]
  per := .inl (f_per u hu)
  cur := .inl (f_cur c hc)
  aff := aff_of hp
  len := fun A hA => by have h := List.all_eq_true.1 (f_len p hp u hu c hc) A hA; exact of_decide_eq_true h
  dis := sy_nodup hs hd hm (mk_isG hq)
  ne := fun i x h h11 => sy_ne hs hd hm i x h h11
  cl := fun x hx => by
    refine sy_e hs hd hm (mk_isG hq) ?_
    unfold clus at hx
    obtain ⟨A, hA, hxA⟩ := List.mem_flatMap.1 hx
    exact of_isin (List.all_eq_true.1 (List.all_eq_true.1 (f_clus p hp u hu c hc) A hA) x hxA)
theorem liv_cl : ∀ A ∈ affs (pX 0), Gm.pcs (bs (atx liv A)) = [] := by decide +kernel
theorem liv_len : ∀ A ∈ affs (pX 0), (atx liv A).length ≤ 64 := by decide +kernel
theorem liv_g : liv.grp = grpAt 5 0 := by decide +kernel
theorem liv_syms : syms liv = sy 10 0 0 liv.grp := by decide +kernel
theorem liv_nz : 0 ≤ Sm.nz liv.sys ∧ liv.sys.length ≤ 16 := by decide +kernel
theorem liv_s : symB liv.dec = true ∧ symB liv.min = true ∧ symB liv.grp = true := by decide +kernel
theorem liv_k : (∀ A ∈ affs (pX 0), cnt 2 A = 0) ∧ (∀ A ∈ affs (pX 0), cnt 1 A = 0) := by decide +kernel
theorem liv_ok : Ok liv (pX 0) where
  nam := (by decide : ∀ b ∈ ([101, 110] : By), (97 ≤ b.toNat ∧ b.toNat ≤ 122) ∨ (65 ≤ b.toNat ∧ b.toNat ≤ 90) ∨ b.toNat = 45)
  nam1 := (by decide : 1 ≤ ([101, 110] : By).length ∧ ([101, 110] : By).length ≤ 16)
  sg := ⟨(f_sg 0 (by omega)).1, (f_sg 0 (by omega)).2.1, (f_sg 0 (by omega)).2.2.1⟩
  sys := liv_nz.1
  sysl := liv_nz.2
  dec := liv_s.1
  min := liv_s.2.1
  pr := (f_sg 0 (by omega)).2.2.2
  grp1 := fun _ => liv_s.2.2
  grp0 := fun h => absurd (show 0 < (pX 0).pr by decide) h
  per := .inr ⟨rfl, liv_k.1⟩
  cur := .inr ⟨rfl, liv_k.2⟩
  aff := aff_of (by omega)
  len := liv_len
  dis := by rw [liv_syms]; exact sy_nodup (by omega) (by omega) (by omega) (.inr ⟨5, by omega, liv_g⟩)
  ne := fun i x h h11 => by rw [liv_syms] at h; exact sy_ne (by omega) (by omega) (by omega) i x h h11
  cl := fun x hx => by
    unfold clus at hx
    obtain ⟨A, hA, hxA⟩ := List.mem_flatMap.1 hx
    rw [liv_cl A hA] at hxA
    simp at hxA
end Lm
end Go.Proofs.YtglljkbpdbnhaaaGreatDoor
