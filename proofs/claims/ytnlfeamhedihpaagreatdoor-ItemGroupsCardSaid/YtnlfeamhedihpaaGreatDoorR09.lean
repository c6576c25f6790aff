/- What the program's small functions on patterns answer: need, meaning, special, plain, mark, keep, and what its questions of a sign answer. (and more) -/
import Derived.Test.YtnlfeamhedihpaaGreatDoorR00
import Derived.Test.YtnlfeamhedihpaaGreatDoorR02
import Derived.Test.YtnlfeamhedihpaaGreatDoorR03
import Derived.Test.YtnlfeamhedihpaaGreatDoorRows
import Derived.Test.YtnlfeamhedihpaaGreatDoorR04
import Derived.Test.YtnlfeamhedihpaaGreatDoorR05
import Derived.Test.YtnlfeamhedihpaaGreatDoorR01
import Derived.Deep.QuietTactic
import Derived.BigQuiet
import Derived.Shelf.Strings.Split
import Derived.Shelf.Strings.Cut
set_option linter.unusedVariables false
set_option linter.unusedSimpArgs false
namespace Go.Proofs.YtnlfeamhedihpaaGreatDoor
open Go.RowKit
namespace Pg
open Pt Um
abbrev form : List PanicEntry := [{ v := .iface 95 (.int .i64 2), recovered := false }]
abbrev range : List PanicEntry := [{ v := .iface 95 (.int .i64 3), recovered := false }]
theorem need_yes (w : World) : Calls Tryz.prog 117 #[.bool true] w fun e w' => e = .returned (.tuple #[]) ∧ w = w' := by
  go_enter Tryz.func117, Tryz.ntmps117
  go_wp2
  go_end0
  exact ⟨rfl, rfl⟩
theorem need_no (w : World) : Calls Tryz.prog 117 #[.bool false] w fun e w' => e = .panicked form ∧ w = w' := by
  go_enter Tryz.func117, Tryz.ntmps117
  go_wp2
  exact ⟨rfl, rfl, rfl⟩
set_option maxHeartbeats 4000000 in
theorem meaning_any (c : Int) (w : World) : Calls Tryz.prog 148 #[.int .i64 c] w fun e w' => e = .returned (.int .i64 (kindC c)) ∧ w = w' := by
  obtain ⟨K, hK⟩ : ∃ K, K = kindC c := ⟨_, rfl⟩
  rw [← hK]
  unfold kindC at hK
  have HK := Lib.hid hK
  clear hK
  go_enter Tryz.func148, Tryz.ntmps148
  go_wp2
  all_goals
    have hK := HK.out
    go_ret
    first | (simp_all; done) | (simp_all; omega)
structure Nb where
  p : Int
  s : Int
  mi : Int
  xi : Int
  mf : Int
  xf : Int
deriving DecidableEq
@[reducible] def Nb.v (n : Nb) : Value := .agg #[.int .i64 n.p, .int .i64 n.s, .int .i64 n.mi, .int .i64 n.xi, .int .i64 n.mf, .int .i64 n.xf]
theorem keep_ok (p s mi xi mf xf : Int) (w : World) (h1 : xi ≤ 64) (h2 : xf ≤ 64) : Calls Tryz.prog 119 #[.agg #[.int .i64 p, .int .i64 s, .int .i64 mi, .int .i64 xi, .int .i64 mf, .int .i64 xf]] w fun e w' => e = .returned (.tuple #[]) ∧ Q w w' := by
  have hm : max xi xf ≤ 64 := by omega
  generalize hx : max xi xf = x at *
  have HX := Lib.hid hx
  go_enter Tryz.func119, Tryz.ntmps119
  go_wp2
  all_goals
    go_end0
    exact ⟨rfl, (Q.refl _).alloc _⟩
theorem keep_bad (p s mi xi mf xf : Int) (w : World) (h : 64 < xi ∨ 64 < xf) : Calls Tryz.prog 119 #[.agg #[.int .i64 p, .int .i64 s, .int .i64 mi, .int .i64 xi, .int .i64 mf, .int .i64 xf]] w fun e w' => e = .panicked range ∧ Q w w' := by
  have hm : 64 < max xi xf := by omega
  generalize hx : max xi xf = x at *
  have HX := Lib.hid hx
  clear h
  go_enter Tryz.func119, Tryz.ntmps119
  go_wp2
  all_goals exact ⟨rfl, rfl, (Q.refl _).alloc _⟩
theorem notD_any (k c : Int) (w : World) : Calls Tryz.prog 146 #[.agg #[.int .i64 k, .int .i64 c]] w fun e w' => e = .returned (.bool (!isD (k, c))) ∧ Q w w' := by
  have HF : Hid ((!isD (k, c)) = (k != 5)) := Lib.hid (by simp [isD, bne])
  generalize (!isD (k, c)) = r at *
  go_enter Tryz.func146, Tryz.ntmps146
  go_wp2
  go_ret
  rw [HF.out]
  exact ⟨rfl, (Q.refl _).alloc _⟩
theorem notN_any (k c : Int) (w : World) : Calls Tryz.prog 149 #[.agg #[.int .i64 k, .int .i64 c]] w fun e w' => e = .returned (.bool (!isN (k, c))) ∧ Q w w' := by
  have HF : Hid ((!isN (k, c)) = (k != 4)) := Lib.hid (by simp [isN, bne])
  generalize (!isN (k, c)) = r at *
  go_enter Tryz.func149, Tryz.ntmps149
  go_wp2
  go_ret
  rw [HF.out]
  exact ⟨rfl, (Q.refl _).alloc _⟩
theorem isN_any (k c : Int) (w : World) : Calls Tryz.prog 150 #[.agg #[.int .i64 k, .int .i64 c]] w fun e w' => e = .returned (.bool (isN (k, c))) ∧ Q w w' := by
  have HF : Hid (isN (k, c) = (k == 4)) := Lib.hid (by simp [isN])
  generalize isN (k, c) = r at *
  go_enter Tryz.func150, Tryz.ntmps150
  go_wp2
  go_ret
  rw [HF.out]
  exact ⟨rfl, (Q.refl _).alloc _⟩
def isL (x : Int × Int) : Bool := x.1 == 0
theorem isL_any (k c : Int) (w : World) : Calls Tryz.prog 165 #[.agg #[.int .i64 k, .int .i64 c]] w fun e w' => e = .returned (.bool (isL (k, c))) ∧ Q w w' := by
  have HF : Hid (isL (k, c) = (k == 0)) := Lib.hid (by simp [isL])
  generalize isL (k, c) = r at *
  go_enter Tryz.func165, Tryz.ntmps165
  go_wp2
  go_ret
  rw [HF.out]
  exact ⟨rfl, (Q.refl _).alloc _⟩
end Pg
end Go.Proofs.YtnlfeamhedihpaaGreatDoor
namespace Go.Proofs.YtnlfeamhedihpaaGreatDoor
namespace Lm
abbrev By := List UInt8
def bs (l : By) : ByteArray := ⟨l.toArray⟩
theorem bs_list (l : By) : (bs l).data.toList = l := by unfold bs; simp
theorem bs_size (l : By) : (bs l).size = l.length := by unfold bs; simp [ByteArray.size]
structure Rec where
  nam : By
  pat : By
  sys : By
  dec : By
  grp : By
  min : By
  per : By
  cur : By
def wordB (l : By) : Bool := decide (l.length ≤ 16) && (Um.okL l && Cm.plainB (Um.allL l))
def symB (l : By) : Bool := wordB l && Gm.oneB l
def ptx (r : Rec) (x : Int × By) : By := if x.1 = 0 then x.2 else if x.1 = 1 then r.cur else if x.1 = 2 then r.per else []
def atx (r : Rec) (A : List (Int × By)) : By := A.flatMap (ptx r)
def affs (X : Pt.Pat) : List (List (Int × By)) := [X.pre, X.suf, X.npre, X.nsuf]
def cnt (k : Int) (A : List (Int × By)) : Nat := A.countP fun x => x.1 == k
def clus (r : Rec) (X : Pt.Pat) : List ByteArray := (affs X).flatMap fun A => Gm.pcs (bs (atx r A))
def dgt (r : Rec) (d : Nat) : ByteArray := Sm.dgS (Sm.nz r.sys) d
def syms (r : Rec) : List ByteArray := [dgt r 0, dgt r 1, dgt r 2, dgt r 3, dgt r 4, dgt r 5, dgt r 6, dgt r 7, dgt r 8, dgt r 9, bs r.dec, bs r.grp, bs r.min]
def plc (x : ByteArray) : List ByteArray → Nat → Int
  | [], _ => -1
  | y :: r, k => if x = y then (k : Int) else plc x r (k + 1)
theorem plc_neg {x : ByteArray} (xs : List ByteArray) : ∀ k, (0 : Int) ≤ plc x xs k ↔ x ∈ xs := by
  induction xs with
  | nil => intro k; simp [plc]
  | cons y r ih =>
    intro k
    unfold plc
    by_cases h : x = y
    · rw [if_pos h]; simp [h]
    · rw [if_neg h, ih]; simp [h]
theorem plc_none {x : ByteArray} (xs : List ByteArray) : ∀ k, x ∉ xs → plc x xs k = -1 := by
  induction xs with
  | nil => intro k h; rfl
  | cons y r ih =>
    intro k h
    unfold plc
    rw [if_neg (fun e => h (by rw [e]; exact List.mem_cons_self)), ih _ (fun e => h (List.mem_cons_of_mem _ e))]
theorem plc_nodup (xs : List ByteArray) : ∀ k i (x : ByteArray), xs.Nodup → xs[i]? = some x → plc x xs k = ((k + i : Nat) : Int) := by
  induction xs with
  | nil => intro k i x _ h; simp at h
  | cons y r ih =>
    intro k i x hn h
    rw [List.nodup_cons] at hn
    unfold plc
    cases i with
    | zero =>
      simp at h
      rw [if_pos h.symm]; rfl
    | succ i =>
      rw [List.getElem?_cons_succ] at h
      have hm : x ∈ r := List.mem_of_getElem? h
      rw [if_neg (fun e => hn.1 (by rw [← e]; exact hm)), ih _ i x hn.2 h]
      congr 1; omega
def sgn (r : Rec) (x : ByteArray) : Int := if x.size = 0 then -1 else plc x (syms r) 0
structure Ok (r : Rec) (X : Pt.Pat) : Prop where
  nam : ∀ b ∈ r.nam, (97 ≤ b.toNat ∧ b.toNat ≤ 122) ∨ (65 ≤ b.toNat ∧ b.toNat ≤ 90) ∨ b.toNat = 45
  nam1 : 1 ≤ r.nam.length ∧ r.nam.length ≤ 16
  sg : cnt 3 X.pre = 0 ∧ cnt 3 X.suf = 0 ∧ cnt 3 X.npre + cnt 3 X.nsuf = 1
  sys : 0 ≤ Sm.nz r.sys
  sysl : r.sys.length ≤ 16
  dec : symB r.dec = true
  min : symB r.min = true
  pr : 0 ≤ X.pr
  grp1 : 0 < X.pr → symB r.grp = true
  grp0 : ¬ 0 < X.pr → r.grp = []
  per : wordB r.per = true ∨ (r.per = [] ∧ ∀ A ∈ affs X, cnt 2 A = 0)
  cur : wordB r.cur = true ∨ (r.cur = [] ∧ ∀ A ∈ affs X, cnt 1 A = 0)
  aff : ∀ A ∈ affs X, A.length ≤ 10 ∧ ∀ x ∈ A, (0 ≤ x.1 ∧ x.1 ≤ 3) ∧ x.2.length ≤ 10 ∧ (x.1 = 0 → Cm.plainB (Um.allL x.2) = true) ∧ (x.1 ≠ 0 → x.2 = [])
  len : ∀ A ∈ affs X, (atx r A).length ≤ 64
  dis : (syms r).Nodup
  ne : ∀ i x, (syms r)[i]? = some x → i ≠ 11 → 0 < x.size
  cl : ∀ c ∈ clus r X, c ∉ syms r
def notin (x : ByteArray) (l : List ByteArray) : Bool := l.all fun y => decide (y ≠ x)
def isin (x : ByteArray) (l : List ByteArray) : Bool := l.any fun y => decide (y = x)
theorem of_notin {x : ByteArray} {l : List ByteArray} (h : notin x l = true) : x ∉ l := fun k => by
  have := List.all_eq_true.1 h x k
  simp at this
theorem of_isin {x : ByteArray} {l : List ByteArray} (h : isin x l = true) : x ∈ l := by
  obtain ⟨y, hy, he⟩ := List.any_eq_true.1 h
  exact of_decide_eq_true he ▸ hy
/-! ### the records made of numbers -/
def patC : List (List Int) := [[35, 44, 35, 35, 48, 46, 48, 48], [48, 46, 35, 35], [35, 44, 35, 35, 44, 35, 35, 48, 46, 35, 35, 35], [164, 35, 44, 35, 35, 48, 46, 48, 48], [35, 44, 35, 35, 48, 46, 48, 48, 120, 164], [164, 120, 35, 44, 35, 35, 48, 46, 48, 48, 59, 40, 164, 120, 45, 35, 41], [35, 44, 35, 35, 48, 37], [48, 46, 48, 59, 48, 46, 48, 45], [35, 44, 35, 35, 35, 48, 46, 48, 48, 121, 59, 121, 35, 44, 35, 35, 48, 46, 48, 48, 45, 121], [35, 44, 35, 35, 44, 35, 48, 46, 35, 59, 39, 35, 39, 35, 45, 39, 35, 39]]
def patB : List By := [[35, 44, 35, 35, 48, 46, 48, 48], [48, 46, 35, 35], [35, 44, 35, 35, 44, 35, 35, 48, 46, 35, 35, 35], [194, 164, 35, 44, 35, 35, 48, 46, 48, 48], [35, 44, 35, 35, 48, 46, 48, 48, 120, 194, 164], [194, 164, 120, 35, 44, 35, 35, 48, 46, 48, 48, 59, 40, 194, 164, 120, 45, 35, 41], [35, 44, 35, 35, 48, 37], [48, 46, 48, 59, 48, 46, 48, 45], [35, 44, 35, 35, 35, 48, 46, 48, 48, 121, 59, 121, 35, 44, 35, 35, 48, 46, 48, 48, 45, 121], [35, 44, 35, 35, 44, 35, 48, 46, 35, 59, 39, 35, 39, 35, 45, 39, 35, 39]]
def patX : List Pt.Pat := [⟨[], [], [(3, [])], [], 3, 3, 1, 2, 2⟩,
  ⟨[], [], [(3, [])], [], 0, 0, 1, 0, 2⟩,
  ⟨[], [], [(3, [])], [], 3, 2, 1, 0, 3⟩,
  ⟨[(1, [])], [], [(3, []), (1, [])], [], 3, 3, 1, 2, 2⟩,
  ⟨[], [(0, [120]), (1, [])], [(3, [])], [(0, [120]), (1, [])], 3, 3, 1, 2, 2⟩,
  ⟨[(1, []), (0, [120])], [], [(0, [40]), (1, []), (0, [120]), (3, [])], [(0, [41])], 3, 3, 1, 2, 2⟩,
  ⟨[], [(2, [])], [(3, [])], [(2, [])], 3, 3, 1, 0, 0⟩,
  ⟨[], [], [], [(3, [])], 0, 0, 1, 1, 1⟩,
  ⟨[], [(0, [121])], [(0, [121])], [(3, []), (0, [121])], 4, 4, 1, 2, 2⟩,
  ⟨[], [], [(0, [35])], [(3, []), (0, [35])], 2, 2, 1, 0, 1⟩]
def decL : List By := [[46], [44], [217, 171], [101, 204, 129]]
def minL : List By := [[45], [226, 136, 146], [226, 128, 144], [45, 204, 129]]
def perL : List By := [[37], [217, 170]]
def curL : List By := [[36], [226, 130, 172], [67, 72, 70], [107, 204, 129, 114]]
def grpL : List By := [[39], [194, 160], [226, 128, 175], [95], [46], [44]]
def eL : List ByteArray := [⟨#[36]⟩, ⟨#[226, 130, 172]⟩, ⟨#[67]⟩, ⟨#[72]⟩, ⟨#[70]⟩, ⟨#[107, 204, 129]⟩, ⟨#[114]⟩, ⟨#[120]⟩, ⟨#[40]⟩, ⟨#[41]⟩, ⟨#[37]⟩, ⟨#[217, 170]⟩, ⟨#[121]⟩, ⟨#[35]⟩]
def pX (p : Nat) : Pt.Pat := patX.getD p Pt.pat0
def grpAt (q d : Nat) : By := if grpL.getD q [] = decL.getD d [] then [32] else grpL.getD q []
def mk (s p d m u c q : Nat) : Rec := ⟨[120, 120], patB.getD p [], Sm.nmL.getD s [], decL.getD d [], if 0 < (pX p).pr then grpAt q d else [], minL.getD m [], perL.getD u [], curL.getD c []⟩
theorem f_pat : ∀ p, p < 10 → Um.joinL (patC.getD p []) = patB.getD p [] ∧ Pt.parseC (patC.getD p []) = (pX p, 0) ∧ (patC.getD p []).all (fun c => Um.vld c) = true := by decide +kernel
theorem f_aff : ∀ p, p < 10 → (affs (pX p)).all (fun A => decide (A.length ≤ 10) && A.all (fun x => decide (0 ≤ x.1 ∧ x.1 ≤ 3) && (decide (x.2.length ≤ 10) && ((x.1 != 0 || Cm.plainB (Um.allL x.2)) && (x.1 == 0 || x.2 == []))))) = true := by decide +kernel
theorem f_sg : ∀ p, p < 10 → cnt 3 (pX p).pre = 0 ∧ cnt 3 (pX p).suf = 0 ∧ cnt 3 (pX p).npre + cnt 3 (pX p).nsuf = 1 ∧ 0 ≤ (pX p).pr := by decide +kernel
theorem f_sys : ∀ s, s < 20 → 0 ≤ Sm.nz (Sm.nmL.getD s []) ∧ (Sm.nmL.getD s []).length ≤ 16 := by decide +kernel
theorem f_dec : ∀ d, d < 4 → symB (decL.getD d []) = true := by decide +kernel
theorem f_min : ∀ d, d < 4 → symB (minL.getD d []) = true := by decide +kernel
theorem f_grp : ∀ q, q < 6 → ∀ d, d < 4 → symB (grpAt q d) = true := by decide +kernel
theorem f_per : ∀ u, u < 2 → wordB (perL.getD u []) = true := by decide +kernel
theorem f_cur : ∀ u, u < 4 → wordB (curL.getD u []) = true := by decide +kernel
def atxC (p u c : Nat) (A : List (Int × By)) : By := A.flatMap fun x => if x.1 = 0 then x.2 else if x.1 = 1 then curL.getD c [] else if x.1 = 2 then perL.getD u [] else []
theorem f_len : ∀ p, p < 10 → ∀ u, u < 2 → ∀ c, c < 4 → (affs (pX p)).all (fun A => decide ((atxC p u c A).length ≤ 64)) = true := by decide +kernel
theorem f_clus : ∀ p, p < 10 → ∀ u, u < 2 → ∀ c, c < 4 → (affs (pX p)).all (fun A => (Gm.pcs (bs (atxC p u c A))).all fun x => isin x eL) = true := by decide +kernel
def digs (s : Nat) : List ByteArray := (List.range 10).map fun d : Nat => Sm.dgS (Sm.nz (Sm.nmL.getD s [])) (d : Int)
def others : List ByteArray := (decL ++ minL ++ grpL ++ [[32]]).map bs
theorem f_eD : ∀ s, s < 20 → eL.all (fun x => notin x (digs s)) = true := by decide +kernel
theorem f_eO : eL.all (fun x => decide (0 < x.size) && notin x others) = true := by decide +kernel
theorem f_dd : ∀ s, s < 20 → (digs s).Nodup := by decide +kernel
theorem f_dn : ∀ s, s < 20 → (digs s).all (fun x => decide (0 < x.size) && notin x others) = true := by decide +kernel
theorem f_on : others.all (fun x => decide (0 < x.size)) = true := by decide +kernel
theorem f_dm : ∀ d, d < 4 → ∀ m, m < 4 → bs (decL.getD d []) ≠ bs (minL.getD m []) := by decide +kernel
theorem f_dg : ∀ d, d < 4 → ∀ q, q < 6 → bs (decL.getD d []) ≠ bs (grpAt q d) := by decide +kernel
theorem f_gm : ∀ d, d < 4 → ∀ q, q < 6 → ∀ m, m < 4 → bs (grpAt q d) ≠ bs (minL.getD m []) := by decide +kernel
theorem f_othB : (∀ d, d < 4 → isin (bs (decL.getD d [])) others = true) ∧ (∀ m, m < 4 → isin (bs (minL.getD m [])) others = true) ∧ (∀ q, q < 6 → ∀ d, d < 4 → isin (bs (grpAt q d)) others = true) := by decide +kernel
theorem f_oth : (∀ d, d < 4 → bs (decL.getD d []) ∈ others) ∧ (∀ m, m < 4 → bs (minL.getD m []) ∈ others) ∧ (∀ q, q < 6 → ∀ d, d < 4 → bs (grpAt q d) ∈ others) :=
  ⟨fun d h => of_isin (f_othB.1 d h), fun d h => of_isin (f_othB.2.1 d h), fun q h d k => of_isin (f_othB.2.2 q h d k)⟩
theorem nod3 {D : List ByteArray} {x y z : ByteArray} (hD : D.Nodup) (hx : x ∉ D) (hy : y ∉ D) (hz : z ∉ D) (h1 : x ≠ y) (h2 : x ≠ z) (h3 : y ≠ z) : (D ++ [x, y, z]).Nodup := by
  rw [List.nodup_append]
  refine ⟨hD, by simp [h1, h2, h3], fun a ha b hb e => ?_⟩
  subst e
  simp only [List.mem_cons, List.not_mem_nil, or_false] at hb
  rcases hb with rfl | rfl | rfl
  · exact hx ha
  · exact hy ha
  · exact hz ha
theorem dig_mem {s : Nat} (hs : s < 20) {x : ByteArray} (h : x ∈ digs s) : 0 < x.size ∧ x ∉ others := by
  have h1 := List.all_eq_true.1 (f_dn s hs) x h
  simp only [Bool.and_eq_true, decide_eq_true_eq] at h1
  exact ⟨h1.1, of_notin h1.2⟩
theorem oth_size {x : ByteArray} (h : x ∈ others) : 0 < x.size := by
  have h1 := List.all_eq_true.1 f_on x h
  simpa using h1
theorem oth_dig {s : Nat} (hs : s < 20) {x : ByteArray} (h : x ∈ others) : x ∉ digs s := fun k => (dig_mem hs k).2 h
theorem emp_dig {s : Nat} (hs : s < 20) : bs [] ∉ digs s := fun k => by have := (dig_mem hs k).1; rw [bs_size] at this; simp at this
theorem e_mem {s : Nat} (hs : s < 20) {x : ByteArray} (h : x ∈ eL) : 0 < x.size ∧ x ∉ others ∧ x ∉ digs s := by
  have h1 := List.all_eq_true.1 f_eO x h
  have h2 := List.all_eq_true.1 (f_eD s hs) x h
  simp only [Bool.and_eq_true, decide_eq_true_eq] at h1
  exact ⟨h1.1, of_notin h1.2, of_notin h2⟩
def sy (s d m : Nat) (g : By) : List ByteArray := digs s ++ [bs (decL.getD d []), bs g, bs (minL.getD m [])]
def IsG (d : Nat) (g : By) : Prop := g = [] ∨ ∃ q, q < 6 ∧ g = grpAt q d
theorem sy_nodup {s d m : Nat} {g : By} (hs : s < 20) (hd : d < 4) (hm : m < 4) (hg : IsG d g) : (sy s d m g).Nodup := by
  have o1 := f_oth.1 d hd
  have o2 := f_oth.2.1 m hm
  have z1 := oth_size o1
  have z2 := oth_size o2
  rcases hg with rfl | ⟨q, hq, rfl⟩
  · refine nod3 (f_dd s hs) (oth_dig hs o1) (emp_dig hs) (oth_dig hs o2) (fun e => ?_) (f_dm d hd m hm) (fun e => ?_)
    · rw [e, bs_size] at z1; simp at z1
    · rw [← e, bs_size] at z2; simp at z2
  · have o3 := f_oth.2.2 q hq d hd
    exact nod3 (f_dd s hs) (oth_dig hs o1) (oth_dig hs o3) (oth_dig hs o2) (f_dg d hd q hq) (f_dm d hd m hm) (f_gm d hd q hq m hm)
theorem sy_ne {s d m : Nat} {g : By} (hs : s < 20) (hd : d < 4) (hm : m < 4) (i : Nat) (x : ByteArray) (h : (sy s d m g)[i]? = some x) (h11 : i ≠ 11) : 0 < x.size := by
  have hl : (digs s).length = 10 := by unfold digs; simp
  unfold sy at h
  by_cases hi : i < 10
  · rw [List.getElem?_append_left (by omega)] at h
    exact (dig_mem hs (List.mem_of_getElem? h)).1
  · rw [List.getElem?_append_right (by omega), hl] at h
    obtain ⟨j, hj⟩ : ∃ j, j = i - 10 := ⟨_, rfl⟩
    rw [← hj] at h
    match j, hj, h with
    | 0, _, h => simp at h; subst h; exact oth_size (f_oth.1 d hd)
    | 1, hj, _ => omega
    | 2, _, h => simp at h; subst h; exact oth_size (f_oth.2.1 m hm)
    | k + 3, _, h => simp at h
theorem sy_e {s d m : Nat} {g : By} (hs : s < 20) (hd : d < 4) (hm : m < 4) (hg : IsG d g) {x : ByteArray} (h : x ∈ eL) : x ∉ sy s d m g := by
  obtain ⟨h1, h2, h3⟩ := e_mem hs h
  unfold sy
  intro k
  rcases List.mem_append.1 k with k | k
  · exact h3 k
  · simp only [List.mem_cons, List.not_mem_nil, or_false] at k
    rcases k with rfl | rfl | rfl
    · exact h2 (f_oth.1 d hd)
    · rcases hg with rfl | ⟨q, hq, rfl⟩
      · rw [bs_size] at h1; simp at h1
      · exact h2 (f_oth.2.2 q hq d hd)
    · exact h2 (f_oth.2.1 m hm)
theorem aff_of {p : Nat} (hp : p < 10) : ∀ A ∈ affs (pX p), A.length ≤ 10 ∧ ∀ x ∈ A, (0 ≤ x.1 ∧ x.1 ≤ 3) ∧ x.2.length ≤ 10 ∧ (x.1 = 0 → Cm.plainB (Um.allL x.2) = true) ∧ (x.1 ≠ 0 → x.2 = []) := by
  intro A hA
  have h := List.all_eq_true.1 (f_aff p hp) A hA
  simp only [Bool.and_eq_true, decide_eq_true_eq, List.all_eq_true, Bool.or_eq_true, bne_iff_ne, ne_eq, beq_iff_eq] at h
  refine ⟨h.1, fun x hx => ?_⟩
  obtain ⟨h1, h2, h3, h4⟩ := h.2 x hx
  exact ⟨h1, h2, fun e => h3.resolve_left (fun n => n e), fun e => h4.resolve_left e⟩
theorem mk_isG {s p d m u c q : Nat} (hq : q < 6) : IsG d (mk s p d m u c q).grp := by
  show IsG d (if 0 < (pX p).pr then grpAt q d else [])
  split
  · exact .inr ⟨q, hq, rfl⟩
  · exact .inl rfl
theorem mk_ok {s p d m u c q : Nat} (hs : s < 20) (hp : p < 10) (hd : d < 4) (hm : m < 4) (hu : u < 2) (hc : c < 4) (hq : q < 6) : Ok (mk s p d m u c q) (pX p) where
  nam := (by decide : ∀ b ∈ ([120, 120] : By), (97 ≤ b.toNat ∧ b.toNat ≤ 122) ∨ (65 ≤ b.toNat ∧ b.toNat ≤ 90) ∨ b.toNat = 45)
  nam1 := (by decide : 1 ≤ ([120, 120] : By).length ∧ ([120, 120] : By).length ≤ 16)
  sg := ⟨(f_sg p hp).1, (f_sg p hp).2.1, (f_sg p hp).2.2.1⟩
  sys := (f_sys s hs).1
  sysl := (f_sys s hs).2
  dec := f_dec d hd
  min := f_min m hm
  pr := (f_sg p hp).2.2.2
  grp1 := fun h => by show symB (if 0 < (pX p).pr then grpAt q d else []) = true; rw [if_pos h]; exact f_grp q hq d hd
  grp0 := fun h => by show (if 0 < (pX p).pr then grpAt q d else []) = []; rw [if_neg h]
  per := .inl (f_per u hu)
  cur := .inl (f_cur c hc)
  aff := aff_of hp
  len := fun A hA => by have h := List.all_eq_true.1 (f_len p hp u hu c hc) A hA; exact of_decide_eq_true h
  dis := sy_nodup hs hd hm (mk_isG hq)
  ne := fun i x h h11 => sy_ne hs hd hm i x h h11
  cl := fun x hx => by
    refine sy_e hs hd hm (mk_isG hq) ?_
    unfold clus at hx
    obtain ⟨A, hA, hxA⟩ := List.mem_flatMap.1 hx
    exact of_isin (List.all_eq_true.1 (List.all_eq_true.1 (f_clus p hp u hu c hc) A hA) x hxA)
end Lm
end Go.Proofs.YtnlfeamhedihpaaGreatDoor
namespace Go.Proofs.YtnlfeamhedihpaaGreatDoor
open Go.Shelf
namespace Sp
def shelfIndexRen : Go.Shelf.Ren := ⟨fun | 143 => 185 | 217 => 201 | 219 => 189 | 224 => 203 | 225 => 202 | 266 => 210 | 267 => 204 | 314 => 211 | n => n, fun | 3 => 3 | 4 => 4 | 5 => 5 | 9 => 9 | 46 => 235 | 51 => 240 | 146 => 241 | n => n, fun | 1 => 0 | n => n⟩
theorem shelfIndex : Go.Proofs.Lays.n143 Tryz.prog shelfIndexRen := {
  mixed := by kernel_rfl
  f143 := Tryz.func185.trans (congrArg some (by kernel_rfl))
  f217 := Tryz.func201.trans (congrArg some (by kernel_rfl))
  f219 := Tryz.func189.trans (congrArg some (by kernel_rfl))
  f224 := Tryz.func203.trans (congrArg some (by kernel_rfl))
  f225 := Tryz.func202.trans (congrArg some (by kernel_rfl))
  f266 := Tryz.func210.trans (congrArg some (by kernel_rfl))
  f267 := Tryz.func204.trans (congrArg some (by kernel_rfl))
  f314 := Tryz.func211.trans (congrArg some (by kernel_rfl))
  t3 := Tryz.underlying3
  a3 := Tryz.isAgg3
  z3 := Tryz.sizeOf3
  v3 := Tryz.zeroValue3
  t4 := Tryz.underlying4
  a4 := Tryz.isAgg4
  z4 := Tryz.sizeOf4
  v4 := Tryz.zeroValue4
  t5 := Tryz.underlying5
  a5 := Tryz.isAgg5
  z5 := Tryz.sizeOf5
  v5 := Tryz.zeroValue5
  t9 := Tryz.underlying9
  a9 := Tryz.isAgg9
  z9 := Tryz.sizeOf9
  v9 := Tryz.zeroValue9
  t46 := Tryz.underlying235
  a46 := Tryz.isAgg235
  z46 := Tryz.sizeOf235
  v46 := Tryz.zeroValue235
  t51 := Tryz.underlying240
  a51 := Tryz.isAgg240
  z51 := Tryz.sizeOf240
  v51 := Tryz.zeroValue240
  t146 := Tryz.underlying241
  a146 := Tryz.isAgg241
  z146 := Tryz.sizeOf241
  v146 := Tryz.zeroValue241
  g1 := by kernel_rfl }
def shelfIndexLRen : Go.Shelf.Ren := ⟨fun | 217 => 201 | 219 => 189 | 224 => 203 | 225 => 202 | 266 => 210 | 267 => 204 | 314 => 211 | n => n, fun | 3 => 3 | 4 => 4 | 5 => 5 | 9 => 9 | 46 => 235 | 51 => 240 | 146 => 241 | n => n, fun | 1 => 0 | n => n⟩
theorem shelfIndexL : Go.Proofs.Lays.n219 Tryz.prog shelfIndexLRen := {
  mixed := by kernel_rfl
  f217 := Tryz.func201.trans (congrArg some (by kernel_rfl))
  f219 := Tryz.func189.trans (congrArg some (by kernel_rfl))
  f224 := Tryz.func203.trans (congrArg some (by kernel_rfl))
  f225 := Tryz.func202.trans (congrArg some (by kernel_rfl))
  f266 := Tryz.func210.trans (congrArg some (by kernel_rfl))
  f267 := Tryz.func204.trans (congrArg some (by kernel_rfl))
  f314 := Tryz.func211.trans (congrArg some (by kernel_rfl))
  t3 := Tryz.underlying3
  a3 := Tryz.isAgg3
  z3 := Tryz.sizeOf3
  v3 := Tryz.zeroValue3
  t4 := Tryz.underlying4
  a4 := Tryz.isAgg4
  z4 := Tryz.sizeOf4
  v4 := Tryz.zeroValue4
  t5 := Tryz.underlying5
  a5 := Tryz.isAgg5
  z5 := Tryz.sizeOf5
  v5 := Tryz.zeroValue5
  t9 := Tryz.underlying9
  a9 := Tryz.isAgg9
  z9 := Tryz.sizeOf9
  v9 := Tryz.zeroValue9
  t46 := Tryz.underlying235
  a46 := Tryz.isAgg235
  z46 := Tryz.sizeOf235
  v46 := Tryz.zeroValue235
  t51 := Tryz.underlying240
  a51 := Tryz.isAgg240
  z51 := Tryz.sizeOf240
  v51 := Tryz.zeroValue240
  t146 := Tryz.underlying241
  a146 := Tryz.isAgg241
  z146 := Tryz.sizeOf241
  v146 := Tryz.zeroValue241
  g1 := by kernel_rfl }
open Go.RowKit Go.Lib in
theorem index_any (s : ByteArray) (c : UInt8) (w : World) : Calls Tryz.prog 185 #[.string s, .string ⟨#[c]⟩] w fun e w' => e = .returned (.int .i64 (Lib.indexByte s.data.toList c)) ∧ w' = w := Any.strings_Index_one shelfIndex s c w
open Go.RowKit Go.Lib in
theorem indexL_any (s : ByteArray) (c : UInt8) (w : World) : Calls Tryz.prog 189 #[.string s, .string ⟨#[c]⟩] w fun e w' => e = .returned (.int .i64 (Lib.indexByte s.data.toList c)) ∧ w' = w := Any.stringslite_Index_one shelfIndexL s c w
open Go.RowKit in
set_option maxHeartbeats 1000000 in
theorem cutL_any (s : ByteArray) (c : UInt8) (w : World) (hs : s.size ≤ 1000000) :
    Calls Tryz.prog 178 #[.string s, .string ⟨#[c]⟩] w fun e w' => e = .returned (.tuple #[.string ⟨(Lib.cut s.data.toList [c]).1.toArray⟩, .string ⟨(Lib.cut s.data.toList [c]).2.1.toArray⟩, .bool (Lib.cut s.data.toList [c]).2.2]) ∧ Q w w' := by
  have hI := fun w => indexL_any s c w
  have e0 : Lib.indexB s ⟨#[c]⟩ = Lib.indexByte s.data.toList c := Lib.index_one _ _
  rw [← e0] at hI
  rcases Lib.indexB_cases s ⟨#[c]⟩ with hix | ⟨i, hix, hroom⟩
  · obtain ⟨e1, e2, e3⟩ := Lib.cutB_miss s ⟨#[c]⟩ hix
    have e1 : (⟨(Lib.cut s.data.toList [c]).1.toArray⟩ : ByteArray) = s := e1
    have e2 : (⟨(Lib.cut s.data.toList [c]).2.1.toArray⟩ : ByteArray) = ByteArray.empty := e2
    have e3 : (Lib.cut s.data.toList [c]).2.2 = false := e3
    rw [hix] at hI
    have HI := Lib.hid hI
    have HE := Lib.hid (And.intro e1 (And.intro e2 e3))
    clear hI e0 hix e1 e2 e3
    go_enter Tryz.func178, Tryz.ntmps178
    go_wp2_with fail
    refine (HI.out _).mono ?_
    rintro e w1 ⟨rfl, rfl⟩
    go_wp2_with fail
    go_ret3
    rw [HE.out.1, HE.out.2.1, HE.out.2.2]
    exact ⟨rfl, Q.refl _⟩
  · obtain ⟨e1, e2, e3⟩ := Lib.cutB_hit s ⟨#[c]⟩ i hix
    rw [hix] at hI
    have hroom : i + 1 ≤ s.size := hroom
    have e1 : (⟨(Lib.cut s.data.toList [c]).1.toArray⟩ : ByteArray) = s.extract 0 i := e1
    have e2 : (⟨(Lib.cut s.data.toList [c]).2.1.toArray⟩ : ByteArray) = s.extract (i + 1) s.size := e2
    have e3 : (Lib.cut s.data.toList [c]).2.2 = true := e3
    have HI := Lib.hid hI
    have HE := Lib.hid (And.intro e1 (And.intro e2 e3))
    clear hI e0 hix e1 e2 e3
    have c1 : (0 : Int) ≤ (i : Int) := by omega
    have c2 : (i : Int) ≤ (s.size : Int) := by omega
    have c4 : (i : Int) + 1 ≤ (s.size : Int) := by omega
    go_enter Tryz.func178, Tryz.ntmps178
    go_wp2_with fail
    refine (HI.out _).mono ?_
    rintro e w1 ⟨rfl, rfl⟩
    go_wp2_with fail
    go_region
    go_wp2_with fail
    go_ret3
    rw [HE.out.1, HE.out.2.1, HE.out.2.2]
    exact ⟨rfl, (Q.refl _).drew⟩
open Go.RowKit in
theorem cut_any (s : ByteArray) (c : UInt8) (w : World) (hs : s.size ≤ 1000000) :
    Calls Tryz.prog 166 #[.string s, .string ⟨#[c]⟩] w fun e w' => e = .returned (.tuple #[.string ⟨(Lib.cut s.data.toList [c]).1.toArray⟩, .string ⟨(Lib.cut s.data.toList [c]).2.1.toArray⟩, .bool (Lib.cut s.data.toList [c]).2.2]) ∧ Q w w' := by
  have hC := fun w => cutL_any s c w hs
  generalize Lib.cut s.data.toList [c] = R at *
  obtain ⟨r1, r2, r3⟩ := R
  go_enter Tryz.func166, Tryz.ntmps166
  go_wp2_with fail
  refine (hC _).mono ?_
  rintro e w1 ⟨rfl, hq⟩
  go_wp2_with fail
  go_ret3
  exact ⟨rfl, hq⟩
open Go.RowKit in
theorem split_any (s : ByteArray) (c : UInt8) (w : World) (hs : s.size ≤ 1000000) :
    Calls Tryz.prog 167 #[.string s, .string ⟨#[c]⟩] w fun e w' => ∃ v, e = .returned v ∧ SLst w' v (Lib.splitB ⟨#[c]⟩ 0 (Lib.countB s ⟨#[c]⟩) s) ∧ Q w w' := by
  have hle := Lib.countB_le ⟨#[c]⟩ (Nat.le_refl 1) s.size s (Nat.le_refl _)
  have hlen := Lib.splitB_all ⟨#[c]⟩ (Nat.le_refl 1) 0 _ s rfl
  have hC : Calls Tryz.prog 170 #[.string s, .string ⟨#[c]⟩] w fun e w' => e = .returned (.int .i64 (Lib.countB s ⟨#[c]⟩)) ∧ w' = w := by
    refine (count_any s c w).mono ?_
    rintro e w' ⟨rfl, rfl⟩
    refine ⟨?_, rfl⟩
    show _ = Ending.returned (Value.int .i64 ((Lib.count s.data.toList [c] : Nat) : Int))
    rw [Lib.count_one]; rfl
  have cc := Any.strings_genSplit_core shelfGenSplit (by kernel_rfl) s ⟨#[c]⟩ 0 (-1) (Lib.countB s ⟨#[c]⟩ + 1) w (by omega) (Nat.le_refl 1) (Nat.zero_le _)
    (fun x cs hx => by
      refine (index_any x c _).mono ?_
      rintro e w' ⟨rfl, rfl⟩
      refine ⟨?_, rfl⟩
      rw [show Lib.indexB x ⟨#[c]⟩ = Lib.indexByte x.data.toList c from Lib.index_one _ _]) hC (by decide) (by decide) (by rw [if_pos (by decide)]; omega)
  rw [Nat.add_sub_cancel, hlen] at cc
  have e2 : Lib.cellsOf (Lib.splitB ⟨#[c]⟩ 0 (Lib.countB s ⟨#[c]⟩) s) (Lib.countB s ⟨#[c]⟩ + 1) = ((Lib.splitB ⟨#[c]⟩ 0 (Lib.countB s ⟨#[c]⟩) s).map Value.string).toArray := by rw [← hlen]; exact Lib.cellsOf_full _
  rw [e2] at cc
  generalize Lib.splitB ⟨#[c]⟩ 0 (Lib.countB s ⟨#[c]⟩) s = L at *
  generalize Lib.countB s ⟨#[c]⟩ = N at *
  have CC := Lib.hid cc
  have HLN := Lib.hid hlen
  clear cc hC e2 hlen
  go_enter Tryz.func167, Tryz.ntmps167
  go_wp2_with fail
  refine CC.out.mono ?_
  rintro e w1 ⟨rfl, rfl⟩
  go_wp2_with fail
  go_ret
  exact ⟨_, rfl, GLst.made Value.string 9 w L (N + 1) HLN.out (by unfold maxLen; omega), (Q.refl _).alloc _⟩
end Sp
end Go.Proofs.YtnlfeamhedihpaaGreatDoor
namespace Go.Proofs.YtnlfeamhedihpaaGreatDoor
open Go.RowKit
namespace Pg
open Pt Um
theorem elG : Sg.El 197 166 := ⟨by kernel_rfl, Tryz.underlying166⟩
abbrev OwnG (w : World) (B : Nat) (v : Value) (l : List (Int × Int)) : Prop := Sg.OwnE 197 w B v l
def tokQ : Bool → Bool → List Int → Option (List (Int × Int))
  | q, p, [] => if (q != p) = true then none else some []
  | q, p, c :: r =>
    if c = 39 then (if p = true then (tokQ q false r).map ((0, 39) :: ·) else tokQ q true r)
    else if (q != p) = true then (tokQ true false r).map ((0, c) :: ·)
    else (tokQ false false r).map ((kindC c, c) :: ·)
theorem tokQ_cons (q p : Bool) (c : Int) (r : List Int) : tokQ q p (c :: r) = if c = 39 then (if p = true then (tokQ q false r).map ((0, 39) :: ·) else tokQ q true r) else if (q != p) = true then (tokQ true false r).map ((0, c) :: ·) else (tokQ false false r).map ((kindC c, c) :: ·) := rfl
theorem tok_q (cs : List Int) : ∀ q p l, tokS q p cs = some l → tokQ q p cs = some l := by
  induction cs with
  | nil => intro q p l h; exact h
  | cons c r ih =>
    intro q p l h
    rw [tokS_cons] at h
    rw [tokQ_cons]
    split at h
    · rename_i h1
      rw [if_pos h1]
      split at h
      · rename_i h2
        rw [if_pos h2]
        obtain ⟨m, hm, rfl⟩ := Option.map_eq_some_iff.1 h
        rw [ih _ _ _ hm]; rfl
      · rename_i h2
        rw [if_neg h2]
        exact ih _ _ _ h
    · rename_i h1
      rw [if_neg h1]
      split at h
      · rename_i h2
        rw [if_pos h2]
        obtain ⟨m, hm, rfl⟩ := Option.map_eq_some_iff.1 h
        rw [ih _ _ _ hm]; rfl
      · rename_i h2
        rw [if_neg h2]
        split at h
        · cases h
        · obtain ⟨m, hm, rfl⟩ := Option.map_eq_some_iff.1 h
          rw [ih _ _ _ hm]; rfl
theorem tokQ_turn (q : Bool) (r : List Int) (h : r = [] ∨ r.getD 0 0 ≠ 39) : tokQ q true r = tokQ (!q) false r := by
  cases r with
  | nil => cases q <;> rfl
  | cons c r =>
    have hc : c ≠ 39 := by
      rcases h with h | h
      · cases h
      · simpa using h
    rw [tokQ_cons, tokQ_cons, if_neg hc, if_neg hc]
    cases q <;> rfl
theorem drop_at (cs : List Int) (k : Nat) (hk : k < cs.length) : cs.drop k = cs.getD k 0 :: cs.drop (k + 1) := by
  rw [List.getD_eq_getElem?_getD, List.getElem?_eq_getElem hk]
  exact List.drop_eq_getElem_cons hk
def Far (cs : List Int) (k : Nat) (q : Bool) (o : List (Int × Int)) : Prop := (tokQ q false (cs.drop k)).map (o ++ ·) = tokQ false false cs ∧ o.length ≤ k
theorem Far.start (cs : List Int) : Far cs 0 false [] := ⟨by simp, by simp⟩
theorem Far.two {cs : List Int} {k : Nat} {q : Bool} {o : List (Int × Int)} (h : Far cs k q o) (hk : k + 1 < cs.length) (h1 : cs.getD k 0 = 39) (h2 : cs.getD (k + 1) 0 = 39) : Far cs (k + 2) q (o ++ [(0, 39)]) := by
  obtain ⟨h, hl⟩ := h
  rw [drop_at cs k (by omega), h1, drop_at cs (k + 1) hk, h2, tokQ_cons, if_pos rfl, if_neg (by decide), tokQ_cons, if_pos rfl, if_pos rfl, Option.map_map] at h
  refine ⟨?_, by simp; omega⟩
  rw [← h]
  congr 1
  funext x; simp
theorem Far.turn {cs : List Int} {k : Nat} {q : Bool} {o : List (Int × Int)} (h : Far cs k q o) (hk : k < cs.length) (h1 : cs.getD k 0 = 39) (h2 : ¬ (k + 1 < cs.length ∧ cs.getD (k + 1) 0 = 39)) : Far cs (k + 1) (!q) o := by
  obtain ⟨h, hl⟩ := h
  rw [drop_at cs k hk, h1, tokQ_cons, if_pos rfl, if_neg (by decide)] at h
  refine ⟨?_, by omega⟩
  rw [← h, tokQ_turn q]
  by_cases hn : k + 1 < cs.length
  · right
    rw [drop_at cs (k + 1) hn]
    simpa using fun e => h2 ⟨hn, by simpa using e⟩
  · left
    exact List.drop_eq_nil_of_le (by omega)
theorem Far.in {cs : List Int} {k : Nat} {o : List (Int × Int)} (h : Far cs k true o) (hk : k < cs.length) (h1 : cs.getD k 0 ≠ 39) : Far cs (k + 1) true (o ++ [(0, cs.getD k 0)]) := by
  obtain ⟨h, hl⟩ := h
  rw [drop_at cs k hk, tokQ_cons, if_neg h1, if_pos (by decide), Option.map_map] at h
  refine ⟨?_, by simp; omega⟩
  rw [← h]
  congr 1
  funext x; simp
theorem Far.out {cs : List Int} {k : Nat} {o : List (Int × Int)} (h : Far cs k false o) (hk : k < cs.length) (h1 : cs.getD k 0 ≠ 39) : Far cs (k + 1) false (o ++ [(kindC (cs.getD k 0), cs.getD k 0)]) := by
  obtain ⟨h, hl⟩ := h
  rw [drop_at cs k hk, tokQ_cons, if_neg h1, if_neg (by decide), Option.map_map] at h
  refine ⟨?_, by simp; omega⟩
  rw [← h]
  congr 1
  funext x; simp
theorem Far.fin {cs : List Int} {q : Bool} {o : List (Int × Int)} (h : Far cs cs.length q o) : tokQ false false cs = if q = true then none else some o := by
  obtain ⟨h, hl⟩ := h
  rw [List.drop_eq_nil_of_le (Nat.le_refl _)] at h
  rw [← h]
  cases q <;> simp [tokQ]
set_option maxHeartbeats 4000000 in
theorem signs_any (s : ByteArray) (w : World) (hs : s.size ≤ 1000000) (hok : okL s.data.toList = true) :
    Calls Tryz.prog 116 #[.string s] w fun e w' => Q w w' ∧
      ((∃ v l, tokQ false false (allL s.data.toList) = some l ∧ e = .returned v ∧ OwnG w' w.heap.size v l ∧ l.length ≤ s.size) ∨ (tokQ false false (allL s.data.toList) = none ∧ e = .panicked form)) := by
  have hva := fun w => valid_any s w (by unfold maxLen; omega)
  rw [hok] at hva
  have hal := fun w => all_any s w (by omega)
  have hml := marks_length s.data.toList
  rw [size_list] at hml
  have hcl : (allL s.data.toList).length ≤ s.size := by unfold allL; simp; omega
  clear hml hok
  generalize allL s.data.toList = cs at *
  obtain ⟨n, hn⟩ : ∃ n, n = cs.length := ⟨_, rfl⟩
  have HN := Lib.hid hn
  rw [← hn] at hcl
  obtain ⟨R, hR⟩ : ∃ R, R = tokQ false false cs := ⟨_, rfl⟩
  have HR := Lib.hid hR
  rw [← hR]
  clear hn hR
  go_enter Tryz.func116, Tryz.ntmps116
  go_wp2_with fail
  refine (hva _).mono ?_
  rintro e w1 ⟨rfl, hq1⟩
  go_wp2_with fail
  refine (need_yes _).mono ?_
  rintro e w1' ⟨rfl, rfl⟩
  go_wp2_with fail
  refine (hal _).mono ?_
  rintro e w2 ⟨v, rfl, hv, hq2'⟩
  have hq2 := hq1.trans hq2'
  clear hq1 hq2'
  have HV := Lib.hid hv.lst
  obtain ⟨a, cp, rfl, _, _⟩ := hv.lst.form0 HN.out.symm
  clear hv hal hva
  go_wp2_with fail
  go_loopw [3, 5, 6] (fun u q i wr => ∃ (k : Nat) (b : Bool) (o : List (Int × Int)), i = .int .i64 k ∧ q = .bool b ∧ k ≤ n ∧ OwnG wr w2.heap.size u o ∧ Far cs k b o ∧ Q w2 wr) (fun _ _ i _ => n - (intOf i).toNat)
  case atStart => exact ⟨0, false, [], rfl, rfl, by omega, Sg.OwnE.nil _ _ _, Far.start cs, Q.refl _⟩
  case round =>
    obtain ⟨k, b, o, rfl, rfl, hk, ho, hf, hq⟩ := hrel
    have hqs := hq.le
    have HF := Lib.hid hf
    have hol : o.length < 1073741824 := by have := hf.2; omega
    clear hf
    by_cases hlt : k < n
    · have hlti : (k : Int) < (n : Int) := by omega
      have hkl : k < cs.length := by have := HN.out; omega
      obtain ⟨g, off, cap, hvv, hg, hnc, hcm, hca⟩ := HV.out.cellOf HN.out.symm hlt
      cases hvv
      have hcell : ∀ j, j < n → wr.cell? ⟨g, off + j, none⟩ = some (.int .i64 (cs.getD j 0)) := by
        intro j hj
        obtain ⟨g', off', cap', hvv', hg', _, _, hcj⟩ := HV.out.cellOf HN.out.symm hj
        cases hvv'
        exact (World.cell?_of_block (w := w2) (hq.block hg')).trans hcj
      have c1 := hcell k hlt
      have HCE := Lib.hid hcell
      clear hca hcell
      have F1 := fun h1 h2 h3 => HF.out.two h1 h2 h3
      have F2 := fun h1 h2 => HF.out.turn hkl h1 h2
      obtain ⟨c, hc⟩ : ∃ c, c = cs.getD k 0 := ⟨_, rfl⟩
      rw [← hc] at c1 F1 F2
      have HC := Lib.hid hc
      clear hc
      by_cases h39 : c = 39
      · subst h39
        by_cases hn1 : k + 1 < n
        · have hn1i : (k : Int) + 1 < (n : Int) := by omega
          have c2 := HCE.out (k + 1) hn1
          obtain ⟨d, hd⟩ : ∃ d, d = cs.getD (k + 1) 0 := ⟨_, rfl⟩
          rw [← hd] at c2 F1 F2
          have HD := Lib.hid hd
          clear hd
          by_cases hd9 : d = 39
          · subst hd9
            have HF2 := Lib.hid (F1 (by have := HN.out; omega) rfl rfl)
            clear F1 F2
            go_wp2_with (at_builtin; refine Sg.push elG ho rfl _ _ rfl 0 39 (by rfl) (by rfl) hol hqs ?_)
            intro v' w4 ho4 hg4 hat4
            have hq4 := hq.grown hg4 (fun j h => (ho.lt j h).1)
            go_wp2_with fail
            go_roundw
            case rel => exact ⟨k + 2, b, o ++ [(0, 39)], by go_num, rfl, by omega, ho4, HF2.out, hq4⟩
            case measure => simp [intOf]; omega
          · have hdb : (d == 39) = false := beq_eq_false_iff_ne.2 hd9
            have HF2 := Lib.hid (F2 rfl (fun h => hd9 h.2))
            clear F1 F2
            go_wp2_with fail
            go_roundw
            case rel => exact ⟨k + 1, !b, o, by go_num, rfl, by omega, ho, HF2.out, hq⟩
            case measure => simp [intOf]; omega
        · have hn1i : ¬ (k : Int) + 1 < (n : Int) := by omega
          have HF2 := Lib.hid (F2 rfl (fun h => hn1 (by have := HN.out; omega)))
          clear F1 F2
          go_wp2_with fail
          go_roundw
          case rel => exact ⟨k + 1, !b, o, by go_num, rfl, by omega, ho, HF2.out, hq⟩
          case measure => simp [intOf]; omega
      · have hcb : (c == 39) = false := beq_eq_false_iff_ne.2 h39
        clear F1 F2
        cases b
        · have G2 := HF.out.out hkl (by rw [← HC.out]; exact h39)
          have K1 := fun w => meaning_any c w
          rw [← HC.out] at G2
          obtain ⟨kc, hkc⟩ : ∃ kc, kc = kindC c := ⟨_, rfl⟩
          rw [← hkc] at G2 K1
          have HK1 := Lib.hid K1
          have HF2 := Lib.hid G2
          clear hkc K1 G2
          go_wp2_with fail
          refine (HK1.out _).mono ?_
          rintro e w3 ⟨rfl, rfl⟩
          go_wp2_with (at_builtin; refine Sg.push elG ho rfl _ _ rfl kc c (by rfl) (by rfl) hol hqs ?_)
          intro v' w4 ho4 hg4 hat4
          have hq4 := hq.grown hg4 (fun j h => (ho.lt j h).1)
          go_wp2_with fail
          go_roundw
          case rel => exact ⟨k + 1, false, o ++ [(kc, c)], by go_num, rfl, by omega, ho4, HF2.out, hq4⟩
          case measure => simp [intOf]; omega
        · have G2 := HF.out.in hkl (by rw [← HC.out]; exact h39)
          rw [← HC.out] at G2
          have HF2 := Lib.hid G2
          clear G2
          go_wp2_with (at_builtin; refine Sg.push elG ho rfl _ _ rfl 0 c (by rfl) (by rfl) hol hqs ?_)
          intro v' w4 ho4 hg4 hat4
          have hq4 := hq.grown hg4 (fun j h => (ho.lt j h).1)
          go_wp2_with fail
          go_roundw
          case rel => exact ⟨k + 1, true, o ++ [(0, c)], by go_num, rfl, by omega, ho4, HF2.out, hq4⟩
          case measure => simp [intOf]; omega
    · have hke : k = cs.length := by have := HN.out; omega
      have hnlt : ¬ (k : Int) < (n : Int) := by omega
      have hfin := HF.out
      rw [hke] at hfin
      have HRF := Lib.hid (HR.out.trans hfin.fin)
      have hole : o.length ≤ s.size := by have := HF.out.2; omega
      clear hfin hke
      cases b
      · go_wp2_with fail
        refine (need_yes _).mono ?_
        rintro e w3 ⟨rfl, rfl⟩
        go_wp2_with fail
        go_ret
        exact ⟨hq2.trans hq, .inl ⟨_, _, HRF.out, rfl, ho.mono hq2.le, hole⟩⟩
      · go_wp2_with fail
        refine (need_no _).mono ?_
        rintro e w3 ⟨rfl, rfl⟩
        go_wp2_with fail
        exact ⟨rfl, hq2.trans hq, .inr ⟨HRF.out, rfl⟩⟩
end Pg
end Go.Proofs.YtnlfeamhedihpaaGreatDoor
