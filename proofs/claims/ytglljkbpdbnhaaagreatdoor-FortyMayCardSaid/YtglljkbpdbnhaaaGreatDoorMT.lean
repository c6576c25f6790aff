/- The forty records: the mathematics. A range over a function, where a round begins with a box of its own. The forty records in memory; a record made of its texts; the iterator over all. A record of a name; all names. What the library's Cut answers at a separator of one byte. The name that is nearest to a tag. The document's own forty. The document's example; all are told in their row. -/
import Derived.Test.YtglljkbpdbnhaaaGreatDoorLocM
import Derived.Test.YtglljkbpdbnhaaaGreatDoorRows
import Derived.Test.YtglljkbpdbnhaaaGreatDoorMA
import Derived.RangeFuncNested
import Derived.RangeFuncCalls
import Derived.RangeFuncLeaves
import Derived.Shelf.Abstract
import Derived.OwnWalkIn
import Derived.Maps.AppendAt
import Derived.Deep.Cut
import Derived.TacticsInMore
import Derived.LoopNIn
import Derived.LoopIn
import Derived.Test.YtglljkbpdbnhaaaGreatDoorMB
import Derived.Shelf.Strings.Cut
import Derived.Lib.IndexLaws
import Derived.OrdersIn
import Derived.Test.YtglljkbpdbnhaaaGreatDoorMC
set_option linter.unusedVariables false
set_option linter.unusedSimpArgs false
namespace Go.Proofs.YtglljkbpdbnhaaaGreatDoor
namespace Fm
open Lm

/-- The forty. -/
def tab : List Rec := [
  ⟨[97, 114, 45, 69, 71], [194, 164, 35, 44, 35, 35, 48, 46, 48, 48], [97, 114, 97, 98], [217, 171], [217, 172], [45], [217, 170], [69, 71, 80]⟩,
  ⟨[98, 103, 45, 66, 71], [48, 46, 48, 48, 194, 160, 194, 164], [108, 97, 116, 110], [44], [], [45], [37], [66, 71, 78]⟩,
  ⟨[98, 110, 45, 66, 68], [35, 44, 35, 35, 44, 35, 35, 48, 46, 48, 48, 194, 164], [98, 101, 110, 103], [46], [44], [45], [37], [224, 167, 179]⟩,
  ⟨[99, 115, 45, 67, 90], [35, 44, 35, 35, 48, 46, 48, 48, 194, 160, 194, 164], [108, 97, 116, 110], [44], [226, 128, 175], [45], [37], [75, 196, 141]⟩,
  ⟨[100, 97, 45, 68, 75], [35, 44, 35, 35, 48, 46, 48, 48, 194, 160, 194, 164], [108, 97, 116, 110], [44], [46], [45], [37], [107, 114]⟩,
  ⟨[100, 101, 45, 65, 84], [194, 164, 194, 160, 35, 44, 35, 35, 48, 46, 48, 48], [108, 97, 116, 110], [44], [46], [45], [37], [226, 130, 172]⟩,
  ⟨[100, 101, 45, 67, 72], [194, 164, 194, 160, 35, 44, 35, 35, 48, 46, 48, 48, 59, 194, 164, 45, 35, 44, 35, 35, 48, 46, 48, 48], [108, 97, 116, 110], [46], [226, 128, 153], [45], [37], [67, 72, 70]⟩,
  ⟨[100, 101, 45, 68, 69], [35, 44, 35, 35, 48, 46, 48, 48, 194, 160, 194, 164], [108, 97, 116, 110], [44], [46], [45], [37], [226, 130, 172]⟩,
  ⟨[100, 122, 45, 66, 84], [194, 164, 35, 44, 35, 35, 44, 35, 35, 48, 46, 48, 48], [116, 105, 98, 116], [46], [44], [45], [37], [78, 117]⟩,
  ⟨[101, 108, 45, 71, 82], [35, 44, 35, 35, 48, 46, 48, 48, 194, 160, 194, 164], [108, 97, 116, 110], [44], [46], [45], [37], [226, 130, 172]⟩,
  ⟨[101, 110, 45, 71, 66], [194, 164, 35, 44, 35, 35, 48, 46, 48, 48], [108, 97, 116, 110], [46], [44], [45], [37], [194, 163]⟩,
  ⟨[101, 110, 45, 73, 78], [194, 164, 35, 44, 35, 35, 44, 35, 35, 48, 46, 48, 48], [108, 97, 116, 110], [46], [44], [45], [37], [226, 130, 185]⟩,
  ⟨[101, 110, 45, 85, 83], [194, 164, 35, 44, 35, 35, 48, 46, 48, 48], [108, 97, 116, 110], [46], [44], [45], [37], [36]⟩,
  ⟨[101, 115, 45, 69, 83], [35, 44, 35, 35, 48, 46, 48, 48, 194, 160, 194, 164], [108, 97, 116, 110], [44], [46], [45], [37], [226, 130, 172]⟩,
  ⟨[101, 116, 45, 69, 69], [35, 44, 35, 35, 48, 46, 48, 48, 194, 160, 194, 164], [108, 97, 116, 110], [44], [226, 128, 175], [226, 136, 146], [37], [226, 130, 172]⟩,
  ⟨[102, 97, 45, 73, 82], [35, 44, 35, 35, 48, 46, 48, 48], [97, 114, 97, 98, 101, 120, 116], [217, 171], [217, 172], [226, 136, 146], [217, 170], []⟩,
  ⟨[102, 105, 45, 70, 73], [35, 44, 35, 35, 48, 46, 48, 48, 194, 160, 194, 164], [108, 97, 116, 110], [44], [226, 128, 175], [226, 136, 146], [37], [226, 130, 172]⟩,
  ⟨[102, 114, 45, 67, 65], [35, 44, 35, 35, 48, 46, 48, 48, 194, 160, 194, 164], [108, 97, 116, 110], [44], [226, 128, 175], [45], [37], [36]⟩,
  ⟨[102, 114, 45, 70, 82], [35, 44, 35, 35, 48, 46, 48, 48, 194, 160, 194, 164], [108, 97, 116, 110], [44], [226, 128, 175], [45], [37], [226, 130, 172]⟩,
  ⟨[103, 117, 45, 73, 78], [194, 164, 35, 44, 35, 35, 44, 35, 35, 48, 46, 48, 48], [103, 117, 106, 114], [46], [44], [45], [37], [226, 130, 185]⟩,
  ⟨[104, 101, 45, 73, 76], [35, 44, 35, 35, 48, 46, 48, 48, 194, 160, 194, 164], [108, 97, 116, 110], [46], [44], [45], [37], [226, 130, 170]⟩,
  ⟨[104, 105, 45, 73, 78], [194, 164, 35, 44, 35, 35, 44, 35, 35, 48, 46, 48, 48], [100, 101, 118, 97], [46], [44], [45], [37], [226, 130, 185]⟩,
  ⟨[104, 117, 45, 72, 85], [35, 44, 35, 35, 48, 46, 48, 48, 194, 160, 194, 164], [108, 97, 116, 110], [44], [226, 128, 175], [45], [37], [70, 116]⟩,
  ⟨[105, 100, 45, 73, 68], [194, 164, 194, 160, 35, 44, 35, 35, 48, 46, 48, 48], [108, 97, 116, 110], [44], [46], [45], [37], [82, 112]⟩,
  ⟨[106, 97, 45, 74, 80], [194, 164, 35, 44, 35, 35, 48], [108, 97, 116, 110], [46], [44], [45], [37], [239, 191, 165]⟩,
  ⟨[107, 109, 45, 75, 72], [35, 44, 35, 35, 48, 46, 48, 48, 194, 164], [107, 104, 109, 114], [44], [46], [45], [37], [225, 159, 155]⟩,
  ⟨[107, 110, 45, 73, 78], [194, 164, 35, 44, 35, 35, 44, 35, 35, 48, 46, 48, 48], [107, 110, 100, 97], [46], [44], [45], [37], [226, 130, 185]⟩,
  ⟨[107, 111, 45, 75, 82], [194, 164, 35, 44, 35, 35, 48], [108, 97, 116, 110], [46], [44], [45], [37], [226, 130, 169]⟩,
  ⟨[108, 111, 45, 76, 65], [194, 164, 35, 44, 35, 35, 48, 46, 48, 48, 59, 194, 164, 45, 35, 44, 35, 35, 48, 46, 48, 48], [108, 97, 111, 111], [44], [46], [45], [37], [226, 130, 173]⟩,
  ⟨[109, 114, 45, 73, 78], [194, 164, 35, 44, 35, 35, 44, 35, 35, 48, 46, 48, 48], [100, 101, 118, 97], [46], [44], [45], [37], [226, 130, 185]⟩,
  ⟨[109, 121, 45, 77, 77], [35, 44, 35, 35, 48, 46, 48, 48, 194, 160, 194, 164], [109, 121, 109, 114], [46], [44], [45], [37], [75]⟩,
  ⟨[110, 98, 45, 78, 79], [194, 164, 194, 160, 35, 44, 35, 35, 48, 46, 48, 48, 59, 194, 164, 194, 160, 45, 35, 44, 35, 35, 48, 46, 48, 48], [108, 97, 116, 110], [44], [226, 128, 175], [226, 136, 146], [37], [107, 114]⟩,
  ⟨[110, 108, 45, 78, 76], [194, 164, 194, 160, 35, 44, 35, 35, 48, 46, 48, 48, 59, 194, 164, 194, 160, 45, 35, 44, 35, 35, 48, 46, 48, 48], [108, 97, 116, 110], [44], [46], [45], [37], [226, 130, 172]⟩,
  ⟨[112, 108, 45, 80, 76], [35, 44, 35, 35, 48, 46, 48, 48, 194, 160, 194, 164], [108, 97, 116, 110], [44], [226, 128, 175], [45], [37], [122, 197, 130]⟩,
  ⟨[112, 116, 45, 66, 82], [194, 164, 194, 160, 35, 44, 35, 35, 48, 46, 48, 48], [108, 97, 116, 110], [44], [46], [45], [37], [82, 36]⟩,
  ⟨[114, 117, 45, 82, 85], [35, 44, 35, 35, 48, 46, 48, 48, 194, 160, 194, 164], [108, 97, 116, 110], [44], [226, 128, 175], [45], [37], [226, 130, 189]⟩,
  ⟨[115, 108, 45, 83, 73], [35, 44, 35, 35, 48, 46, 35, 35, 37], [108, 97, 116, 110], [44], [46], [226, 136, 146], [37], []⟩,
  ⟨[116, 97, 45, 73, 78], [194, 164, 194, 160, 35, 44, 35, 35, 44, 35, 35, 48, 46, 48, 48], [116, 97, 109, 108, 100, 101, 99], [46], [44], [45], [37], [226, 130, 185]⟩,
  ⟨[116, 104, 45, 84, 72], [194, 164, 35, 44, 35, 35, 48, 46, 48, 48], [116, 104, 97, 105], [46], [44], [45], [37], [224, 184, 191]⟩,
  ⟨[122, 104, 45, 67, 78], [194, 164, 35, 44, 35, 35, 48, 46, 48, 48], [108, 97, 116, 110], [46], [44], [45], [37], [194, 165]⟩]
def rec0 : Rec := ⟨[], [], [], [], [], [], [], []⟩
def T (i : Nat) : Rec := tab.getD i rec0
/-- The patterns that stand in them. -/
def ptC : List (List Int) := [[164, 35, 44, 35, 35, 48, 46, 48, 48], [48, 46, 48, 48, 160, 164], [35, 44, 35, 35, 44, 35, 35, 48, 46, 48, 48, 164], [35, 44, 35, 35, 48, 46, 48, 48, 160, 164], [164, 160, 35, 44, 35, 35, 48, 46, 48, 48], [164, 160, 35, 44, 35, 35, 48, 46, 48, 48, 59, 164, 45, 35, 44, 35, 35, 48, 46, 48, 48], [164, 35, 44, 35, 35, 44, 35, 35, 48, 46, 48, 48], [35, 44, 35, 35, 48, 46, 48, 48], [164, 35, 44, 35, 35, 48], [35, 44, 35, 35, 48, 46, 48, 48, 164], [164, 35, 44, 35, 35, 48, 46, 48, 48, 59, 164, 45, 35, 44, 35, 35, 48, 46, 48, 48], [164, 160, 35, 44, 35, 35, 48, 46, 48, 48, 59, 164, 160, 45, 35, 44, 35, 35, 48, 46, 48, 48], [35, 44, 35, 35, 48, 46, 35, 35, 37], [164, 160, 35, 44, 35, 35, 44, 35, 35, 48, 46, 48, 48]]
def ptB : List By := [[194, 164, 35, 44, 35, 35, 48, 46, 48, 48], [48, 46, 48, 48, 194, 160, 194, 164], [35, 44, 35, 35, 44, 35, 35, 48, 46, 48, 48, 194, 164], [35, 44, 35, 35, 48, 46, 48, 48, 194, 160, 194, 164], [194, 164, 194, 160, 35, 44, 35, 35, 48, 46, 48, 48], [194, 164, 194, 160, 35, 44, 35, 35, 48, 46, 48, 48, 59, 194, 164, 45, 35, 44, 35, 35, 48, 46, 48, 48], [194, 164, 35, 44, 35, 35, 44, 35, 35, 48, 46, 48, 48], [35, 44, 35, 35, 48, 46, 48, 48], [194, 164, 35, 44, 35, 35, 48], [35, 44, 35, 35, 48, 46, 48, 48, 194, 164], [194, 164, 35, 44, 35, 35, 48, 46, 48, 48, 59, 194, 164, 45, 35, 44, 35, 35, 48, 46, 48, 48], [194, 164, 194, 160, 35, 44, 35, 35, 48, 46, 48, 48, 59, 194, 164, 194, 160, 45, 35, 44, 35, 35, 48, 46, 48, 48], [35, 44, 35, 35, 48, 46, 35, 35, 37], [194, 164, 194, 160, 35, 44, 35, 35, 44, 35, 35, 48, 46, 48, 48]]
def ptN : List Nat := [0, 1, 2, 3, 3, 4, 5, 3, 6, 3, 0, 6, 0, 3, 3, 7, 3, 3, 3, 6, 3, 6, 3, 4, 8, 9, 6, 8, 10, 6, 3, 11, 11, 3, 4, 3, 12, 13, 0, 0]
def nP (i : Nat) : Nat := ptN.getD i 0
def ptX : List Pt.Pat := ptC.map fun c => (Pt.parseC c).1
def P (p : Nat) : Pt.Pat := ptX.getD p Pt.pat0
theorem tab_len : tab.length = 40 := by decide
theorem nP_lt : ∀ i, i < 40 → nP i < 14 := by decide +kernel
theorem pat_of : ∀ i, i < 40 → (T i).pat = ptB.getD (nP i) [] := by decide +kernel
theorem ptC_B : ∀ p, p < 14 → Um.joinL (ptC.getD p []) = ptB.getD p [] ∧ (Pt.parseC (ptC.getD p [])).1 = P p ∧ (ptC.getD p []).all (fun c => Um.vld c) = true := by decide +kernel
/-- What a record that may be is, told by the kernel. -/
def okB (r : Rec) (X : Pt.Pat) : Bool :=
  (r.nam.all fun b => (decide (97 ≤ b.toNat) && decide (b.toNat ≤ 122)) || ((decide (65 ≤ b.toNat) && decide (b.toNat ≤ 90)) || decide (b.toNat = 45))) &&
  (decide (1 ≤ r.nam.length) && (decide (r.nam.length ≤ 16) &&
  (decide (cnt 3 X.pre = 0) && (decide (cnt 3 X.suf = 0) && (decide (cnt 3 X.npre + cnt 3 X.nsuf = 1) &&
  (decide (0 ≤ Sm.nz r.sys) && (decide (r.sys.length ≤ 16) && (symB r.dec && (symB r.min && (decide (0 ≤ X.pr) &&
  ((if 0 < X.pr then symB r.grp else decide (r.grp = [])) &&
  ((wordB r.per || (decide (r.per = []) && (affs X).all fun A => decide (cnt 2 A = 0))) &&
  ((wordB r.cur || (decide (r.cur = []) && (affs X).all fun A => decide (cnt 1 A = 0))) &&
  (((affs X).all fun A => decide (A.length ≤ 10) && A.all (fun x => decide (0 ≤ x.1 ∧ x.1 ≤ 3) && (decide (x.2.length ≤ 10) && ((x.1 != 0 || Cm.plainB (Um.allL x.2)) && (x.1 == 0 || x.2 == []))))) &&
  (((affs X).all fun A => decide ((atx r A).length ≤ 64)) &&
  (decide ((syms r).Nodup) &&
  (((List.range 13).all fun i => decide (i = 11) || decide (0 < ((syms r).getD i ⟨#[]⟩).size)) &&
  (clus r X).all fun c => notin c (syms r))))))))))))))))))
theorem ok_of {r : Rec} {X : Pt.Pat} (h : okB r X = true) : Ok r X := by
  unfold okB at h
  simp only [Bool.and_eq_true, decide_eq_true_eq, List.all_eq_true, Bool.or_eq_true, bne_iff_ne, ne_eq, beq_iff_eq, List.mem_range] at h
  obtain ⟨h1, h2, h3, h4, h5, h6, h7, h8, h9, h10, h11, h12, h13, h14, h15, h16, h17, h18, h19⟩ := h
  exact {
    nam := h1
    nam1 := ⟨h2, h3⟩
    sg := ⟨h4, h5, h6⟩
    sys := h7
    sysl := h8
    dec := h9
    min := h10
    pr := h11
    grp1 := fun h => by rwa [if_pos h] at h12
    grp0 := fun h => by rw [if_neg h] at h12; exact of_decide_eq_true h12
    per := h13
    cur := h14
    aff := fun A hA => ⟨(h15 A hA).1, fun x hx => by
      obtain ⟨g1, g2, g3, g4⟩ := (h15 A hA).2 x hx
      exact ⟨g1, g2, fun e => g3.resolve_left (fun n => n e), fun e => g4.resolve_left e⟩⟩
    len := h16
    dis := h17
    ne := fun i x hx hi => by
      have hl : i < 13 := (List.getElem?_eq_some_iff.1 hx).1
      have := (h18 i hl).resolve_left hi
      rwa [List.getD_eq_getElem?_getD, hx] at this
    cl := fun c hc => of_notin (h19 c hc) }
theorem f_ok0 : ∀ i, i < 8 → okB (T (0 + i)) (P (nP (0 + i))) = true := by decide +kernel
theorem f_ok8 : ∀ i, i < 8 → okB (T (8 + i)) (P (nP (8 + i))) = true := by decide +kernel
theorem f_ok16 : ∀ i, i < 8 → okB (T (16 + i)) (P (nP (16 + i))) = true := by decide +kernel
theorem f_ok24 : ∀ i, i < 8 → okB (T (24 + i)) (P (nP (24 + i))) = true := by decide +kernel
theorem f_ok32 : ∀ i, i < 8 → okB (T (32 + i)) (P (nP (32 + i))) = true := by decide +kernel
theorem f_ok (i : Nat) (h : i < 40) : Ok (T i) (P (nP i)) := by
  refine ok_of ?_
  by_cases h1 : i < 8
  · have := f_ok0 i h1; rwa [Nat.zero_add] at this
  · by_cases h2 : i < 16
    · have := f_ok8 (i - 8) (by omega); rwa [show 8 + (i - 8) = i by omega] at this
    · by_cases h3 : i < 24
      · have := f_ok16 (i - 16) (by omega); rwa [show 16 + (i - 16) = i by omega] at this
      · by_cases h4 : i < 32
        · have := f_ok24 (i - 24) (by omega); rwa [show 24 + (i - 24) = i by omega] at this
        · have := f_ok32 (i - 32) (by omega); rwa [show 32 + (i - 32) = i by omega] at this
/-! ### names, languages -/
def nam (i : Nat) : By := (T i).nam
def lng (l : By) : By := l.takeWhile fun b => b != 45
theorem nam_ne : ∀ i, i < 40 → nam i ≠ [] ∧ (nam i).length = 5 ∧ (nam i)[2]? = some 45 ∧ lng (nam i) = (nam i).take 2 := by decide +kernel
theorem nam_in : ∀ i, i < 40 → ∀ j, j < 40 → nam i = nam j → i = j := by decide +kernel
/-- Where a name stands, below k. -/
def fnd (s : By) : Nat → Int
  | 0 => -1
  | k + 1 => if 0 ≤ fnd s k then fnd s k else if nam k = s then (k : Int) else -1
theorem fnd_lt (s : By) : ∀ k, fnd s k < k ∧ -1 ≤ fnd s k := by
  intro k
  induction k with
  | zero => exact ⟨(by decide : (-1 : Int) < ((0 : Nat) : Int)), (by decide : (-1 : Int) ≤ -1)⟩
  | succ k ih =>
    unfold fnd
    split
    · exact ⟨by omega, by omega⟩
    · split
      · exact ⟨by omega, by omega⟩
      · exact ⟨by omega, by omega⟩
theorem fnd_some {s : By} : ∀ k, 0 ≤ fnd s k → nam (fnd s k).toNat = s := by
  intro k
  induction k with
  | zero => intro h; exact absurd h (by decide : ¬ (0 : Int) ≤ -1)
  | succ k ih =>
    unfold fnd
    split
    · rename_i h; intro _; exact ih h
    · split
      · rename_i h; intro _; simpa using h
      · intro h; exact absurd h (by decide)
theorem fnd_none {s : By} : ∀ k, fnd s k < 0 ↔ ∀ j, j < k → nam j ≠ s := by
  intro k
  induction k with
  | zero => exact ⟨fun _ j hj => by omega, fun _ => (by decide : (-1 : Int) < 0)⟩
  | succ k ih =>
    unfold fnd
    split
    · rename_i h
      refine ⟨fun h2 => by omega, fun h2 => ?_⟩
      have := ih.2 fun j hj => h2 j (by omega)
      omega
    · rename_i h
      have h3 := ih.1 (by omega)
      split
      · rename_i he
        exact ⟨fun h2 => by omega, fun h2 => absurd he (h2 k (by omega))⟩
      · rename_i he
        refine ⟨fun _ j hj => ?_, fun _ => by decide⟩
        by_cases hjk : j = k
        · rw [hjk]; exact he
        · exact h3 j (by omega)
theorem fnd_hit {s : By} {k : Nat} (h : fnd s k < 0) (he : nam k = s) : fnd s (k + 1) = k := by
  unfold fnd
  rw [if_neg (by omega), if_pos he]
theorem fnd_miss {s : By} {k : Nat} (h : fnd s k < 0) (he : nam k ≠ s) : fnd s (k + 1) < 0 := by
  unfold fnd
  rw [if_neg (by omega), if_neg he]
  decide
theorem fnd_stay {s : By} {k : Nat} (h : 0 ≤ fnd s k) : ∀ m, k ≤ m → fnd s m = fnd s k := by
  intro m
  induction m with
  | zero => intro hm; rw [show k = 0 by omega]
  | succ m ih =>
    intro hm
    by_cases hk : k = m + 1
    · rw [hk]
    · have := ih (by omega)
      have e : fnd s (m + 1) = if 0 ≤ fnd s m then fnd s m else if nam m = s then (m : Int) else -1 := rfl
      rw [e, this, if_pos h]
theorem bs_of {l : By} {s : ByteArray} (h : l = s.data.toList) : bs l = s := by
  rw [h]; rfl
/-- The first name of a language, below k; none: the empty text. -/
def fstL (t : By) : Nat → By
  | 0 => []
  | k + 1 => if fstL t k = [] ∧ lng (nam k) = t then nam k else fstL t k
theorem fstL_hit {t : By} {k : Nat} (h : fstL t k = []) (he : lng (nam k) = t) : fstL t (k + 1) = nam k := by
  unfold fstL
  rw [if_pos ⟨h, he⟩]
theorem fstL_miss {t : By} {k : Nat} (he : ¬ (fstL t k = [] ∧ lng (nam k) = t)) : fstL t (k + 1) = fstL t k := by
  show (if fstL t k = [] ∧ lng (nam k) = t then nam k else fstL t k) = _
  rw [if_neg he]
theorem fstL_stay {t : By} {k : Nat} (h : fstL t k ≠ []) : ∀ m, k ≤ m → fstL t m = fstL t k := by
  intro m
  induction m with
  | zero => intro hm; rw [show k = 0 by omega]
  | succ m ih =>
    intro hm
    by_cases hk : k = m + 1
    · rw [hk]
    · have := ih (by omega)
      rw [fstL_miss (fun hx => h (this ▸ hx.1)), this]
theorem lng_all : ∀ {l : By}, (∀ j, j < l.length → l[j]? ≠ some 45) → lng l = l := by
  intro l
  induction l with
  | nil => intro h; rfl
  | cons x l ih =>
    intro h
    have hx : x ≠ 45 := fun e => h 0 (by simp) (by rw [e]; rfl)
    have := ih (fun j hj => by have := h (j + 1) (by simp; omega); rwa [List.getElem?_cons_succ] at this)
    unfold lng at this ⊢
    rw [List.takeWhile_cons, if_pos (by simpa using hx), this]
theorem lng_hit : ∀ {l : By} {k : Nat}, (∀ j, j < k → l[j]? ≠ some 45) → l[k]? = some 45 → lng l = l.take k := by
  intro l
  induction l with
  | nil => intro k h h2; simp at h2
  | cons x l ih =>
    intro k h h2
    cases k with
    | zero =>
      simp at h2
      subst h2
      rfl
    | succ k =>
      have hx : x ≠ 45 := fun e => h 0 (by omega) (by rw [e]; rfl)
      have := ih (k := k) (fun j hj => by have := h (j + 1) (by omega); rwa [List.getElem?_cons_succ] at this) (by rwa [List.getElem?_cons_succ] at h2)
      unfold lng at this ⊢
      rw [List.takeWhile_cons, if_pos (by simpa using hx), this, List.take_succ_cons]
/-- The name that is nearest. -/
def mt (s : By) : By := if 0 ≤ fnd s 40 then s else fstL (lng s) 40
theorem mt_ne {s : By} (h : 0 ≤ fnd s 40) : s ≠ [] := fun e => by
  have h1 := fnd_some 40 h
  have h2 := (fnd_lt s 40).1
  exact (nam_ne (fnd s 40).toNat (by omega)).1 (h1.trans e)
end Fm
end Go.Proofs.YtglljkbpdbnhaaaGreatDoor

set_option linter.unusedVariables false
set_option linter.unusedSimpArgs false
namespace Go.Proofs.YtglljkbpdbnhaaaGreatDoor
open Go.RowKit Go.Shelf

/-- The law for the one who ranges, where a round begins with a box of its own. -/
theorem range_any2 {α : Type} {g : Operand} {ps : Array Tmp} {assign body : Code} {R : Exit → Act → World → Prop} {a : Act} {w : World}
    {gf : Nat} {lb : Array Value} (hg : a.eval g = .func (.func gf) #[] lb) (eg : ∀ args w, (callFunc gf args).run Tryz.prog w = .ok (.enter gf args) w)
    {encs : α → Array Value} (hps : ∀ x, (encs x).size = ps.size) {hi : Nat} {S : Nat → Prop} {Pre All : List α → Prop}
    (hit : Iter gf lb encs (w.heap.size + 1 + 1) hi S Pre All w) (hS : ¬ S (w.heap.size + 1)) (hhi : w.heap.size + 1 < hi)
    (I : List α → World → Prop) (Ix : Code → List α → World → Prop)
    (hI : ∀ s A A', I s A → Gap w.heap.size hi A A' → I s A') (hIx : ∀ c s A A', Ix c s A → Gap w.heap.size hi A A' → Ix c s A') (h0 : I [] w) (As : α → Act → World → Prop) (hAs : ∀ x b A A', As x b A → Gap w.heap.size hi A A' → As x b A')
    (hassign : ∀ (l : Nat) (x : α) (W : World) (K : Act → World → Prop), hi ≤ W.heap.size → (∀ a₁ W', Q W W' → As x a₁ W' → K a₁ W') →
      assign.wpIn (Fence.wide.inRound l) 0 Tryz.prog (Exit.then K (fun _ _ _ => False)) { tmps := (ps.zip (encs x)).foldl (fun t (p, v) => t.setIfInBounds p v) a.tmps, defers := [] } W)
    (hbody : ∀ (l : Nat) (pre : List α) (x : α) (a₁ : Act) (W : World), I pre W → As x a₁ W → hi ≤ W.heap.size → Pre (pre ++ [x]) →
      body.wpIn (Fence.wide.inRound l) 0 Tryz.prog (roundPost2 (fun k => S k ∨ k = w.heap.size ∨ k = w.heap.size + 1) I Ix (pre ++ [x]) W) a₁ W)
    (hdone : ∀ (xs : List α) (W : World), All xs → I xs W → W.heap[w.heap.size]? = some (.deferred (some [])) → R .normal { a with defers := { target := .collected w.heap.size, args := #[] } :: a.defers } W)
    (hstop : ∀ (c : Code) (pre : List α) (W : World), Pre pre → Ix c pre W → W.heap[w.heap.size]? = some (.deferred (some [])) → c.wpIn Fence.wide 0 Tryz.prog R { a with defers := { target := .collected w.heap.size, args := #[] } :: a.defers } W) :
    (Code.rangeFunc g ps assign body).wpIn Fence.wide 0 Tryz.prog R a w := by
  refine wpIn_rangeFunc fun fn _ => ?_
  obtain ⟨rec, hrec⟩ : ∃ rec : LoopState → Option Code → Obj, rec = fun st pe => .loop { state := st, pending := pe, fn, tmps := a.tmps, params := ps, assign, body, defers := w.heap.size } := ⟨_, rfl⟩
  have hout := run_enterLoop_outer (P := Tryz.prog) (w := w) fn a.tmps ps assign body
  obtain ⟨W1, hW1⟩ : ∃ W1, W1 = (w.alloc (.deferred (some []))).alloc (rec .ready none) := ⟨_, rfl⟩
  have hq1 : Q w W1 := by rw [hW1]; exact ((Q.refl w).alloc _).alloc _
  have hz1 : W1.heap.size = w.heap.size + 1 + 1 := by rw [hW1]; simp
  have hl1 : W1.heap[w.heap.size + 1]? = some (rec .ready none) := by
    rw [hW1]; have := World.alloc_heap_new (w.alloc (.deferred (some []))) (rec .ready none); rwa [World.size_alloc] at this
  have hd1 : W1.heap[w.heap.size]? = some (.deferred (some [])) := by
    rw [hW1]; exact (Below.heap_alloc _ _ _ (by simp)).trans (World.alloc_heap_new w _)
  have turn : ∀ (A : World) (o : Obj), Gap w.heap.size hi A (A.putObj (w.heap.size + 1) o) := fun A o => Gap.putObj A _ o _ _ (by omega) hhi
  refine ⟨w.heap.size + 1, [{ target := .collected w.heap.size, args := #[] }], W1, { target := .fn (.func gf) lb, args := #[.func (.yield (w.heap.size + 1)) #[] #[]] }, W1, gf,
    #[.func (.yield (w.heap.size + 1)) #[] #[]] ++ lb, W1, ?_, ?_, (fun _ _ => trivial), ?_, (fun h => nomatch h), ?_⟩
  · rw [hW1, hrec]; exact hout
  · simp only [resolve, hg]
    simp [go_sem]
  · simp [invoke, go_sem, eg]
  · refine (hit (w.heap.size + 1)
      (fun pre W => I pre W ∧ W.heap[w.heap.size + 1]? = some (rec .ready none) ∧ W.heap[w.heap.size]? = some (.deferred (some [])))
      (fun pre W => ∃ c, Ix c pre W ∧ W.heap[w.heap.size + 1]? = some (rec .done (some c)) ∧ W.heap[w.heap.size]? = some (.deferred (some [])))
      W1 hz1 hq1 ?_ ?_ ⟨hI _ _ _ h0 (hq1.gap _ _), hl1, hd1⟩).mono ?_
    · rintro s A A' ⟨h1, h2, h3⟩ hgap
      exact ⟨hI _ _ _ h1 (hgap.mono (by omega) (Nat.le_refl _)), (hgap.block _ (Array.getElem?_eq_some_iff.1 h2).1 (.inl (by omega))).trans h2, (hgap.block _ (Array.getElem?_eq_some_iff.1 h3).1 (.inl (by omega))).trans h3⟩
    · rintro pre x A0 ⟨h1, h2, h3⟩ hz hpre
      have hlt := (Array.getElem?_eq_some_iff.1 h2).1
      rw [hrec] at h2
      have hy := run_yield (P := Tryz.prog) (args := encs x) h2 (hps x)
      refine ⟨fn, _, assign, body, hy, roundIn_of_wpIn trivial (hassign _ x A0 _ hz fun a₁ A hqA hasA => ?_)⟩
      have h2 : A.heap[w.heap.size + 1]? = _ := (hqA.block hlt).trans h2
      have h3 := (hqA.block (Array.getElem?_eq_some_iff.1 h3).1).trans h3
      have h1 := hI _ _ _ h1 (hqA.gap _ _)
      have hz := Nat.le_trans hz hqA.size
      have hlt := (Array.getElem?_eq_some_iff.1 h2).1
      refine ⟨_, run_beginRound h2 rfl, ?_⟩
      have h4 := World.putObj_heap_same (w := A) (o := rec .busy none) hlt
      have h5 : (A.putObj (w.heap.size + 1) (rec .busy none)).heap[w.heap.size]? = some (.deferred (some [])) := (World.putObj_heap_other (by omega)).trans h3
      have hs := (hqA.stand S).trans (Stand.putObj S A (w.heap.size + 1) (rec .busy none) hS)
      rw [hrec] at h4 h5 hs
      have hb := hbody (w.heap.size + 1) pre x a₁ _ (hI _ _ _ h1 (turn A (rec .busy none))) (hAs _ _ _ _ hasA (turn A (rec .busy none))) (by simpa using hz) hpre
      rw [hrec] at hb
      refine wpIn_mono hb ?_
      have fin : ∀ (jump : Option Code) (W3 : World), Stand (fun k => S k ∨ k = w.heap.size ∨ k = w.heap.size + 1) (A.putObj (w.heap.size + 1) (rec .busy none)) W3 →
          (Instr.endRound (w.heap.size + 1) jump).run Tryz.prog W3 = .ok (.bool jump.isNone) (W3.putObj (w.heap.size + 1) (rec (if jump.isNone then .ready else .done) jump)) ∧
          (W3.putObj (w.heap.size + 1) (rec (if jump.isNone then .ready else .done) jump)).heap[w.heap.size + 1]? = some (rec (if jump.isNone then .ready else .done) jump) ∧
          (W3.putObj (w.heap.size + 1) (rec (if jump.isNone then .ready else .done) jump)).heap[w.heap.size]? = some (.deferred (some [])) ∧
          Stand S A0 (W3.putObj (w.heap.size + 1) (rec (if jump.isNone then .ready else .done) jump)) := by
        intro jump W3 hk
        rw [hrec] at hk ⊢
        have h6 := hk.heap (.inr (.inr rfl)) h4
        have h7 := hk.heap (.inr (.inl rfl)) h5
        exact ⟨run_endRound (P := Tryz.prog) jump h6, World.putObj_heap_same (Array.getElem?_eq_some_iff.1 h6).1, (World.putObj_heap_other (by omega)).trans h7,
          (hs.trans (hk.mono fun k h => .inl h)).trans (Stand.putObj S _ _ _ hS)⟩
      rw [hrec] at fin
      rw [hrec]
      intro e a3 W3 hp
      cases e with
      | normal =>
        obtain ⟨hk, hi3⟩ := hp
        obtain ⟨f1, f2, f3, f4⟩ := fin none W3 hk
        exact ⟨_, _, f1, .inl ⟨rfl, ⟨hI _ _ _ hi3 (turn _ _), f2, f3⟩, f4⟩⟩
      | ret =>
        obtain ⟨hk, hi3⟩ := hp
        obtain ⟨f1, f2, f3, f4⟩ := fin (some .ret) W3 hk
        exact ⟨_, _, f1, .inr ⟨rfl, _, hIx _ _ _ _ hi3 (turn _ _), f2, f3⟩⟩
      | exit id =>
        obtain ⟨hk, hi3⟩ := hp
        obtain ⟨f1, f2, f3, f4⟩ := fin (some (.exit id)) W3 hk
        exact ⟨_, _, f1, .inr ⟨rfl, _, hIx _ _ _ _ hi3 (turn _ _), f2, f3⟩⟩
      | goto t =>
        obtain ⟨hk, hi3⟩ := hp
        obtain ⟨f1, f2, f3, f4⟩ := fin (some (.goto t)) W3 hk
        exact ⟨_, _, f1, .inr ⟨rfl, _, hIx _ _ _ _ hi3 (turn _ _), f2, f3⟩⟩
      | panic ch => exact hp.elim
      | outgrown => exact hp.elim
    · rw [hrec]
      rintro e W2 ⟨⟨v, rfl⟩, (⟨xs, hall, h1, h2, h3⟩ | ⟨pre, hpre, c, h1, h2, h3⟩)⟩
      · exact ⟨none, _, run_endLoop (P := Tryz.prog) h2 (by simp), hdone xs _ hall (hI _ _ _ h1 (turn _ _)) ((World.putObj_heap_other (by omega)).trans h3)⟩
      · exact ⟨some c, _, run_endLoop (P := Tryz.prog) h2 (by simp), hstop c pre _ hpre (hIx _ _ _ _ h1 (turn _ _)) ((World.putObj_heap_other (by omega)).trans h3)⟩


end Go.Proofs.YtglljkbpdbnhaaaGreatDoor

set_option linter.unusedVariables false
set_option linter.unusedSimpArgs false
namespace Go.Proofs.YtglljkbpdbnhaaaGreatDoor
open Go.RowKit Go.Shelf
attribute [local go_sem] Oper.semAt_some
namespace Ft

/-- A record's texts, as cells and as a value. -/
@[reducible] def c8 (r : Lm.Rec) : List Value := [.string (Lm.bs r.nam), .string (Lm.bs r.pat), .string (Lm.bs r.sys), .string (Lm.bs r.dec), .string (Lm.bs r.grp), .string (Lm.bs r.min), .string (Lm.bs r.per), .string (Lm.bs r.cur)]
@[reducible] def rV (r : Lm.Rec) : Value := .agg #[.string (Lm.bs r.nam), .string (Lm.bs r.pat), .string (Lm.bs r.sys), .string (Lm.bs r.dec), .string (Lm.bs r.grp), .string (Lm.bs r.min), .string (Lm.bs r.per), .string (Lm.bs r.cur)]
def flat : List Value := Fm.tab.flatMap c8
theorem flat_at : ∀ (l : List Lm.Rec) (k : Nat) (r : Lm.Rec) (j : Nat), l[k]? = some r → j < 8 → (l.flatMap c8)[k * 8 + j]? = (c8 r)[j]? := by
  intro l
  induction l with
  | nil => intro k r j h; simp at h
  | cons x l ih =>
    intro k r j h hj
    rw [List.flatMap_cons]
    cases k with
    | zero =>
      simp at h
      subst h
      rw [List.getElem?_append_left (by simp; omega)]
      congr 1; omega
    | succ k =>
      rw [List.getElem?_cons_succ] at h
      rw [List.getElem?_append_right (by simp; omega)]
      have := ih k r j h hj
      rw [← this]
      congr 1
      simp; omega
theorem tab_at {k : Nat} (h : k < 40) : Fm.tab[k]? = some (Fm.T k) := by
  have hl : k < Fm.tab.length := by rw [Fm.tab_len]; exact h
  unfold Fm.T
  rw [List.getD_eq_getElem?_getD, List.getElem?_eq_getElem hl]; rfl
theorem row_cell {w : World} {b : Nat} {T : TypeId} (h : Bk w b T flat) {k : Nat} (hk : k < 40) (j : Nat) {v : Value} (hv : (c8 (Fm.T k))[j]? = some v) : w.cell? ⟨b, k * 8 + j, none⟩ = some v := by
  have hj : j < 8 := (List.getElem?_eq_some_iff.1 hv).1
  exact h.cell _ ((flat_at _ k _ j (tab_at hk) hj).trans hv)

set_option maxRecDepth 1000000 in
set_option maxHeartbeats 4000000 in
theorem rows_any (w : World) : Calls Tryz.prog 97 #[] w fun e w' => e = .returned (.slice (some ⟨w.heap.size, 0, none⟩) 40 40) ∧ w' = w.alloc (.cells flat.toArray 138) :=
  calls_runF Tryz.func97 (by rfl) (W := w.alloc (.cells flat.toArray 138)) (v := .slice (some ⟨w.heap.size, 0, none⟩) 40 40) (by kernel_rfl) ⟨rfl, rfl⟩
theorem infoLR : (Tryz.prog.info? 32).map (·.size) = some 8 := by kernel_rfl

set_option maxRecDepth 100000 in
set_option maxHeartbeats 4000000 in
theorem record_any (r : Lm.Rec) (w : World) :
    Calls Tryz.prog 98 #[.agg #[.string (Lm.bs r.nam), .string (Lm.bs r.pat), .string (Lm.bs r.sys), .string (Lm.bs r.dec), .string (Lm.bs r.grp), .string (Lm.bs r.min), .string (Lm.bs r.per), .string (Lm.bs r.cur)]] w fun e w' => e = .returned (rV r) ∧ Q w w' := by
  have HRV : Hid (rV r = .agg #[.string (Lm.bs r.nam), .string (Lm.bs r.pat), .string (Lm.bs r.sys), .string (Lm.bs r.dec), .string (Lm.bs r.grp), .string (Lm.bs r.min), .string (Lm.bs r.per), .string (Lm.bs r.cur)]) := Lib.hid rfl
  rw [HRV.out]
  generalize Lm.bs r.nam = s0 at *
  generalize Lm.bs r.pat = s1 at *
  generalize Lm.bs r.sys = s2 at *
  generalize Lm.bs r.dec = s3 at *
  generalize Lm.bs r.grp = s4 at *
  generalize Lm.bs r.min = s5 at *
  generalize Lm.bs r.per = s6 at *
  generalize Lm.bs r.cur = s7 at *
  clear HRV
  obtain ⟨y, hy⟩ : ∃ y, y = w.alloc (.cells #[.string s0, .string s1, .string s2, .string s3, .string s4, .string s5, .string s6, .string s7] 138) := ⟨_, rfl⟩
  have hQY : Q w y := by rw [hy]; exact (Q.refl w).alloc _
  have hby : Bk y w.heap.size 138 [.string s0, .string s1, .string s2, .string s3, .string s4, .string s5, .string s6, .string s7] := by rw [hy]; exact Bk.new _ _ _
  have hys : y.heap.size = w.heap.size + 1 := by rw [hy]; simp
  obtain ⟨z, hz⟩ : ∃ z, z = y.alloc (.cells #[.string ⟨#[]⟩, .string ⟨#[]⟩, .string ⟨#[]⟩, .string ⟨#[]⟩, .string ⟨#[]⟩, .string ⟨#[]⟩, .string ⟨#[]⟩, .string ⟨#[]⟩] 32) := ⟨_, rfl⟩
  have hQZ : Q w z := by rw [hz]; exact hQY.alloc _
  have hb : Bk z w.heap.size 138 [.string s0, .string s1, .string s2, .string s3, .string s4, .string s5, .string s6, .string s7] := by rw [hz]; exact hby.q ((Q.refl y).alloc _)
  have h2 : Bk z (w.heap.size + 1) 32 [.string ⟨#[]⟩, .string ⟨#[]⟩, .string ⟨#[]⟩, .string ⟨#[]⟩, .string ⟨#[]⟩, .string ⟨#[]⟩, .string ⟨#[]⟩, .string ⟨#[]⟩] := by rw [hz, ← hys]; exact Bk.new _ _ _
  have HQZ := Lib.hid hQZ
  go_enter Tryz.func98, Tryz.ntmps98
  go_upto_region 1 with fail
  first | rw [← hy, ← hz] | (rw [hy] at hz; rw [← hz])
  clear hQZ hQY hby hz hy hys
  obtain ⟨B, hB⟩ : ∃ B, B = w.heap.size + 1 := ⟨_, rfl⟩
  have HWB := Lib.hid (show w.heap.size ≤ B by omega)
  rw [← hB] at h2 ⊢
  have c0 := hb.cell 0 rfl
  have c1 := hb.cell 1 rfl
  have c2 := hb.cell 2 rfl
  have c3 := hb.cell 3 rfl
  have c4 := hb.cell 4 rfl
  have c5 := hb.cell 5 rfl
  have c6 := hb.cell 6 rfl
  have c7 := hb.cell 7 rfl
  have p0 := h2.cell 0 rfl
  have f0 := h2.free 0
  have p1 := h2.cell 1 rfl
  have f1 := h2.free 1
  have p2 := h2.cell 2 rfl
  have f2 := h2.free 2
  have p3 := h2.cell 3 rfl
  have f3 := h2.free 3
  have p4 := h2.cell 4 rfl
  have f4 := h2.free 4
  have p5 := h2.cell 5 rfl
  have f5 := h2.free 5
  have p6 := h2.cell 6 rfl
  have f6 := h2.free 6
  have p7 := h2.cell 7 rfl
  have f7 := h2.free 7
  have HFB := Lib.hid ((((((((h2.set 0 (.string s0)).set 1 (.string s1)).set 2 (.string s2)).set 3 (.string s3)).set 4 (.string s4)).set 5 (.string s5)).set 6 (.string s6)).set 7 (.string s7))
  have HFQ := Lib.hid (Q.setCell (Q.setCell (Q.setCell (Q.setCell (Q.setCell (Q.setCell (Q.setCell (Q.setCell HQZ.out (ad := ⟨B, 0, none⟩) HWB.out (.string s0)) (ad := ⟨B, 1, none⟩) HWB.out (.string s1)) (ad := ⟨B, 2, none⟩) HWB.out (.string s2)) (ad := ⟨B, 3, none⟩) HWB.out (.string s3)) (ad := ⟨B, 4, none⟩) HWB.out (.string s4)) (ad := ⟨B, 5, none⟩) HWB.out (.string s5)) (ad := ⟨B, 6, none⟩) HWB.out (.string s6)) (ad := ⟨B, 7, none⟩) HWB.out (.string s7))
  clear h2 hb hB
  go_wp2_with fail
  refine ret_bk rfl Tryz.underlying32 (by exact infoLR) rfl HFB.out rfl ⟨?_, HFQ.out⟩
  rfl

theorem all_any (w : World) : Calls Tryz.prog 50 #[] w fun e w' => e = .returned (.func (.func 96) #[] #[]) ∧ w' = w := by
  go_enter Tryz.func50, Tryz.ntmps50
  go_wp2_with fail
  go_ret
  exact ⟨rfl, rfl⟩
/-- What a round must leave as it is: the rows. -/
def SetR (lo : Nat) (k : Nat) : Prop := k = lo
theorem range_add (k : Nat) : List.range k ++ [k] = List.range (k + 1) := List.range_succ.symm

set_option maxRecDepth 100000 in
set_option maxHeartbeats 4000000 in
theorem all_iter (lo : Nat) (w0 : World) :
    Iter 96 #[] (fun i : Nat => #[.string (Lm.bs (Fm.T i).nam), rV (Fm.T i)]) lo (lo + 1) (SetR lo) (fun pre => ∃ k, k ≤ 40 ∧ pre = List.range k) (fun xs => xs = List.range 40) w0 := by
  intro l J Jx W hW hqW hJ hY h0
  refine callsIn_of_wp Tryz.func96 rfl trivial ?_ rfl
  simp only [Tryz.ntmps96, List.size_toArray, List.length_cons, List.length_nil, Nat.reduceAdd, Nat.reduceSub, Array.replicate_succ, Array.replicate_zero, List.push_toArray, List.append_toArray, List.nil_append, List.cons_append]
  gi_wp2_with fail
  refine ⟨trivial, rfl, (callsIn_wide.2 (rows_any W)).mono ?_⟩
  rintro e w1 ⟨rfl, rfl⟩
  have hB := Bk.new W 138 flat
  have h1 := hJ _ _ _ h0 (((Q.refl W).alloc (.cells flat.toArray 138)).gap _ _)
  have hz1 : (W.alloc (.cells flat.toArray 138)).heap.size = W.heap.size + 1 := by simp
  generalize W.alloc (.cells flat.toArray 138) = w1 at *
  rw [hW] at hB hz1 ⊢
  have hz1 : lo + 1 ≤ w1.heap.size := by omega
  clear hW h0 hqW
  gi_wp2_with fail
  gi_loopw [7] (fun v wr => ∃ k : Nat, v = .int .i64 k ∧ k ≤ 40 ∧ Bk wr lo 138 flat ∧ J (List.range k) wr ∧ lo + 1 ≤ wr.heap.size) (fun v _ => 40 - (intOf v).toNat)
  case atStart => exact ⟨0, rfl, by omega, hB, h1, hz1⟩
  case round =>
    obtain ⟨k, rfl, hk, hB, hJr, hzr⟩ := hrel
    by_cases hk40 : k < 40
    · have hki : (k : Int) < 40 := by omega
      have c0 : wr.cell? ⟨lo, k * 8, none⟩ = _ := row_cell hB hk40 0 rfl
      have c1 := row_cell hB hk40 1 rfl
      have c2 := row_cell hB hk40 2 rfl
      have c3 := row_cell hB hk40 3 rfl
      have c4 := row_cell hB hk40 4 rfl
      have c5 := row_cell hB hk40 5 rfl
      have c6 := row_cell hB hk40 6 rfl
      have c7 := row_cell hB hk40 7 rfl
      have HT : Hid (rV (Fm.T k) = .agg #[.string (Lm.bs (Fm.T k).nam), .string (Lm.bs (Fm.T k).pat), .string (Lm.bs (Fm.T k).sys), .string (Lm.bs (Fm.T k).dec), .string (Lm.bs (Fm.T k).grp), .string (Lm.bs (Fm.T k).min), .string (Lm.bs (Fm.T k).per), .string (Lm.bs (Fm.T k).cur)]) := Lib.hid rfl
      have HRC := Lib.hid (fun u => record_any (Fm.T k) u)
      obtain ⟨s0, hs0⟩ : ∃ s, s = Lm.bs (Fm.T k).nam := ⟨_, rfl⟩
      obtain ⟨s1, hs1⟩ : ∃ s, s = Lm.bs (Fm.T k).pat := ⟨_, rfl⟩
      obtain ⟨s2, hs2⟩ : ∃ s, s = Lm.bs (Fm.T k).sys := ⟨_, rfl⟩
      obtain ⟨s3, hs3⟩ : ∃ s, s = Lm.bs (Fm.T k).dec := ⟨_, rfl⟩
      obtain ⟨s4, hs4⟩ : ∃ s, s = Lm.bs (Fm.T k).grp := ⟨_, rfl⟩
      obtain ⟨s5, hs5⟩ : ∃ s, s = Lm.bs (Fm.T k).min := ⟨_, rfl⟩
      obtain ⟨s6, hs6⟩ : ∃ s, s = Lm.bs (Fm.T k).per := ⟨_, rfl⟩
      obtain ⟨s7, hs7⟩ : ∃ s, s = Lm.bs (Fm.T k).cur := ⟨_, rfl⟩
      rw [← hs0, ← hs1, ← hs2, ← hs3, ← hs4, ← hs5, ← hs6, ← hs7] at HT
      simp only [HT.out, ← hs0, ← hs1, ← hs2, ← hs3, ← hs4, ← hs5, ← hs6, ← hs7] at HRC
      rw [← hs0] at c0
      rw [← hs1] at c1
      rw [← hs2] at c2
      rw [← hs3] at c3
      rw [← hs4] at c4
      rw [← hs5] at c5
      rw [← hs6] at c6
      rw [← hs7] at c7
      have HN : Hid (Lm.bs (Fm.T k).nam = s0) := Lib.hid hs0.symm
      clear hs0 hs1 hs2 hs3 hs4 hs5 hs6 hs7
      obtain ⟨w2, hw2⟩ : ∃ x, x = wr.alloc (.cells #[.string s0, .string s1, .string s2, .string s3, .string s4, .string s5, .string s6, .string s7] 138) := ⟨_, rfl⟩
      have HQ2 := Lib.hid (show Q wr w2 by rw [hw2]; exact (Q.refl wr).alloc _)
      have hb2 : Bk w2 wr.heap.size 138 [.string s0, .string s1, .string s2, .string s3, .string s4, .string s5, .string s6, .string s7] := by rw [hw2]; exact Bk.new _ _ _
      obtain ⟨b2, hb2e⟩ : ∃ b, b = wr.heap.size := ⟨_, rfl⟩
      rw [← hb2e] at hb2
      have hzb : lo + 1 ≤ b2 := by omega
      gi_wp2_with fail
      try rw [← hw2]
      refine ⟨trivial, rfl, (callsIn_wide.2 (HRC.out _)).mono ?_⟩
      rintro e w3 ⟨rfl, hq3⟩
      have HQ4 := Lib.hid (show Q wr (w3.alloc (.cells #[.string s0, .string s1, .string s2, .string s3, .string s4, .string s5, .string s6, .string s7] 32)) from (HQ2.out.trans hq3).alloc _)
      have hb4 : Bk (w3.alloc (.cells #[.string s0, .string s1, .string s2, .string s3, .string s4, .string s5, .string s6, .string s7] 32)) w3.heap.size 32 [.string s0, .string s1, .string s2, .string s3, .string s4, .string s5, .string s6, .string s7] := Bk.new _ _ _
      have hB4 := Lib.hid (hB.q HQ4.out)
      have hz4 : lo + 1 ≤ (w3.alloc (.cells #[.string s0, .string s1, .string s2, .string s3, .string s4, .string s5, .string s6, .string s7] 32)).heap.size := Nat.le_trans hzr HQ4.out.size
      have hYk := hY (List.range k) k _ (hJ _ _ _ hJr (HQ4.out.gap _ _)) hz4 ⟨k + 1, by omega, range_add k⟩
      rw [HT.out, HN.out, range_add] at hYk
      obtain ⟨fn, tmps, assign, body, hy, hR⟩ := hYk
      have hz5 := Lib.hid hz4
      clear hq3 hb2 hzb hb2e hw2 hz4 c0 c1 c2 c3 c4 c5 c6 c7 hB
      have m0 := hb4.cell 0 rfl
      have m1 := hb4.cell 1 rfl
      have m2 := hb4.cell 2 rfl
      have m3 := hb4.cell 3 rfl
      have m4 := hb4.cell 4 rfl
      have m5 := hb4.cell 5 rfl
      have m6 := hb4.cell 6 rfl
      have m7 := hb4.cell 7 rfl
      clear hb4
      gi_wp2_with fail
      refine ⟨rfl, hR.mono ?_⟩
      rintro e w5 (⟨rfl, hJ5, hk5⟩ | ⟨rfl, hJx⟩)
      · have hB5 : Bk w5 lo 138 flat := hk5.heap rfl hB4.out
        have hz6 : lo + 1 ≤ w5.heap.size := Nat.le_trans hz5.out hk5.size
        clear m0 m1 m2 m3 m4 m5 m6 m7
        gi_wp2_with fail
        go_roundw
        case rel => exact ⟨k + 1, by go_num, by omega, hB5, hJ5, hz6⟩
        case measure => simp [intOf]; omega
      · gi_wp2_with fail
        refine bodyPost_ret (results_none rfl _ _ _) rfl ?_
        exact ⟨⟨_, rfl⟩, .inr ⟨_, ⟨k + 1, by omega, rfl⟩, hJx⟩⟩
    · have hk4 : k = 40 := by omega
      subst hk4
      gi_wp2_with fail
      go_end0
      exact ⟨⟨_, rfl⟩, .inl ⟨_, rfl, hJr⟩⟩

end Ft
end Go.Proofs.YtglljkbpdbnhaaaGreatDoor

set_option linter.unusedVariables false
set_option linter.unusedSimpArgs false
namespace Go.Proofs.YtglljkbpdbnhaaaGreatDoor
open Go.RowKit Go.Shelf Um
attribute [local go_sem] Oper.semAt_some
namespace Ft

theorem loadVar_plain {U : TypeId} {w : World} {b : Nat} {v : Value} (hU : ∀ w, (isAgg U).run Tryz.prog w = .ok false w) (hb : w.cell? ⟨b, 0, none⟩ = some v) :
    (loadVar U ⟨b, 0, none⟩).run Tryz.prog w = .ok v w := by
  simp [loadVar, Sem.run_bind, hU, go_sem, hb]
/-- Two results that lie in blocks: a struct and a plain one. -/
theorem results_rc {fn : Func} {p q : Tmp} {T U : TypeId} (h : fn.results = #[.cell p T, .cell q U]) (tmps : Array Value) (w : World) (g b : Nat) (l : List Value) (v : Value) {fs : _}
    (hp : tmps.getD p undef = .pointer (some ⟨g, 0, none⟩)) (hq : tmps.getD q undef = .pointer (some ⟨b, 0, none⟩)) (hg : Bk w g T l) (hu : Tryz.prog.underlying T = some (.struct fs)) (hi : (Tryz.prog.info? T).map (·.size) = some l.length)
    (hb : w.cell? ⟨b, 0, none⟩ = some v) (hU : ∀ w, (isAgg U).run Tryz.prog w = .ok false w) : (results fn tmps).run Tryz.prog w = .ok (.tuple #[.agg l.toArray, v]) w := by
  have hp' : tmps[p]?.getD undef = .pointer (some ⟨g, 0, none⟩) := by simpa using hp
  have hq' : tmps[q]?.getD undef = .pointer (some ⟨b, 0, none⟩) := by simpa using hq
  have h1 := run_loadVar_row w g T T l.toArray (0, 0) _ hg hu rfl (by simpa using hi)
  have h2 := loadVar_plain hU hb
  simp [results, h, hp', hq', asAddr, Sem.run_bind, Result.andThen, h1, h2]
theorem results_cc {fn : Func} {p q : Tmp} {T U : TypeId} (h : fn.results = #[.cell p T, .cell q U]) (tmps : Array Value) (w : World) (g b : Nat) (u v : Value)
    (hp : tmps.getD p undef = .pointer (some ⟨g, 0, none⟩)) (hq : tmps.getD q undef = .pointer (some ⟨b, 0, none⟩)) (hg : w.cell? ⟨g, 0, none⟩ = some u) (hT : ∀ w, (isAgg T).run Tryz.prog w = .ok false w)
    (hb : w.cell? ⟨b, 0, none⟩ = some v) (hU : ∀ w, (isAgg U).run Tryz.prog w = .ok false w) : (results fn tmps).run Tryz.prog w = .ok (.tuple #[u, v]) w := by
  have hp' : tmps[p]?.getD undef = .pointer (some ⟨g, 0, none⟩) := by simpa using hp
  have hq' : tmps[q]?.getD undef = .pointer (some ⟨b, 0, none⟩) := by simpa using hq
  have h1 := loadVar_plain hT hg
  have h2 := loadVar_plain hU hb
  simp [results, h, hp', hq', asAddr, Sem.run_bind, Result.andThen, h1, h2]
theorem plainE : ∀ w, (isAgg 67).run Tryz.prog w = .ok false w := run_isAgg_plain Tryz.underlying67 rfl
theorem plainS : ∀ w, (isAgg 9).run Tryz.prog w = .ok false w := run_isAgg_plain Tryz.underlying9 rfl
theorem range_snoc {k j x : Nat} (h : List.range k ++ [x] = List.range j) : x = k ∧ j = k + 1 := by
  have hl := congrArg List.length h
  simp at hl
  subst hl
  rw [List.range_succ] at h
  simpa using h
theorem bk_gap {w w' : World} {lo hi b : Nat} {T : TypeId} {l : List Value} (h : Bk w b T l) (hg : Gap lo hi w w') (ho : b < lo ∨ hi ≤ b) : Bk w' b T l := (hg.block b h.lt ho).trans h
theorem bk_heap {w w' : World} {b : Nat} {T : TypeId} {l : List Value} (h : Bk w b T l) (e : w'.heap[b]? = w.heap[b]?) : Bk w' b T l := e.trans h
/-- A block of eight cells, all written. -/
theorem bk_set8 {w : World} {b : Nat} {T : TypeId} {l : List Value} (h : Bk w b T l) (hl : l.length = 8) (a0 a1 a2 a3 a4 a5 a6 a7 : Value) :
    Bk ((((((((w.setCell ⟨b, 0, none⟩ a0).setCell ⟨b, 1, none⟩ a1).setCell ⟨b, 2, none⟩ a2).setCell ⟨b, 3, none⟩ a3).setCell ⟨b, 4, none⟩ a4).setCell ⟨b, 5, none⟩ a5).setCell ⟨b, 6, none⟩ a6).setCell ⟨b, 7, none⟩ a7) b T [a0, a1, a2, a3, a4, a5, a6, a7] := by
  match l, hl, h with
  | [_, _, _, _, _, _, _, _], _, h => exact (((((((h.set 0 a0).set 1 a1).set 2 a2).set 3 a3).set 4 a4).set 5 a5).set 6 a6).set 7 a7
theorem set8_gap (w : World) (b : Nat) (a0 a1 a2 a3 a4 a5 a6 a7 : Value) :
    Gap b (b + 1) w ((((((((w.setCell ⟨b, 0, none⟩ a0).setCell ⟨b, 1, none⟩ a1).setCell ⟨b, 2, none⟩ a2).setCell ⟨b, 3, none⟩ a3).setCell ⟨b, 4, none⟩ a4).setCell ⟨b, 5, none⟩ a5).setCell ⟨b, 6, none⟩ a6).setCell ⟨b, 7, none⟩ a7) :=
  have g := fun (u : World) (o : Nat) (v : Value) => Gap.setCell u b o v b (b + 1) (Nat.le_refl _) (Nat.lt_succ_self _)
  (((((((g _ 0 a0).trans (g _ 1 a1)).trans (g _ 2 a2)).trans (g _ 3 a3)).trans (g _ 4 a4)).trans (g _ 5 a5)).trans (g _ 6 a6)).trans (g _ 7 a7)
theorem gap_stand {lo hi : Nat} {A A' : World} {S : Nat → Prop} (h : Gap lo hi A A') (hs : ∀ k, S k → k < lo ∨ hi ≤ k) : Stand S A A' := ⟨h.size, fun k hk hsk => h.block k hk (hs k hsk)⟩

def rr (s : ByteArray) : Lm.Rec := if 0 ≤ Fm.fnd s.data.toList 40 then Fm.T (Fm.fnd s.data.toList 40).toNat else Fm.rec0
def er (s : ByteArray) : Int := if 0 ≤ Fm.fnd s.data.toList 40 then 0 else 7
theorem rV0 : rV Fm.rec0 = .agg #[.string ⟨#[]⟩, .string ⟨#[]⟩, .string ⟨#[]⟩, .string ⟨#[]⟩, .string ⟨#[]⟩, .string ⟨#[]⟩, .string ⟨#[]⟩, .string ⟨#[]⟩] := rfl
set_option maxRecDepth 100000 in
set_option maxHeartbeats 2000000 in
theorem record_get (s : ByteArray) (w : World) :
    Calls Tryz.prog 27 #[.string s] w fun e w' => e = .returned (.tuple #[rV (rr s), .int .i64 (er s)]) ∧ Q w w' := by
  refine (callsIn_wide (n := 0)).1 ?_
  refine callsIn_of_wp_marks Tryz.func27 rfl trivial ?_ rfl
  simp only [Tryz.ntmps27, List.size_toArray, List.length_cons, List.length_nil, Nat.reduceAdd, Nat.reduceSub, Array.replicate_succ, Array.replicate_zero, List.push_toArray, List.append_toArray, List.nil_append, List.cons_append]
  gi_wp2_with fail
  refine ⟨trivial, rfl, (callsIn_wide.2 (all_any _)).mono ?_⟩
  rintro e w' ⟨rfl, hw'⟩
  have b1 : Bk (w.alloc (.cells #[.string s] 9)) w.heap.size 9 [.string s] := Bk.new _ _ _
  have b2 : Bk ((w.alloc (.cells #[.string s] 9)).alloc (.cells #[.string ⟨#[]⟩, .string ⟨#[]⟩, .string ⟨#[]⟩, .string ⟨#[]⟩, .string ⟨#[]⟩, .string ⟨#[]⟩, .string ⟨#[]⟩, .string ⟨#[]⟩] 32)) (w.alloc (.cells #[.string s] 9)).heap.size 32 [.string ⟨#[]⟩, .string ⟨#[]⟩, .string ⟨#[]⟩, .string ⟨#[]⟩, .string ⟨#[]⟩, .string ⟨#[]⟩, .string ⟨#[]⟩, .string ⟨#[]⟩] := Bk.new _ _ _
  have b3 : Bk (((w.alloc (.cells #[.string s] 9)).alloc (.cells #[.string ⟨#[]⟩, .string ⟨#[]⟩, .string ⟨#[]⟩, .string ⟨#[]⟩, .string ⟨#[]⟩, .string ⟨#[]⟩, .string ⟨#[]⟩, .string ⟨#[]⟩] 32)).alloc (.cells #[.int .i64 0] 67)) ((w.alloc (.cells #[.string s] 9)).alloc (.cells #[.string ⟨#[]⟩, .string ⟨#[]⟩, .string ⟨#[]⟩, .string ⟨#[]⟩, .string ⟨#[]⟩, .string ⟨#[]⟩, .string ⟨#[]⟩, .string ⟨#[]⟩] 32)).heap.size 67 [.int .i64 0] := Bk.new _ _ _
  have b1 := (b1.q ((Q.refl _).alloc (.cells #[.string ⟨#[]⟩, .string ⟨#[]⟩, .string ⟨#[]⟩, .string ⟨#[]⟩, .string ⟨#[]⟩, .string ⟨#[]⟩, .string ⟨#[]⟩, .string ⟨#[]⟩] 32))).q ((Q.refl _).alloc (.cells #[.int .i64 0] 67))
  have b2 := b2.q ((Q.refl _).alloc (.cells #[.int .i64 0] 67))
  have hq0 : Q w (((w.alloc (.cells #[.string s] 9)).alloc (.cells #[.string ⟨#[]⟩, .string ⟨#[]⟩, .string ⟨#[]⟩, .string ⟨#[]⟩, .string ⟨#[]⟩, .string ⟨#[]⟩, .string ⟨#[]⟩, .string ⟨#[]⟩] 32)).alloc (.cells #[.int .i64 0] 67)) := (((Q.refl w).alloc _).alloc _).alloc _
  have hz0 : (((w.alloc (.cells #[.string s] 9)).alloc (.cells #[.string ⟨#[]⟩, .string ⟨#[]⟩, .string ⟨#[]⟩, .string ⟨#[]⟩, .string ⟨#[]⟩, .string ⟨#[]⟩, .string ⟨#[]⟩, .string ⟨#[]⟩] 32)).alloc (.cells #[.int .i64 0] 67)).heap.size = w.heap.size + 3 := by simp
  rw [← hw'] at b1 b2 b3 hq0 hz0
  simp only [World.size_alloc] at b2 b3
  clear hw'
  gi_wp2_with fail
  try simp only [World.size_alloc]
  have hz1 : w'.heap.size ≤ w.heap.size + 3 := by omega
  have hz2 : w.heap.size + 3 ≤ w'.heap.size := by omega
  clear hz0
  refine range_any2 (gf := 96) (lb := #[]) rfl (enters_of Tryz.func96 (by kernel_rfl) rfl) (fun _ => rfl)
    (all_iter (w'.heap.size + 1 + 1) w') (by unfold SetR; omega) (by omega)
    (fun pre W => (∃ k, k ≤ 40 ∧ pre = List.range k ∧ Fm.fnd s.data.toList k < 0) ∧ Bk W w.heap.size 9 [.string s] ∧ Bk W (w.heap.size + 1) 32 [.string ⟨#[]⟩, .string ⟨#[]⟩, .string ⟨#[]⟩, .string ⟨#[]⟩, .string ⟨#[]⟩, .string ⟨#[]⟩, .string ⟨#[]⟩, .string ⟨#[]⟩] ∧ Bk W (w.heap.size + 1 + 1) 67 [.int .i64 0] ∧ Q w W)
    (fun c pre W => c = .ret ∧ 0 ≤ Fm.fnd s.data.toList 40 ∧ Bk W (w.heap.size + 1) 32 (c8 (Fm.T (Fm.fnd s.data.toList 40).toNat)) ∧ Bk W (w.heap.size + 1 + 1) 67 [.int .i64 0] ∧ Q w W)
    ?hI ?hIx ⟨⟨0, by omega, rfl, (by decide : (-1 : Int) < 0)⟩, b1, b2, b3, hq0⟩
    (fun x a W => ∃ b, w'.heap.size + 1 + 1 + 1 ≤ b ∧ Bk W b 32 (c8 (Fm.T x)) ∧ a = { tmps := #[.string s, .pointer (some ⟨w.heap.size, 0, none⟩), .pointer (some ⟨w.heap.size + 1, 0, none⟩), .pointer (some ⟨w.heap.size + 1 + 1, 0, none⟩), .string (Lm.bs (Fm.T x).nam), .pointer (some ⟨b, 0, none⟩), .func (.func 96) #[] #[], .string (Lm.bs (Fm.T x).nam), rV (Fm.T x), undef, undef, undef, undef, undef], defers := [] }) ?hAs ?assign ?body ?done ?stop
  case hI =>
    rintro pre A A' ⟨hk, h1, h2, h3, hq⟩ hg
    exact ⟨hk, bk_gap h1 hg (.inl (by omega)), bk_gap h2 hg (.inl (by omega)), bk_gap h3 hg (.inl (by omega)), hq.gapped hg (by omega)⟩
  case hIx =>
    rintro c pre A A' ⟨hc, hf, h2, h3, hq⟩ hg
    exact ⟨hc, hf, bk_gap h2 hg (.inl (by omega)), bk_gap h3 hg (.inl (by omega)), hq.gapped hg (by omega)⟩
  case hAs =>
    rintro x a A A' ⟨b, hb, h1, ha⟩ hg
    exact ⟨b, hb, bk_gap h1 hg (.inr hb), ha⟩
  case assign =>
    intro l x W K hz hK
    gi_wp2_with fail
    refine hK _ (W.alloc (.cells #[.string (Lm.bs (Fm.T x).nam), .string (Lm.bs (Fm.T x).pat), .string (Lm.bs (Fm.T x).sys), .string (Lm.bs (Fm.T x).dec), .string (Lm.bs (Fm.T x).grp), .string (Lm.bs (Fm.T x).min), .string (Lm.bs (Fm.T x).per), .string (Lm.bs (Fm.T x).cur)] 32)) ((Q.refl W).alloc _) ⟨W.heap.size, hz, Bk.new _ _ _, ?_⟩
    rfl
  case body =>
    rintro l pre x a W ⟨⟨k, hk, rfl, hf⟩, h1, h2, h3, hq⟩ ⟨b, hb, hx, rfl⟩ hz ⟨j, hj, hjr⟩
    obtain ⟨rfl, rfl⟩ := range_snoc hjr
    have HF := Lib.hid hf
    have HQ := Lib.hid hq
    have HX := Lib.hid hx
    have H2 := Lib.hid h2
    have H3 := Lib.hid h3
    have cs := h1.cell 0 rfl
    obtain ⟨n, hn⟩ : ∃ n, n = Lm.bs (Fm.T x).nam := ⟨_, rfl⟩
    have HN := Lib.hid hn
    clear hf hq hjr
    by_cases he : n = s
    · have hfin : (x : Int) = Fm.fnd s.data.toList 40 := by
        have h1 : Fm.fnd s.data.toList (x + 1) = x := Fm.fnd_hit HF.out (by rw [← he, HN.out, Lm.bs_list]; rfl)
        rw [← h1]; exact (Fm.fnd_stay (by omega) 40 (by omega)).symm
      have HG := Lib.hid hfin
      have hns : Lm.bs (Fm.T x).nam = s := by rw [← hn, he]
      rw [hns]
      have HNS := Lib.hid hns
      clear hfin he hn HN h1
      have x0 := hx.cell 0 rfl
      have x1 := hx.cell 1 rfl
      have x2 := hx.cell 2 rfl
      have x3 := hx.cell 3 rfl
      have x4 := hx.cell 4 rfl
      have x5 := hx.cell 5 rfl
      have x6 := hx.cell 6 rfl
      have x7 := hx.cell 7 rfl
      have p0 := h2.cell 0 rfl
      have f0 := h2.free 0
      have p1 := h2.cell 1 rfl
      have f1 := h2.free 1
      have p2 := h2.cell 2 rfl
      have f2 := h2.free 2
      have p3 := h2.cell 3 rfl
      have f3 := h2.free 3
      have p4 := h2.cell 4 rfl
      have f4 := h2.free 4
      have p5 := h2.cell 5 rfl
      have f5 := h2.free 5
      have p6 := h2.cell 6 rfl
      have f6 := h2.free 6
      have p7 := h2.cell 7 rfl
      have f7 := h2.free 7
      have e0 := h3.cell 0 rfl
      have g0 := h3.free 0
      gi_wp2_with fail
      refine ⟨(gap_stand (set8_gap W (w.heap.size + 1) _ _ _ _ _ _ _ _) ?_).trans (gap_stand (Gap.setCell _ (w.heap.size + 1 + 1) 0 _ (w.heap.size + 1 + 1) (w.heap.size + 1 + 1 + 1) (Nat.le_refl _) (Nat.lt_succ_self _)) ?_), rfl, by rw [← HG.out]; omega, ?_, ?_, ?_⟩
      · intro k hk; simp only [SetR] at hk; omega
      · intro k hk; simp only [SetR] at hk; omega
      · rw [show (Fm.fnd s.data.toList 40).toNat = x by rw [← HG.out]; simp]
        have h := bk_gap (bk_set8 H2.out rfl (.string (Lm.bs (Fm.T x).nam)) (.string (Lm.bs (Fm.T x).pat)) (.string (Lm.bs (Fm.T x).sys)) (.string (Lm.bs (Fm.T x).dec)) (.string (Lm.bs (Fm.T x).grp)) (.string (Lm.bs (Fm.T x).min)) (.string (Lm.bs (Fm.T x).per)) (.string (Lm.bs (Fm.T x).cur))) (Gap.setCell _ (w.heap.size + 1 + 1) 0 (.int .i64 0) (w.heap.size + 1 + 1) (w.heap.size + 1 + 1 + 1) (Nat.le_refl _) (Nat.lt_succ_self _)) (.inl (by omega))
        rw [HNS.out] at h
        show Bk _ _ _ [.string (Lm.bs (Fm.T x).nam), _, _, _, _, _, _, _]
        rw [HNS.out]
        exact h
      · exact (bk_gap H3.out (set8_gap W (w.heap.size + 1) _ _ _ _ _ _ _ _) (.inr (by omega))).set 0 _
      · exact (HQ.out.gapped (set8_gap W (w.heap.size + 1) _ _ _ _ _ _ _ _) (by omega)).gapped (Gap.setCell _ (w.heap.size + 1 + 1) 0 _ (w.heap.size + 1 + 1) (w.heap.size + 1 + 1 + 1) (Nat.le_refl _) (Nat.lt_succ_self _)) (by omega)
    · have hne := str_ne he
      have HG := Lib.hid (show Fm.fnd s.data.toList (x + 1) < 0 from Fm.fnd_miss HF.out (fun h => he (by
        rw [HN.out]; exact Fm.bs_of h)))
      have H1 := Lib.hid h1
      rw [← hn]
      clear he hn h1
      gi_wp2_with fail
      exact ⟨Stand.refl _ _, ⟨x + 1, by omega, range_add x, HG.out⟩, H1.out, H2.out, H3.out, HQ.out⟩
  case done =>
    rintro xs W rfl ⟨⟨k, hk, hk2, hf⟩, h1, h2, h3, hq⟩ hK
    have hk3 := congrArg List.length hk2
    simp only [List.length_range] at hk3
    subst hk3
    have HR := Lib.hid (show rr s = Fm.rec0 from if_neg (by omega))
    have HE := Lib.hid (show er s = 7 from if_neg (by omega))
    have HQ := Lib.hid hq
    have H2 := Lib.hid h2
    have H3 := Lib.hid h3
    clear hf hk hk2 h1 hq
    have p0 := h2.cell 0 rfl
    have f0 := h2.free 0
    have p1 := h2.cell 1 rfl
    have f1 := h2.free 1
    have p2 := h2.cell 2 rfl
    have f2 := h2.free 2
    have p3 := h2.cell 3 rfl
    have f3 := h2.free 3
    have p4 := h2.cell 4 rfl
    have f4 := h2.free 4
    have p5 := h2.cell 5 rfl
    have f5 := h2.free 5
    have p6 := h2.cell 6 rfl
    have f6 := h2.free 6
    have p7 := h2.cell 7 rfl
    have f7 := h2.free 7
    have e0 := h3.cell 0 rfl
    have g0 := h3.free 0
    have G8 := Lib.hid (set8_gap W (w.heap.size + 1) (.string ⟨#[]⟩) (.string ⟨#[]⟩) (.string ⟨#[]⟩) (.string ⟨#[]⟩) (.string ⟨#[]⟩) (.string ⟨#[]⟩) (.string ⟨#[]⟩) (.string ⟨#[]⟩))
    have B8 := Lib.hid (bk_set8 H2.out rfl (.string ⟨#[]⟩) (.string ⟨#[]⟩) (.string ⟨#[]⟩) (.string ⟨#[]⟩) (.string ⟨#[]⟩) (.string ⟨#[]⟩) (.string ⟨#[]⟩) (.string ⟨#[]⟩))
    gi_wp2_with fail
    have g1 := fun u => Gap.setCell u (w.heap.size + 1 + 1) 0 (.int .i64 7) (w.heap.size + 1 + 1) (w.heap.size + 1 + 1 + 1) (Nat.le_refl _) (Nat.lt_succ_self _)
    have HB9 := Lib.hid (bk_gap B8.out (g1 _) (.inl (by omega)))
    have HE9 := Lib.hid ((bk_gap H3.out G8.out (.inr (by omega))).set 0 (.int .i64 7))
    have HQ9 := Lib.hid ((HQ.out.gapped G8.out (by omega)).gapped (g1 _) (by omega))
    have hK8 := (G8.out.block _ (Array.getElem?_eq_some_iff.1 hK).1 (.inr (by omega))).trans hK
    have hK9 := ((g1 _).block _ (Array.getElem?_eq_some_iff.1 hK8).1 (.inr (by omega))).trans hK8
    have g := fun u => Gap.putObj u w'.heap.size (.deferred none) w'.heap.size (w'.heap.size + 1) (Nat.le_refl _) (Nat.lt_succ_self _)
    refine ⟨by simp, .inl ⟨_, _, rfl, run_takeDeferred hK9, ?_⟩⟩
    exact ⟨_, results_rc rfl _ _ _ _ _ _ rfl rfl (bk_gap HB9.out (g _) (.inl (by omega))) Tryz.underlying32 (by exact infoLR) ((bk_gap HE9.out (g _) (.inl (by omega))).cell 0 rfl) plainE, by rw [HR.out, HE.out]; rfl, HQ9.out.gapped (g _) (by omega)⟩
  case stop =>
    rintro c pre W _ ⟨rfl, hf, h2, h3, hq⟩ hK
    have HR := Lib.hid (show rr s = Fm.T (Fm.fnd s.data.toList 40).toNat from if_pos hf)
    have HE := Lib.hid (show er s = 0 from if_pos hf)
    gi_wp2_with fail
    have g := Gap.putObj W w'.heap.size (.deferred none) w'.heap.size (w'.heap.size + 1) (Nat.le_refl _) (Nat.lt_succ_self _)
    refine ⟨by simp, .inl ⟨_, _, rfl, run_takeDeferred hK, ?_⟩⟩
    exact ⟨_, results_rc rfl _ _ _ _ _ _ rfl rfl (bk_gap h2 g (.inl (by omega))) Tryz.underlying32 (by exact infoLR) ((bk_gap h3 g (.inl (by omega))).cell 0 rfl) plainE, by rw [HR.out, HE.out], hq.gapped g (by omega)⟩

end Ft
end Go.Proofs.YtglljkbpdbnhaaaGreatDoor

set_option linter.unusedVariables false
set_option linter.unusedSimpArgs false
namespace Go.Proofs.YtglljkbpdbnhaaaGreatDoor
open Go.Shelf
namespace Sc
def shelfIndexLRen : Go.Shelf.Ren := ⟨fun | 217 => 180 | 219 => 168 | 224 => 182 | 225 => 181 | 266 => 196 | 267 => 183 | 314 => 197 | n => n, fun | 3 => 3 | 4 => 4 | 5 => 5 | 9 => 9 | 46 => 217 | 51 => 226 | 146 => 227 | n => n, fun | 1 => 0 | n => n⟩
theorem shelfIndexL : Go.Proofs.Lays.n219 Tryz.prog shelfIndexLRen := {
  mixed := by kernel_rfl
  f217 := Tryz.func180.trans (congrArg some (by kernel_rfl))
  f219 := Tryz.func168.trans (congrArg some (by kernel_rfl))
  f224 := Tryz.func182.trans (congrArg some (by kernel_rfl))
  f225 := Tryz.func181.trans (congrArg some (by kernel_rfl))
  f266 := Tryz.func196.trans (congrArg some (by kernel_rfl))
  f267 := Tryz.func183.trans (congrArg some (by kernel_rfl))
  f314 := Tryz.func197.trans (congrArg some (by kernel_rfl))
  t3 := Tryz.underlying3
  a3 := Tryz.isAgg3
  z3 := Tryz.sizeOf3
  v3 := Tryz.zeroValue3
  t4 := Tryz.underlying4
  a4 := Tryz.isAgg4
  z4 := Tryz.sizeOf4
  v4 := Tryz.zeroValue4
  t5 := Tryz.underlying5
  a5 := Tryz.isAgg5
  z5 := Tryz.sizeOf5
  v5 := Tryz.zeroValue5
  t9 := Tryz.underlying9
  a9 := Tryz.isAgg9
  z9 := Tryz.sizeOf9
  v9 := Tryz.zeroValue9
  t46 := Tryz.underlying217
  a46 := Tryz.isAgg217
  z46 := Tryz.sizeOf217
  v46 := Tryz.zeroValue217
  t51 := Tryz.underlying226
  a51 := Tryz.isAgg226
  z51 := Tryz.sizeOf226
  v51 := Tryz.zeroValue226
  t146 := Tryz.underlying227
  a146 := Tryz.isAgg227
  z146 := Tryz.sizeOf227
  v146 := Tryz.zeroValue227
  g1 := by kernel_rfl }

open Go.RowKit Go.Lib in
open Go.RowKit Go.Lib in
theorem indexL_any (s : ByteArray) (c : UInt8) (w : World) : Calls Tryz.prog 168 #[.string s, .string ⟨#[c]⟩] w fun e w' => e = .returned (.int .i64 (Lib.indexByte s.data.toList c)) ∧ w' = w := Any.stringslite_Index_one shelfIndexL s c w

open Go.RowKit in
set_option maxHeartbeats 1000000 in
theorem cutL_any (s : ByteArray) (c : UInt8) (w : World) (hs : s.size ≤ 1000000) :
    Calls Tryz.prog 152 #[.string s, .string ⟨#[c]⟩] w fun e w' => e = .returned (.tuple #[.string ⟨(Lib.cut s.data.toList [c]).1.toArray⟩, .string ⟨(Lib.cut s.data.toList [c]).2.1.toArray⟩, .bool (Lib.cut s.data.toList [c]).2.2]) ∧ Q w w' := by
  have hI := fun w => indexL_any s c w
  have e0 : Lib.indexB s ⟨#[c]⟩ = Lib.indexByte s.data.toList c := Lib.index_one _ _
  rw [← e0] at hI
  rcases Lib.indexB_cases s ⟨#[c]⟩ with hix | ⟨i, hix, hroom⟩
  · obtain ⟨e1, e2, e3⟩ := Lib.cutB_miss s ⟨#[c]⟩ hix
    have e1 : (⟨(Lib.cut s.data.toList [c]).1.toArray⟩ : ByteArray) = s := e1
    have e2 : (⟨(Lib.cut s.data.toList [c]).2.1.toArray⟩ : ByteArray) = ByteArray.empty := e2
    have e3 : (Lib.cut s.data.toList [c]).2.2 = false := e3
    rw [hix] at hI
    have HI := Lib.hid hI
    have HE := Lib.hid (And.intro e1 (And.intro e2 e3))
    clear hI e0 hix e1 e2 e3
    go_enter Tryz.func152, Tryz.ntmps152
    go_wp2_with fail
    refine (HI.out _).mono ?_
    rintro e w1 ⟨rfl, rfl⟩
    go_wp2_with fail
    go_ret3
    rw [HE.out.1, HE.out.2.1, HE.out.2.2]
    exact ⟨rfl, Q.refl _⟩
  · obtain ⟨e1, e2, e3⟩ := Lib.cutB_hit s ⟨#[c]⟩ i hix
    rw [hix] at hI
    have hroom : i + 1 ≤ s.size := hroom
    have e1 : (⟨(Lib.cut s.data.toList [c]).1.toArray⟩ : ByteArray) = s.extract 0 i := e1
    have e2 : (⟨(Lib.cut s.data.toList [c]).2.1.toArray⟩ : ByteArray) = s.extract (i + 1) s.size := e2
    have e3 : (Lib.cut s.data.toList [c]).2.2 = true := e3
    have HI := Lib.hid hI
    have HE := Lib.hid (And.intro e1 (And.intro e2 e3))
    clear hI e0 hix e1 e2 e3
    have c1 : (0 : Int) ≤ (i : Int) := by omega
    have c2 : (i : Int) ≤ (s.size : Int) := by omega
    have c4 : (i : Int) + 1 ≤ (s.size : Int) := by omega
    go_enter Tryz.func152, Tryz.ntmps152
    go_wp2_with fail
    refine (HI.out _).mono ?_
    rintro e w1 ⟨rfl, rfl⟩
    go_wp2_with fail
    go_region
    go_wp2_with fail
    go_ret3
    rw [HE.out.1, HE.out.2.1, HE.out.2.2]
    exact ⟨rfl, (Q.refl _).drew⟩
open Go.RowKit in
theorem cut_any (s : ByteArray) (c : UInt8) (w : World) (hs : s.size ≤ 1000000) :
    Calls Tryz.prog 127 #[.string s, .string ⟨#[c]⟩] w fun e w' => e = .returned (.tuple #[.string ⟨(Lib.cut s.data.toList [c]).1.toArray⟩, .string ⟨(Lib.cut s.data.toList [c]).2.1.toArray⟩, .bool (Lib.cut s.data.toList [c]).2.2]) ∧ Q w w' := by
  have hC := fun w => cutL_any s c w hs
  generalize Lib.cut s.data.toList [c] = R at *
  obtain ⟨r1, r2, r3⟩ := R
  go_enter Tryz.func127, Tryz.ntmps127
  go_wp2_with fail
  refine (hC _).mono ?_
  rintro e w1 ⟨rfl, hq⟩
  go_wp2_with fail
  go_ret3
  exact ⟨rfl, hq⟩

/-- What stands ahead of the first minus. -/
theorem cut_lng (s : ByteArray) : (⟨(Lib.cut s.data.toList [45]).1.toArray⟩ : ByteArray) = Lm.bs (Fm.lng s.data.toList) := by
  have e0 : Lib.indexB s ⟨#[45]⟩ = Lib.indexByte s.data.toList 45 := Lib.index_one _ _
  rcases Lib.indexB_cases s ⟨#[45]⟩ with hix | ⟨i, hix, hroom⟩
  · obtain ⟨e1, _, _⟩ := Lib.cutB_miss s ⟨#[45]⟩ hix
    have e1 : (⟨(Lib.cut s.data.toList [45]).1.toArray⟩ : ByteArray) = s := e1
    rw [e1, Fm.lng_all (l := s.data.toList) (fun j _ => Lib.indexByte_none (by rw [← e0]; exact hix) j)]
    rfl
  · obtain ⟨e1, _, _⟩ := Lib.cutB_hit s ⟨#[45]⟩ i hix
    have e1 : (⟨(Lib.cut s.data.toList [45]).1.toArray⟩ : ByteArray) = s.extract 0 i := e1
    obtain ⟨h1, h2⟩ := Lib.indexByte_some (l := s.data.toList) (c := 45) (o := i) (by rw [← e0]; exact hix)
    rw [e1, Fm.lng_hit h2 h1]
    apply ByteArray.ext
    apply Array.toList_inj.1
    rw [Lm.bs_list]
    simp [ByteArray.data_extract, Array.toList_extract, List.extract_eq_take_drop]
open Go.RowKit in
set_option maxHeartbeats 1000000 in
theorem language_any (s : ByteArray) (w : World) (hs : s.size ≤ 1000000) :
    Calls Tryz.prog 99 #[.string s] w fun e w' => e = .returned (.string (Lm.bs (Fm.lng s.data.toList))) ∧ Q w w' := by
  have hC := fun w => cut_any s 45 w hs
  rw [cut_lng] at hC
  generalize Lm.bs (Fm.lng s.data.toList) = t at *
  generalize Lib.cut s.data.toList [45] = R at *
  obtain ⟨r1, r2, r3⟩ := R
  have HC := Lib.hid hC
  clear hC
  go_enter Tryz.func99, Tryz.ntmps99
  go_wp2_with fail
  refine (HC.out _).mono ?_
  rintro e w1 ⟨rfl, hq⟩
  go_wp2_with fail
  go_ret
  exact ⟨rfl, hq⟩
end Sc
end Go.Proofs.YtglljkbpdbnhaaaGreatDoor

set_option linter.unusedVariables false
set_option linter.unusedSimpArgs false
namespace Go.Proofs.YtglljkbpdbnhaaaGreatDoor
open Go.RowKit Go.Shelf Um
attribute [local go_sem] Oper.semAt_some
namespace Ft

theorem emp_emp : (Lm.bs []).toList.isEmpty = true := by decide +kernel
theorem bs_emp {l : List UInt8} (h : l ≠ []) : (Lm.bs l).toList.isEmpty = false := by
  rw [ByteArray.toList_eq, Lm.bs_list]
  cases l with
  | nil => exact absurd rfl h
  | cons a l => rfl
def me (s : ByteArray) : Int := if Fm.mt s.data.toList = [] then 7 else 0
theorem one_gap (u : World) (b : Nat) (v : Value) : Gap b (b + 1) u (u.setCell ⟨b, 0, none⟩ v) := Gap.setCell u b 0 v b (b + 1) (Nat.le_refl _) (Nat.lt_succ_self _)
theorem put_gap (u : World) (b : Nat) (o : Obj) : Gap b (b + 1) u (u.putObj b o) := Gap.putObj u b o b (b + 1) (Nat.le_refl _) (Nat.lt_succ_self _)
set_option maxRecDepth 100000 in
set_option maxHeartbeats 2000000 in
theorem match_any (s : ByteArray) (w : World) (hs : s.size ≤ 1000000) :
    Calls Tryz.prog 51 #[.string s] w fun e w' => e = .returned (.tuple #[.string (Lm.bs (Fm.mt s.data.toList)), .int .i64 (me s)]) ∧ Q w w' := by
  obtain ⟨t, ht⟩ : ∃ t, t = Fm.lng s.data.toList := ⟨_, rfl⟩
  have HT := Lib.hid ht
  have HLT := Lib.hid (fun u => Sc.language_any s u hs)
  rw [← ht] at HLT
  clear ht
  refine (callsIn_wide (n := 0)).1 ?_
  refine callsIn_of_wp_marks Tryz.func51 rfl trivial ?_ rfl
  simp only [Tryz.ntmps51, List.size_toArray, List.length_cons, List.length_nil, Nat.reduceAdd, Nat.reduceSub, Array.replicate_succ, Array.replicate_zero, List.push_toArray, List.append_toArray, List.nil_append, List.cons_append]
  gi_wp2_with fail
  refine ⟨trivial, rfl, (callsIn_wide.2 (all_any _)).mono ?_⟩
  rintro e w' ⟨rfl, hw'⟩
  have b0 : Bk (w.alloc (.cells #[.string s] 9)) w.heap.size 9 [.string s] := Bk.new _ _ _
  have b0 := b0.q ((Q.refl _).alloc (.cells #[.string ⟨#[]⟩] 9))
  have b0 := b0.q ((Q.refl _).alloc (.cells #[.int .i64 0] 67))
  have b0 := b0.q ((Q.refl _).alloc (.cells #[.string ⟨#[]⟩] 9))
  have b1 : Bk ((w.alloc (.cells #[.string s] 9)).alloc (.cells #[.string ⟨#[]⟩] 9)) (w.alloc (.cells #[.string s] 9)).heap.size 9 [.string ⟨#[]⟩] := Bk.new _ _ _
  have b1 := b1.q ((Q.refl _).alloc (.cells #[.int .i64 0] 67))
  have b1 := b1.q ((Q.refl _).alloc (.cells #[.string ⟨#[]⟩] 9))
  have b2 : Bk (((w.alloc (.cells #[.string s] 9)).alloc (.cells #[.string ⟨#[]⟩] 9)).alloc (.cells #[.int .i64 0] 67)) ((w.alloc (.cells #[.string s] 9)).alloc (.cells #[.string ⟨#[]⟩] 9)).heap.size 67 [.int .i64 0] := Bk.new _ _ _
  have b2 := b2.q ((Q.refl _).alloc (.cells #[.string ⟨#[]⟩] 9))
  have b3 : Bk ((((w.alloc (.cells #[.string s] 9)).alloc (.cells #[.string ⟨#[]⟩] 9)).alloc (.cells #[.int .i64 0] 67)).alloc (.cells #[.string ⟨#[]⟩] 9)) (((w.alloc (.cells #[.string s] 9)).alloc (.cells #[.string ⟨#[]⟩] 9)).alloc (.cells #[.int .i64 0] 67)).heap.size 9 [.string ⟨#[]⟩] := Bk.new _ _ _
  have hq0 : Q w ((((w.alloc (.cells #[.string s] 9)).alloc (.cells #[.string ⟨#[]⟩] 9)).alloc (.cells #[.int .i64 0] 67)).alloc (.cells #[.string ⟨#[]⟩] 9)) := ((((Q.refl w).alloc _).alloc _).alloc _).alloc _
  have hz0 : ((((w.alloc (.cells #[.string s] 9)).alloc (.cells #[.string ⟨#[]⟩] 9)).alloc (.cells #[.int .i64 0] 67)).alloc (.cells #[.string ⟨#[]⟩] 9)).heap.size = w.heap.size + 4 := by simp
  rw [← hw'] at b0 b1 b2 b3 hq0 hz0
  simp only [World.size_alloc] at b1 b2 b3
  clear hw'
  gi_wp2_with fail
  try simp only [World.size_alloc]
  have hz1 : w'.heap.size ≤ w.heap.size + 4 := by omega
  have hz2 : w.heap.size + 4 ≤ w'.heap.size := by omega
  clear hz0
  refine range_any (gf := 96) (lb := #[]) rfl (enters_of Tryz.func96 (by kernel_rfl) rfl) (fun _ => rfl)
    (all_iter (w'.heap.size + 1 + 1) w') (by unfold SetR; omega) (by omega)
    (fun pre W => (∃ k, k ≤ 40 ∧ pre = List.range k ∧ Fm.fnd s.data.toList k < 0 ∧ Bk W (w.heap.size + 1 + 1 + 1) 9 [.string (Lm.bs (Fm.fstL t k))]) ∧ Bk W (w.heap.size) 9 [.string s] ∧ Bk W (w.heap.size + 1) 9 [.string ⟨#[]⟩] ∧ Bk W (w.heap.size + 1 + 1) 67 [.int .i64 0] ∧ Q w W)
    (fun c pre W => c = .ret ∧ 0 ≤ Fm.fnd s.data.toList 40 ∧ Bk W (w.heap.size + 1) 9 [.string s] ∧ Bk W (w.heap.size + 1 + 1) 67 [.int .i64 0] ∧ Q w W)
    ?hI ?hIx ⟨⟨0, by omega, rfl, (by decide : (-1 : Int) < 0), b3⟩, b0, b1, b2, hq0⟩
    (fun x => { tmps := #[.string s, .pointer (some ⟨w.heap.size, 0, none⟩), .pointer (some ⟨w.heap.size + 1, 0, none⟩), .pointer (some ⟨w.heap.size + 1 + 1, 0, none⟩), .pointer (some ⟨w.heap.size + 1 + 1 + 1, 0, none⟩), .string (Lm.bs (Fm.T x).nam), .func (.func 96) #[] #[], .string (Lm.bs (Fm.T x).nam), rV (Fm.T x), undef, undef, undef, undef, undef, undef, undef, undef, undef, undef, undef, undef, undef, undef, undef, undef, undef], defers := [] }) ?assign ?body ?done ?stop
  case hI =>
    rintro pre A A' ⟨⟨k, h4, h5, h6, h0⟩, h1, h2, h3, hq⟩ hg
    exact ⟨⟨k, h4, h5, h6, bk_gap h0 hg (.inl (by omega))⟩, bk_gap h1 hg (.inl (by omega)), bk_gap h2 hg (.inl (by omega)), bk_gap h3 hg (.inl (by omega)), hq.gapped hg (by omega)⟩
  case hIx =>
    rintro c pre A A' ⟨hc, hf, h2, h3, hq⟩ hg
    exact ⟨hc, hf, bk_gap h2 hg (.inl (by omega)), bk_gap h3 hg (.inl (by omega)), hq.gapped hg (by omega)⟩
  case assign =>
    intro l x W K hK
    gi_wp2
    first | exact hK | simpa using hK
  case body =>
    rintro l pre x W ⟨⟨k, hk, rfl, hf, h0⟩, h1, h2, h3, hq⟩ hz ⟨j, hj, hjr⟩
    obtain ⟨rfl, rfl⟩ := range_snoc hjr
    have HF := Lib.hid hf
    have HQ := Lib.hid hq
    have H0 := Lib.hid h0
    have H1 := Lib.hid h1
    have H2 := Lib.hid h2
    have H3 := Lib.hid h3
    have cs := h1.cell 0 rfl
    obtain ⟨n, hn⟩ : ∃ n, n = Lm.bs (Fm.T x).nam := ⟨_, rfl⟩
    have HN := Lib.hid hn
    rw [← hn]
    have c2 := h2.cell 0 rfl
    have f2 := h2.free 0
    have c3 := h3.cell 0 rfl
    have f3 := h3.free 0
    clear hf hq h1 hjr h0 h2 h3
    by_cases he : n = s
    · have hfin : (x : Int) = Fm.fnd s.data.toList 40 := by
        have h1 : Fm.fnd s.data.toList (x + 1) = x := Fm.fnd_hit HF.out (by rw [← he, HN.out, Lm.bs_list]; rfl)
        rw [← h1]; exact (Fm.fnd_stay (by omega) 40 (by omega)).symm
      have HG := Lib.hid hfin
      subst he
      clear hfin hn
      gi_wp2_with fail
      refine ⟨(gap_stand (one_gap W (w.heap.size + 1) _) ?_).trans (gap_stand (one_gap _ (w.heap.size + 1 + 1) _) ?_), rfl, by rw [← HG.out]; omega, ?_, ?_, ?_⟩
      · intro k hk; simp only [SetR] at hk; omega
      · intro k hk; simp only [SetR] at hk; omega
      · exact bk_gap (H2.out.set 0 _) (one_gap _ (w.heap.size + 1 + 1) _) (.inl (by omega))
      · exact (bk_gap H3.out (one_gap W (w.heap.size + 1) _) (.inr (by omega))).set 0 _
      · exact (HQ.out.gapped (one_gap W (w.heap.size + 1) _) (by omega)).gapped (one_gap _ (w.heap.size + 1 + 1) _) (by omega)
    · have hne := str_ne he
      have HG := Lib.hid (show Fm.fnd s.data.toList (x + 1) < 0 from Fm.fnd_miss HF.out (fun h => he (by
        rw [HN.out]; exact Fm.bs_of h)))
      have HL := Lib.hid (fun u => Sc.language_any (Lm.bs (Fm.T x).nam) u (by rw [Lm.bs_size]; have := (Fm.nam_ne x (by omega)).2.1; unfold Fm.nam at this; omega))
      rw [Lm.bs_list, ← hn] at HL
      have HLN := Lib.hid (show Fm.lng (Fm.T x).nam = Fm.lng (Fm.nam x) from rfl)
      rw [HLN.out] at HL
      have HNN : Hid (n = Lm.bs (Fm.nam x)) := Lib.hid hn
      clear he hn c2 f2 c3 f3
      gi_wp2_with fail
      refine wpIn_region_any (by kernel_rfl) ?_
      obtain ⟨z, hz⟩ : ∃ z, z = ({ W with drawn := W.drawn + 1 } : World) := ⟨_, rfl⟩
      rw [← hz]
      have HQz := Lib.hid (show Q W z by rw [hz]; exact (Q.refl W).drew)
      clear hz
      have c4 := (H0.out.q HQz.out).cell 0 rfl
      have c1 := (H1.out.q HQz.out).cell 0 rfl
      obtain ⟨y, hyy⟩ : ∃ y, y = Lm.bs (Fm.fstL t x) := ⟨_, rfl⟩
      rw [← hyy] at c4
      have HY := Lib.hid hyy
      clear hyy
      by_cases hy : Fm.fstL t x = []
      · have e1 : y.toList.isEmpty = true := by rw [HY.out, hy]; exact emp_emp
        have e2 : y.toList = [] := by rw [HY.out, hy, ByteArray.toList_eq]; rfl
        by_cases he2 : Fm.lng (Fm.nam x) = t
        · have HFX := Lib.hid (show Lm.bs (Fm.fstL t (x + 1)) = n by rw [Fm.fstL_hit hy he2, HNN.out])
          rw [he2] at HL
          clear hy he2
          refine wpAnyIn_ready (rs := [0]) (by kernel_rfl) (by simp) ?_
          refine AllReadyIn.cons rfl (fun K hK => ?_) AllReadyIn.nil
          go_simp
          refine hK _ _ ?_
          clear hK K
          refine wpAnyIn_ready (rs := [1]) (by kernel_rfl) (by simp) ?_
          refine AllReadyIn.cons rfl (fun K hK => ?_) AllReadyIn.nil
          go_simp
          refine hK _ _ ?_
          clear hK K
          refine wpAnyIn_ready (rs := [2]) (by kernel_rfl) (by simp) ?_
          refine AllReadyIn.cons rfl (fun K hK => ?_) AllReadyIn.nil
          go_simp
          refine hK _ _ ?_
          clear hK K
          refine wpAnyIn_ready (rs := [3, 5]) (by kernel_rfl) (by simp) ?_
          refine AllReadyIn.cons rfl (fun K hK => ?_) (AllReadyIn.cons rfl (fun K hK => ?_) AllReadyIn.nil)
          · go_simp
            refine hK _ _ ?_
            clear hK K
            refine wpAnyIn_ready (rs := [4, 5]) (by kernel_rfl) (by simp) ?_
            refine AllReadyIn.cons rfl (fun K hK => ?_) (AllReadyIn.cons rfl (fun K hK => ?_) AllReadyIn.nil)
            · go_simp
              refine ⟨trivial, rfl, CallsIn.inRound l ((callsIn_wide.2 (HL.out z)).mono ?_)⟩
              rintro e z1 ⟨rfl, hq⟩
              have HQz1 := Lib.hid (HQz.out.trans hq)
              clear hq
              have c1 := (H1.out.q HQz1.out).cell 0 rfl
              refine hK _ _ ?_
              clear hK K
              refine wpAnyIn_ready (rs := [5]) (by kernel_rfl) (by simp) ?_
              refine AllReadyIn.cons rfl (fun K hK => ?_) AllReadyIn.nil
              go_simp
              refine hK _ _ ?_
              clear hK K
              refine wpAnyIn_ready (rs := [6]) (by kernel_rfl) (by simp) ?_
              refine AllReadyIn.cons rfl (fun K hK => ?_) AllReadyIn.nil
              go_simp
              refine ⟨trivial, rfl, CallsIn.inRound l ((callsIn_wide.2 (HLT.out z1)).mono ?_)⟩
              rintro e z2 ⟨rfl, hq⟩
              have HQz2 := Lib.hid (HQz1.out.trans hq)
              clear hq
              have c1 := (H1.out.q HQz2.out).cell 0 rfl
              refine hK _ _ ?_
              clear hK K
              refine wpAnyIn_ready (rs := [7]) (by kernel_rfl) (by simp) ?_
              refine AllReadyIn.cons rfl (fun K hK => ?_) AllReadyIn.nil
              go_simp
              refine hK _ _ ?_
              clear hK K
              refine wpAnyIn_ready (rs := [8]) (by kernel_rfl) (by simp) ?_
              refine AllReadyIn.cons rfl (fun K hK => ?_) AllReadyIn.nil
              go_simp
              refine hK _ _ ?_
              clear hK K
              refine wpAnyIn_done (by kernel_rfl) ?_ _
              have c4 := (H0.out.q HQz2.out).cell 0 rfl
              have f4 := (H0.out.q HQz2.out).free 0
              gi_wp2_with fail
              refine ⟨(HQz2.out.stand _).trans (gap_stand (one_gap z2 (w.heap.size + 1 + 1 + 1) _) ?_), ⟨x + 1, by omega, range_add x, HG.out, ?_⟩, bk_gap (H1.out.q HQz2.out) (one_gap z2 (w.heap.size + 1 + 1 + 1) _) (.inl (by omega)), bk_gap (H2.out.q HQz2.out) (one_gap z2 (w.heap.size + 1 + 1 + 1) _) (.inl (by omega)), bk_gap (H3.out.q HQz2.out) (one_gap z2 (w.heap.size + 1 + 1 + 1) _) (.inl (by omega)), (HQ.out.trans HQz2.out).gapped (one_gap z2 (w.heap.size + 1 + 1 + 1) _) (by omega)⟩
              · intro k hk; simp only [SetR] at hk; omega
              · rw [HFX.out]; exact (H0.out.q HQz2.out).set 0 _
            · go_simp
              refine hK _ _ ?_
              clear hK K
              refine wpAnyIn_ready (rs := [4]) (by kernel_rfl) (by simp) ?_
              refine AllReadyIn.cons rfl (fun K hK => ?_) AllReadyIn.nil
              go_simp
              refine ⟨trivial, rfl, CallsIn.inRound l ((callsIn_wide.2 (HL.out z)).mono ?_)⟩
              rintro e z3 ⟨rfl, hq⟩
              have HQz3 := Lib.hid (HQz.out.trans hq)
              clear hq
              have c1 := (H1.out.q HQz3.out).cell 0 rfl
              refine hK _ _ ?_
              clear hK K
              refine wpAnyIn_ready (rs := [6]) (by kernel_rfl) (by simp) ?_
              refine AllReadyIn.cons rfl (fun K hK => ?_) AllReadyIn.nil
              go_simp
              refine ⟨trivial, rfl, CallsIn.inRound l ((callsIn_wide.2 (HLT.out z3)).mono ?_)⟩
              rintro e z4 ⟨rfl, hq⟩
              have HQz4 := Lib.hid (HQz3.out.trans hq)
              clear hq
              have c1 := (H1.out.q HQz4.out).cell 0 rfl
              refine hK _ _ ?_
              clear hK K
              refine wpAnyIn_ready (rs := [7]) (by kernel_rfl) (by simp) ?_
              refine AllReadyIn.cons rfl (fun K hK => ?_) AllReadyIn.nil
              go_simp
              refine hK _ _ ?_
              clear hK K
              refine wpAnyIn_ready (rs := [8]) (by kernel_rfl) (by simp) ?_
              refine AllReadyIn.cons rfl (fun K hK => ?_) AllReadyIn.nil
              go_simp
              refine hK _ _ ?_
              clear hK K
              refine wpAnyIn_done (by kernel_rfl) ?_ _
              have c4 := (H0.out.q HQz4.out).cell 0 rfl
              have f4 := (H0.out.q HQz4.out).free 0
              gi_wp2_with fail
              refine ⟨(HQz4.out.stand _).trans (gap_stand (one_gap z4 (w.heap.size + 1 + 1 + 1) _) ?_), ⟨x + 1, by omega, range_add x, HG.out, ?_⟩, bk_gap (H1.out.q HQz4.out) (one_gap z4 (w.heap.size + 1 + 1 + 1) _) (.inl (by omega)), bk_gap (H2.out.q HQz4.out) (one_gap z4 (w.heap.size + 1 + 1 + 1) _) (.inl (by omega)), bk_gap (H3.out.q HQz4.out) (one_gap z4 (w.heap.size + 1 + 1 + 1) _) (.inl (by omega)), (HQ.out.trans HQz4.out).gapped (one_gap z4 (w.heap.size + 1 + 1 + 1) _) (by omega)⟩
              · intro k hk; simp only [SetR] at hk; omega
              · rw [HFX.out]; exact (H0.out.q HQz4.out).set 0 _
          · go_simp
            refine hK _ _ ?_
            clear hK K
            refine wpAnyIn_ready (rs := [3]) (by kernel_rfl) (by simp) ?_
            refine AllReadyIn.cons rfl (fun K hK => ?_) AllReadyIn.nil
            go_simp
            refine hK _ _ ?_
            clear hK K
            refine wpAnyIn_ready (rs := [4]) (by kernel_rfl) (by simp) ?_
            refine AllReadyIn.cons rfl (fun K hK => ?_) AllReadyIn.nil
            go_simp
            refine ⟨trivial, rfl, CallsIn.inRound l ((callsIn_wide.2 (HL.out z)).mono ?_)⟩
            rintro e z5 ⟨rfl, hq⟩
            have HQz5 := Lib.hid (HQz.out.trans hq)
            clear hq
            have c1 := (H1.out.q HQz5.out).cell 0 rfl
            refine hK _ _ ?_
            clear hK K
            refine wpAnyIn_ready (rs := [6]) (by kernel_rfl) (by simp) ?_
            refine AllReadyIn.cons rfl (fun K hK => ?_) AllReadyIn.nil
            go_simp
            refine ⟨trivial, rfl, CallsIn.inRound l ((callsIn_wide.2 (HLT.out z5)).mono ?_)⟩
            rintro e z6 ⟨rfl, hq⟩
            have HQz6 := Lib.hid (HQz5.out.trans hq)
            clear hq
            have c1 := (H1.out.q HQz6.out).cell 0 rfl
            refine hK _ _ ?_
            clear hK K
            refine wpAnyIn_ready (rs := [7]) (by kernel_rfl) (by simp) ?_
            refine AllReadyIn.cons rfl (fun K hK => ?_) AllReadyIn.nil
            go_simp
            refine hK _ _ ?_
            clear hK K
            refine wpAnyIn_ready (rs := [8]) (by kernel_rfl) (by simp) ?_
            refine AllReadyIn.cons rfl (fun K hK => ?_) AllReadyIn.nil
            go_simp
            refine hK _ _ ?_
            clear hK K
            refine wpAnyIn_done (by kernel_rfl) ?_ _
            have c4 := (H0.out.q HQz6.out).cell 0 rfl
            have f4 := (H0.out.q HQz6.out).free 0
            gi_wp2_with fail
            refine ⟨(HQz6.out.stand _).trans (gap_stand (one_gap z6 (w.heap.size + 1 + 1 + 1) _) ?_), ⟨x + 1, by omega, range_add x, HG.out, ?_⟩, bk_gap (H1.out.q HQz6.out) (one_gap z6 (w.heap.size + 1 + 1 + 1) _) (.inl (by omega)), bk_gap (H2.out.q HQz6.out) (one_gap z6 (w.heap.size + 1 + 1 + 1) _) (.inl (by omega)), bk_gap (H3.out.q HQz6.out) (one_gap z6 (w.heap.size + 1 + 1 + 1) _) (.inl (by omega)), (HQ.out.trans HQz6.out).gapped (one_gap z6 (w.heap.size + 1 + 1 + 1) _) (by omega)⟩
            · intro k hk; simp only [SetR] at hk; omega
            · rw [HFX.out]; exact (H0.out.q HQz6.out).set 0 _
        · have hne2 : ((Lm.bs (Fm.lng (Fm.nam x))).toList == (Lm.bs t).toList) = false := str_ne (fun h => he2 (by
            have := congrArg (fun x : ByteArray => x.data.toList) h
            simpa only [Lm.bs_list] using this))
          have HFX := Lib.hid (show Fm.fstL t (x + 1) = Fm.fstL t x from Fm.fstL_miss (fun h => he2 h.2))
          obtain ⟨q, hqq⟩ : ∃ q, q = Lm.bs (Fm.lng (Fm.nam x)) := ⟨_, rfl⟩
          rw [← hqq] at HL hne2
          clear hqq hy he2
          refine wpAnyIn_ready (rs := [0]) (by kernel_rfl) (by simp) ?_
          refine AllReadyIn.cons rfl (fun K hK => ?_) AllReadyIn.nil
          go_simp
          refine hK _ _ ?_
          clear hK K
          refine wpAnyIn_ready (rs := [1]) (by kernel_rfl) (by simp) ?_
          refine AllReadyIn.cons rfl (fun K hK => ?_) AllReadyIn.nil
          go_simp
          refine hK _ _ ?_
          clear hK K
          refine wpAnyIn_ready (rs := [2]) (by kernel_rfl) (by simp) ?_
          refine AllReadyIn.cons rfl (fun K hK => ?_) AllReadyIn.nil
          go_simp
          refine hK _ _ ?_
          clear hK K
          refine wpAnyIn_ready (rs := [3, 5]) (by kernel_rfl) (by simp) ?_
          refine AllReadyIn.cons rfl (fun K hK => ?_) (AllReadyIn.cons rfl (fun K hK => ?_) AllReadyIn.nil)
          · go_simp
            refine hK _ _ ?_
            clear hK K
            refine wpAnyIn_ready (rs := [4, 5]) (by kernel_rfl) (by simp) ?_
            refine AllReadyIn.cons rfl (fun K hK => ?_) (AllReadyIn.cons rfl (fun K hK => ?_) AllReadyIn.nil)
            · go_simp
              refine ⟨trivial, rfl, CallsIn.inRound l ((callsIn_wide.2 (HL.out z)).mono ?_)⟩
              rintro e z7 ⟨rfl, hq⟩
              have HQz7 := Lib.hid (HQz.out.trans hq)
              clear hq
              have c1 := (H1.out.q HQz7.out).cell 0 rfl
              refine hK _ _ ?_
              clear hK K
              refine wpAnyIn_ready (rs := [5]) (by kernel_rfl) (by simp) ?_
              refine AllReadyIn.cons rfl (fun K hK => ?_) AllReadyIn.nil
              go_simp
              refine hK _ _ ?_
              clear hK K
              refine wpAnyIn_ready (rs := [6]) (by kernel_rfl) (by simp) ?_
              refine AllReadyIn.cons rfl (fun K hK => ?_) AllReadyIn.nil
              go_simp
              refine ⟨trivial, rfl, CallsIn.inRound l ((callsIn_wide.2 (HLT.out z7)).mono ?_)⟩
              rintro e z8 ⟨rfl, hq⟩
              have HQz8 := Lib.hid (HQz7.out.trans hq)
              clear hq
              have c1 := (H1.out.q HQz8.out).cell 0 rfl
              refine hK _ _ ?_
              clear hK K
              refine wpAnyIn_ready (rs := [7]) (by kernel_rfl) (by simp) ?_
              refine AllReadyIn.cons rfl (fun K hK => ?_) AllReadyIn.nil
              go_simp
              refine hK _ _ ?_
              clear hK K
              refine wpAnyIn_ready (rs := [8]) (by kernel_rfl) (by simp) ?_
              refine AllReadyIn.cons rfl (fun K hK => ?_) AllReadyIn.nil
              go_simp
              refine hK _ _ ?_
              clear hK K
              refine wpAnyIn_done (by kernel_rfl) ?_ _
              gi_wp2_with fail
              exact ⟨HQz8.out.stand _, ⟨x + 1, by omega, range_add x, HG.out, by rw [HFX.out]; exact H0.out.q HQz8.out⟩, H1.out.q HQz8.out, H2.out.q HQz8.out, H3.out.q HQz8.out, HQ.out.trans HQz8.out⟩
            · go_simp
              refine hK _ _ ?_
              clear hK K
              refine wpAnyIn_ready (rs := [4]) (by kernel_rfl) (by simp) ?_
              refine AllReadyIn.cons rfl (fun K hK => ?_) AllReadyIn.nil
              go_simp
              refine ⟨trivial, rfl, CallsIn.inRound l ((callsIn_wide.2 (HL.out z)).mono ?_)⟩
              rintro e z9 ⟨rfl, hq⟩
              have HQz9 := Lib.hid (HQz.out.trans hq)
              clear hq
              have c1 := (H1.out.q HQz9.out).cell 0 rfl
              refine hK _ _ ?_
              clear hK K
              refine wpAnyIn_ready (rs := [6]) (by kernel_rfl) (by simp) ?_
              refine AllReadyIn.cons rfl (fun K hK => ?_) AllReadyIn.nil
              go_simp
              refine ⟨trivial, rfl, CallsIn.inRound l ((callsIn_wide.2 (HLT.out z9)).mono ?_)⟩
              rintro e z10 ⟨rfl, hq⟩
              have HQz10 := Lib.hid (HQz9.out.trans hq)
              clear hq
              have c1 := (H1.out.q HQz10.out).cell 0 rfl
              refine hK _ _ ?_
              clear hK K
              refine wpAnyIn_ready (rs := [7]) (by kernel_rfl) (by simp) ?_
              refine AllReadyIn.cons rfl (fun K hK => ?_) AllReadyIn.nil
              go_simp
              refine hK _ _ ?_
              clear hK K
              refine wpAnyIn_ready (rs := [8]) (by kernel_rfl) (by simp) ?_
              refine AllReadyIn.cons rfl (fun K hK => ?_) AllReadyIn.nil
              go_simp
              refine hK _ _ ?_
              clear hK K
              refine wpAnyIn_done (by kernel_rfl) ?_ _
              gi_wp2_with fail
              exact ⟨HQz10.out.stand _, ⟨x + 1, by omega, range_add x, HG.out, by rw [HFX.out]; exact H0.out.q HQz10.out⟩, H1.out.q HQz10.out, H2.out.q HQz10.out, H3.out.q HQz10.out, HQ.out.trans HQz10.out⟩
          · go_simp
            refine hK _ _ ?_
            clear hK K
            refine wpAnyIn_ready (rs := [3]) (by kernel_rfl) (by simp) ?_
            refine AllReadyIn.cons rfl (fun K hK => ?_) AllReadyIn.nil
            go_simp
            refine hK _ _ ?_
            clear hK K
            refine wpAnyIn_ready (rs := [4]) (by kernel_rfl) (by simp) ?_
            refine AllReadyIn.cons rfl (fun K hK => ?_) AllReadyIn.nil
            go_simp
            refine ⟨trivial, rfl, CallsIn.inRound l ((callsIn_wide.2 (HL.out z)).mono ?_)⟩
            rintro e z11 ⟨rfl, hq⟩
            have HQz11 := Lib.hid (HQz.out.trans hq)
            clear hq
            have c1 := (H1.out.q HQz11.out).cell 0 rfl
            refine hK _ _ ?_
            clear hK K
            refine wpAnyIn_ready (rs := [6]) (by kernel_rfl) (by simp) ?_
            refine AllReadyIn.cons rfl (fun K hK => ?_) AllReadyIn.nil
            go_simp
            refine ⟨trivial, rfl, CallsIn.inRound l ((callsIn_wide.2 (HLT.out z11)).mono ?_)⟩
            rintro e z12 ⟨rfl, hq⟩
            have HQz12 := Lib.hid (HQz11.out.trans hq)
            clear hq
            have c1 := (H1.out.q HQz12.out).cell 0 rfl
            refine hK _ _ ?_
            clear hK K
            refine wpAnyIn_ready (rs := [7]) (by kernel_rfl) (by simp) ?_
            refine AllReadyIn.cons rfl (fun K hK => ?_) AllReadyIn.nil
            go_simp
            refine hK _ _ ?_
            clear hK K
            refine wpAnyIn_ready (rs := [8]) (by kernel_rfl) (by simp) ?_
            refine AllReadyIn.cons rfl (fun K hK => ?_) AllReadyIn.nil
            go_simp
            refine hK _ _ ?_
            clear hK K
            refine wpAnyIn_done (by kernel_rfl) ?_ _
            gi_wp2_with fail
            exact ⟨HQz12.out.stand _, ⟨x + 1, by omega, range_add x, HG.out, by rw [HFX.out]; exact H0.out.q HQz12.out⟩, H1.out.q HQz12.out, H2.out.q HQz12.out, H3.out.q HQz12.out, HQ.out.trans HQz12.out⟩
      · have e1 : y.toList.isEmpty = false := by rw [HY.out]; exact bs_emp hy
        have e2 : ¬ y.toList = [] := by rw [HY.out, ByteArray.toList_eq, Lm.bs_list]; exact hy
        have HFX := Lib.hid (show Fm.fstL t (x + 1) = Fm.fstL t x from Fm.fstL_miss (fun h => hy h.1))
        clear hy
        refine wpAnyIn_ready (rs := [0]) (by kernel_rfl) (by simp) ?_
        refine AllReadyIn.cons rfl (fun K hK => ?_) AllReadyIn.nil
        go_simp
        refine hK _ _ ?_
        clear hK K
        refine wpAnyIn_ready (rs := [1]) (by kernel_rfl) (by simp) ?_
        refine AllReadyIn.cons rfl (fun K hK => ?_) AllReadyIn.nil
        go_simp
        refine hK _ _ ?_
        clear hK K
        refine wpAnyIn_ready (rs := [2]) (by kernel_rfl) (by simp) ?_
        refine AllReadyIn.cons rfl (fun K hK => ?_) AllReadyIn.nil
        go_simp
        refine hK _ _ ?_
        clear hK K
        refine wpAnyIn_ready (rs := [3, 5]) (by kernel_rfl) (by simp) ?_
        refine AllReadyIn.cons rfl (fun K hK => ?_) (AllReadyIn.cons rfl (fun K hK => ?_) AllReadyIn.nil)
        · go_simp
          refine hK _ _ ?_
          clear hK K
          refine wpAnyIn_ready (rs := [4, 5]) (by kernel_rfl) (by simp) ?_
          refine AllReadyIn.cons rfl (fun K hK => ?_) (AllReadyIn.cons rfl (fun K hK => ?_) AllReadyIn.nil)
          · go_simp
            refine ⟨trivial, ?_⟩
            refine hK _ _ ?_
            clear hK K
            refine wpAnyIn_ready (rs := [5]) (by kernel_rfl) (by simp) ?_
            refine AllReadyIn.cons rfl (fun K hK => ?_) AllReadyIn.nil
            go_simp
            refine hK _ _ ?_
            clear hK K
            refine wpAnyIn_ready (rs := [6]) (by kernel_rfl) (by simp) ?_
            refine AllReadyIn.cons rfl (fun K hK => ?_) AllReadyIn.nil
            go_simp
            refine ⟨trivial, ?_⟩
            refine hK _ _ ?_
            clear hK K
            refine wpAnyIn_ready (rs := [7]) (by kernel_rfl) (by simp) ?_
            refine AllReadyIn.cons rfl (fun K hK => ?_) AllReadyIn.nil
            go_simp
            refine hK _ _ ?_
            clear hK K
            refine wpAnyIn_ready (rs := [8]) (by kernel_rfl) (by simp) ?_
            refine AllReadyIn.cons rfl (fun K hK => ?_) AllReadyIn.nil
            go_simp
            refine hK _ _ ?_
            clear hK K
            refine wpAnyIn_done (by kernel_rfl) ?_ _
            gi_wp2_with fail
            exact ⟨HQz.out.stand _, ⟨x + 1, by omega, range_add x, HG.out, by rw [HFX.out]; exact H0.out.q HQz.out⟩, H1.out.q HQz.out, H2.out.q HQz.out, H3.out.q HQz.out, HQ.out.trans HQz.out⟩
          · go_simp
            refine hK _ _ ?_
            clear hK K
            refine wpAnyIn_ready (rs := [4]) (by kernel_rfl) (by simp) ?_
            refine AllReadyIn.cons rfl (fun K hK => ?_) AllReadyIn.nil
            go_simp
            refine ⟨trivial, ?_⟩
            refine hK _ _ ?_
            clear hK K
            refine wpAnyIn_ready (rs := [6]) (by kernel_rfl) (by simp) ?_
            refine AllReadyIn.cons rfl (fun K hK => ?_) AllReadyIn.nil
            go_simp
            refine ⟨trivial, ?_⟩
            refine hK _ _ ?_
            clear hK K
            refine wpAnyIn_ready (rs := [7]) (by kernel_rfl) (by simp) ?_
            refine AllReadyIn.cons rfl (fun K hK => ?_) AllReadyIn.nil
            go_simp
            refine hK _ _ ?_
            clear hK K
            refine wpAnyIn_ready (rs := [8]) (by kernel_rfl) (by simp) ?_
            refine AllReadyIn.cons rfl (fun K hK => ?_) AllReadyIn.nil
            go_simp
            refine hK _ _ ?_
            clear hK K
            refine wpAnyIn_done (by kernel_rfl) ?_ _
            gi_wp2_with fail
            exact ⟨HQz.out.stand _, ⟨x + 1, by omega, range_add x, HG.out, by rw [HFX.out]; exact H0.out.q HQz.out⟩, H1.out.q HQz.out, H2.out.q HQz.out, H3.out.q HQz.out, HQ.out.trans HQz.out⟩
        · go_simp
          refine hK _ _ ?_
          clear hK K
          refine wpAnyIn_ready (rs := [3]) (by kernel_rfl) (by simp) ?_
          refine AllReadyIn.cons rfl (fun K hK => ?_) AllReadyIn.nil
          go_simp
          refine hK _ _ ?_
          clear hK K
          refine wpAnyIn_ready (rs := [4]) (by kernel_rfl) (by simp) ?_
          refine AllReadyIn.cons rfl (fun K hK => ?_) AllReadyIn.nil
          go_simp
          refine ⟨trivial, ?_⟩
          refine hK _ _ ?_
          clear hK K
          refine wpAnyIn_ready (rs := [6]) (by kernel_rfl) (by simp) ?_
          refine AllReadyIn.cons rfl (fun K hK => ?_) AllReadyIn.nil
          go_simp
          refine ⟨trivial, ?_⟩
          refine hK _ _ ?_
          clear hK K
          refine wpAnyIn_ready (rs := [7]) (by kernel_rfl) (by simp) ?_
          refine AllReadyIn.cons rfl (fun K hK => ?_) AllReadyIn.nil
          go_simp
          refine hK _ _ ?_
          clear hK K
          refine wpAnyIn_ready (rs := [8]) (by kernel_rfl) (by simp) ?_
          refine AllReadyIn.cons rfl (fun K hK => ?_) AllReadyIn.nil
          go_simp
          refine hK _ _ ?_
          clear hK K
          refine wpAnyIn_done (by kernel_rfl) ?_ _
          gi_wp2_with fail
          exact ⟨HQz.out.stand _, ⟨x + 1, by omega, range_add x, HG.out, by rw [HFX.out]; exact H0.out.q HQz.out⟩, H1.out.q HQz.out, H2.out.q HQz.out, H3.out.q HQz.out, HQ.out.trans HQz.out⟩
  case done =>
    rintro xs W rfl ⟨⟨k, hk, hk2, hf, h0⟩, h1, h2, h3, hq⟩ hK
    have hk3 := congrArg List.length hk2
    simp only [List.length_range] at hk3
    subst hk3
    have HM := Lib.hid (show Fm.mt s.data.toList = Fm.fstL t 40 by rw [HT.out]; exact if_neg (by omega))
    have HQ := Lib.hid hq
    have H2 := Lib.hid h2
    have H3 := Lib.hid h3
    have c4 := h0.cell 0 rfl
    have c2 := h2.cell 0 rfl
    have f2 := h2.free 0
    have c3 := h3.cell 0 rfl
    have f3 := h3.free 0
    obtain ⟨y, hyy⟩ : ∃ y, y = Lm.bs (Fm.fstL t 40) := ⟨_, rfl⟩
    rw [← hyy] at c4
    have HY := Lib.hid hyy
    clear hyy hf hk hk2 h1 hq h0 h2 h3
    by_cases hy : Fm.fstL t 40 = []
    · have e1 : y.toList.isEmpty = true := by rw [HY.out, hy]; exact emp_emp
      have e2 : y.toList = [] := by rw [HY.out, hy, ByteArray.toList_eq]; rfl
      have HR := Lib.hid (show Lm.bs (Fm.mt s.data.toList) = ⟨#[]⟩ by rw [HM.out, hy]; rfl)
      have HE := Lib.hid (show me s = 7 by unfold me; rw [HM.out, if_pos hy])
      clear hy
      gi_wp2_with fail
      have g1 := fun u => one_gap u (w.heap.size + 1 + 1) (.int .i64 7)
      have B1 := bk_gap (H2.out.set 0 (.string ⟨#[]⟩)) (g1 _) (.inl (by omega))
      have B2 := (bk_gap H3.out (one_gap W (w.heap.size + 1) (.string ⟨#[]⟩)) (.inr (by omega))).set 0 (.int .i64 7)
      have Q9 := (HQ.out.gapped (one_gap W (w.heap.size + 1) (.string ⟨#[]⟩)) (by omega)).gapped (g1 _) (by omega)
      have hK9 := ((g1 _).block _ (Nat.lt_of_lt_of_le (Array.getElem?_eq_some_iff.1 hK).1 (one_gap W (w.heap.size + 1) (.string ⟨#[]⟩)).size) (.inr (by omega))).trans (((one_gap W (w.heap.size + 1) (.string ⟨#[]⟩)).block _ (Array.getElem?_eq_some_iff.1 hK).1 (.inr (by omega))).trans hK)
      have g := fun u => Gap.putObj u w'.heap.size (.deferred none) w'.heap.size (w'.heap.size + 1) (Nat.le_refl _) (Nat.lt_succ_self _)
      refine ⟨by simp, .inl ⟨_, _, rfl, run_takeDeferred hK9, ?_⟩⟩
      exact ⟨_, results_cc rfl _ _ _ _ _ _ rfl rfl ((bk_gap B1 (g _) (.inl (by omega))).cell 0 rfl) plainS ((bk_gap B2 (g _) (.inl (by omega))).cell 0 rfl) plainE, by rw [HR.out, HE.out], Q9.gapped (g _) (by omega)⟩
    · have e1 : y.toList.isEmpty = false := by rw [HY.out]; exact bs_emp hy
      have e2 : ¬ y.toList = [] := by rw [HY.out, ByteArray.toList_eq, Lm.bs_list]; exact hy
      have HR := Lib.hid (show Lm.bs (Fm.mt s.data.toList) = y by rw [HM.out, HY.out])
      have HE := Lib.hid (show me s = 0 by unfold me; rw [HM.out, if_neg hy])
      clear hy
      gi_wp2_with fail
      have g1 := fun u => one_gap u (w.heap.size + 1 + 1) (.int .i64 0)
      have B1 := bk_gap (H2.out.set 0 (.string y)) (g1 _) (.inl (by omega))
      have B2 := (bk_gap H3.out (one_gap W (w.heap.size + 1) (.string y)) (.inr (by omega))).set 0 (.int .i64 0)
      have Q9 := (HQ.out.gapped (one_gap W (w.heap.size + 1) (.string y)) (by omega)).gapped (g1 _) (by omega)
      have hK9 := ((g1 _).block _ (Nat.lt_of_lt_of_le (Array.getElem?_eq_some_iff.1 hK).1 (one_gap W (w.heap.size + 1) (.string y)).size) (.inr (by omega))).trans (((one_gap W (w.heap.size + 1) (.string y)).block _ (Array.getElem?_eq_some_iff.1 hK).1 (.inr (by omega))).trans hK)
      have g := fun u => Gap.putObj u w'.heap.size (.deferred none) w'.heap.size (w'.heap.size + 1) (Nat.le_refl _) (Nat.lt_succ_self _)
      refine ⟨by simp, .inl ⟨_, _, rfl, run_takeDeferred hK9, ?_⟩⟩
      exact ⟨_, results_cc rfl _ _ _ _ _ _ rfl rfl ((bk_gap B1 (g _) (.inl (by omega))).cell 0 rfl) plainS ((bk_gap B2 (g _) (.inl (by omega))).cell 0 rfl) plainE, by rw [HR.out, HE.out], Q9.gapped (g _) (by omega)⟩
  case stop =>
    rintro c pre W _ ⟨rfl, hf, h2, h3, hq⟩ hK
    have HM := Lib.hid (show Fm.mt s.data.toList = s.data.toList from if_pos hf)
    have HE := Lib.hid (show me s = 0 from by unfold me; rw [HM.out]; exact if_neg (Fm.mt_ne hf))
    gi_wp2_with fail
    have g := Gap.putObj W w'.heap.size (.deferred none) w'.heap.size (w'.heap.size + 1) (Nat.le_refl _) (Nat.lt_succ_self _)
    refine ⟨by simp, .inl ⟨_, _, rfl, run_takeDeferred hK, ?_⟩⟩
    exact ⟨_, results_cc rfl _ _ _ _ _ _ rfl rfl ((bk_gap h2 g (.inl (by omega))).cell 0 rfl) plainS ((bk_gap h3 g (.inl (by omega))).cell 0 rfl) plainE, by rw [HM.out, HE.out]; rfl, hq.gapped g (by omega)⟩

end Ft
end Go.Proofs.YtglljkbpdbnhaaaGreatDoor

set_option linter.unusedVariables false
set_option linter.unusedSimpArgs false
namespace Go.Proofs.YtglljkbpdbnhaaaGreatDoor
open Go.RowKit Um
namespace Fr
open Ft

set_option maxRecDepth 1000000 in
set_option maxHeartbeats 1000000 in
theorem rrecords_any (w : World) : Calls Tryz.prog 49 #[] w fun e w' => e = .returned (.slice (some ⟨w.heap.size, 0, none⟩) 40 40) ∧ w' = w.alloc (.cells flat.toArray 25) :=
  calls_runF Tryz.func49 (by rfl) (W := w.alloc (.cells flat.toArray 25)) (v := .slice (some ⟨w.heap.size, 0, none⟩) 40 40) (by kernel_rfl) ⟨rfl, rfl⟩
theorem rrec_q (w : World) : Calls Tryz.prog 49 #[] w fun e w' => ∃ b, e = .returned (.slice (some ⟨b, 0, none⟩) 40 40) ∧ Bk w' b 25 flat ∧ Q w w' :=
  (rrecords_any w).mono fun e w' ⟨he, hw⟩ => ⟨_, he, by rw [hw]; exact Bk.new _ _ _, by rw [hw]; exact (Q.refl w).alloc _⟩
theorem infoR : (Tryz.prog.info? 25).map (·.size) = some 8 := by kernel_rfl

theorem ext0 (s : ByteArray) (k : Nat) : s.extract 0 k = Lm.bs (s.data.toList.take k) := by
  apply ByteArray.ext
  apply Array.toList_inj.1
  rw [Lm.bs_list]
  simp [ByteArray.data_extract, Array.toList_extract, List.extract_eq_take_drop]
set_option maxRecDepth 100000 in
set_option maxHeartbeats 1000000 in
theorem find_any (s : ByteArray) (w : World) :
    Calls Tryz.prog 30 #[.string s] w fun e w' => e = .returned (.int .i64 (Fm.fnd s.data.toList 40)) ∧ Q w w' := by
  go_enter Tryz.func30, Tryz.ntmps30
  go_wp2_with fail
  refine (rrec_q _).mono ?_
  rintro e w1 ⟨b, rfl, hB, hq⟩
  have HB := Lib.hid hB
  have HQ := Lib.hid hq
  clear hB hq
  go_wp2_with fail
  go_loopw [4] (fun v wr => ∃ k : Nat, v = .int .i64 k ∧ k ≤ 40 ∧ Fm.fnd s.data.toList k < 0 ∧ w1 = wr) (fun v _ => 40 - (intOf v).toNat)
  case atStart => exact ⟨0, rfl, by omega, (by decide : (-1 : Int) < 0), rfl⟩
  case round =>
    obtain ⟨k, rfl, hk, hf, rfl⟩ := hrel
    have HF := Lib.hid hf
    clear hf
    by_cases hlt : k < 40
    · have hlti : (k : Int) < 40 := by omega
      have hk0 : ¬ (k : Int) < 0 := by omega
      have c0 : w1.cell? ⟨b, k * 8, none⟩ = _ := row_cell HB.out hlt 0 rfl
      obtain ⟨n, hn⟩ : ∃ n, n = Lm.bs (Fm.T k).nam := ⟨_, rfl⟩
      rw [← hn] at c0
      have HN := Lib.hid hn
      clear hn
      by_cases he : n = s
      · subst he
        have hfin : (k : Int) = Fm.fnd n.data.toList 40 := by
          have h1 : Fm.fnd n.data.toList (k + 1) = k := Fm.fnd_hit HF.out (by rw [HN.out, Lm.bs_list]; rfl)
          rw [← h1]; exact (Fm.fnd_stay (by omega) 40 (by omega)).symm
        have HG := Lib.hid hfin
        clear hfin
        go_wp2_with fail
        go_ret
        exact ⟨by rw [← HG.out]; rfl, HQ.out⟩
      · have hne := str_ne he
        have hnx : Fm.fnd s.data.toList (k + 1) < 0 := Fm.fnd_miss HF.out (fun h => he (by
          rw [HN.out]; exact Fm.bs_of h))
        have HG := Lib.hid hnx
        clear he hnx
        go_wp2_with fail
        go_roundw
        case rel => exact ⟨k + 1, by go_num, by omega, HG.out, (by first | trivial | rfl)⟩
        case measure => simp [intOf]; omega
    · have hnlt : ¬ (k : Int) < 40 := by omega
      have HK := Lib.hid (show k = 40 by omega)
      clear hlt hk
      go_wp2_with fail
      go_ret
      refine ⟨?_, HQ.out⟩
      have := (Fm.fnd_lt s.data.toList 40).2
      have h2 := HF.out
      rw [HK.out] at h2
      rw [show Fm.fnd s.data.toList 40 = -1 by omega]; rfl

set_option maxRecDepth 100000 in
set_option maxHeartbeats 1000000 in
theorem one_any (n : Int) (w : World) (h0 : -9223372036854775808 ≤ n) (h1 : n ≤ 9223372036854775807) :
    Calls Tryz.prog 26 #[.int .i64 n] w fun e w' => e = .returned (rV (Fm.T (around n 40).toNat)) ∧ Q w w' := by
  have HA := Lib.hid (fun u => Ur.around_any n 40 u h0 h1 (by omega) (by omega))
  have hba := around_bd n 40 (by omega)
  obtain ⟨k, hk⟩ : ∃ k : Nat, (k : Int) = around n 40 := ⟨(around n 40).toNat, by omega⟩
  rw [← hk] at HA hba ⊢
  have hk40 : k < 40 := by omega
  have hki : (k : Int) < 40 := by omega
  have hk0 : ¬ (k : Int) < 0 := by omega
  clear hk hba h0 h1
  rw [Int.toNat_natCast]
  have HT : Hid (rV (Fm.T k) = .agg #[.string (Lm.bs (Fm.T k).nam), .string (Lm.bs (Fm.T k).pat), .string (Lm.bs (Fm.T k).sys), .string (Lm.bs (Fm.T k).dec), .string (Lm.bs (Fm.T k).grp), .string (Lm.bs (Fm.T k).min), .string (Lm.bs (Fm.T k).per), .string (Lm.bs (Fm.T k).cur)]) := Lib.hid rfl
  rw [HT.out]
  clear HT
  obtain ⟨s0, hs0⟩ : ∃ s, s = Lm.bs (Fm.T k).nam := ⟨_, rfl⟩
  rw [← hs0]
  obtain ⟨s1, hs1⟩ : ∃ s, s = Lm.bs (Fm.T k).pat := ⟨_, rfl⟩
  rw [← hs1]
  obtain ⟨s2, hs2⟩ : ∃ s, s = Lm.bs (Fm.T k).sys := ⟨_, rfl⟩
  rw [← hs2]
  obtain ⟨s3, hs3⟩ : ∃ s, s = Lm.bs (Fm.T k).dec := ⟨_, rfl⟩
  rw [← hs3]
  obtain ⟨s4, hs4⟩ : ∃ s, s = Lm.bs (Fm.T k).grp := ⟨_, rfl⟩
  rw [← hs4]
  obtain ⟨s5, hs5⟩ : ∃ s, s = Lm.bs (Fm.T k).min := ⟨_, rfl⟩
  rw [← hs5]
  obtain ⟨s6, hs6⟩ : ∃ s, s = Lm.bs (Fm.T k).per := ⟨_, rfl⟩
  rw [← hs6]
  obtain ⟨s7, hs7⟩ : ∃ s, s = Lm.bs (Fm.T k).cur := ⟨_, rfl⟩
  rw [← hs7]
  obtain ⟨z, hz⟩ : ∃ z, z = w.alloc (.cells #[.string ⟨#[]⟩, .string ⟨#[]⟩, .string ⟨#[]⟩, .string ⟨#[]⟩, .string ⟨#[]⟩, .string ⟨#[]⟩, .string ⟨#[]⟩, .string ⟨#[]⟩] 25) := ⟨_, rfl⟩
  have HQZ := Lib.hid (show Q w z by rw [hz]; exact (Q.refl w).alloc _)
  have hb : Bk z w.heap.size 25 [.string ⟨#[]⟩, .string ⟨#[]⟩, .string ⟨#[]⟩, .string ⟨#[]⟩, .string ⟨#[]⟩, .string ⟨#[]⟩, .string ⟨#[]⟩, .string ⟨#[]⟩] := by rw [hz]; exact Bk.new _ _ _
  go_enter Tryz.func26, Tryz.ntmps26
  go_wp2_with fail
  rw [← hz]
  clear hz
  obtain ⟨B, hBe⟩ : ∃ B, B = w.heap.size := ⟨_, rfl⟩
  have HWB := Lib.hid (show w.heap.size ≤ B by omega)
  rw [← hBe] at hb ⊢
  clear hBe
  refine (rrec_q _).mono ?_
  rintro e w1 ⟨b, rfl, hB, hq⟩
  have h2 := hb.q hq
  replace HQZ := Lib.hid (HQZ.out.trans hq)
  clear hb hq
  have c0 : w1.cell? ⟨b, k * 8, none⟩ = _ := row_cell hB hk40 0 rfl
  have c1 := row_cell hB hk40 1 rfl
  have c2 := row_cell hB hk40 2 rfl
  have c3 := row_cell hB hk40 3 rfl
  have c4 := row_cell hB hk40 4 rfl
  have c5 := row_cell hB hk40 5 rfl
  have c6 := row_cell hB hk40 6 rfl
  have c7 := row_cell hB hk40 7 rfl
  rw [← hs0] at c0
  rw [← hs1] at c1
  rw [← hs2] at c2
  rw [← hs3] at c3
  rw [← hs4] at c4
  rw [← hs5] at c5
  rw [← hs6] at c6
  rw [← hs7] at c7
  clear hs0 hs1 hs2 hs3 hs4 hs5 hs6 hs7
  go_wp2_with fail
  refine (HA.out _).mono ?_
  rintro e w2 ⟨rfl, rfl⟩
  have p0 := h2.cell 0 rfl
  have f0 := h2.free 0
  have p1 := h2.cell 1 rfl
  have f1 := h2.free 1
  have p2 := h2.cell 2 rfl
  have f2 := h2.free 2
  have p3 := h2.cell 3 rfl
  have f3 := h2.free 3
  have p4 := h2.cell 4 rfl
  have f4 := h2.free 4
  have p5 := h2.cell 5 rfl
  have f5 := h2.free 5
  have p6 := h2.cell 6 rfl
  have f6 := h2.free 6
  have p7 := h2.cell 7 rfl
  have f7 := h2.free 7
  have HFB := Lib.hid ((((((((h2.set 0 (.string s0)).set 1 (.string s1)).set 2 (.string s2)).set 3 (.string s3)).set 4 (.string s4)).set 5 (.string s5)).set 6 (.string s6)).set 7 (.string s7))
  have HFQ := Lib.hid (Q.setCell (Q.setCell (Q.setCell (Q.setCell (Q.setCell (Q.setCell (Q.setCell (Q.setCell HQZ.out (ad := ⟨B, 0, none⟩) HWB.out (.string s0)) (ad := ⟨B, 1, none⟩) HWB.out (.string s1)) (ad := ⟨B, 2, none⟩) HWB.out (.string s2)) (ad := ⟨B, 3, none⟩) HWB.out (.string s3)) (ad := ⟨B, 4, none⟩) HWB.out (.string s4)) (ad := ⟨B, 5, none⟩) HWB.out (.string s5)) (ad := ⟨B, 6, none⟩) HWB.out (.string s6)) (ad := ⟨B, 7, none⟩) HWB.out (.string s7))
  clear h2 hB
  go_wp2_with fail
  refine ret_bk rfl Tryz.underlying25 (by exact infoR) rfl HFB.out rfl ⟨?_, HFQ.out⟩
  rfl

theorem bs_eta (s : ByteArray) : Lm.bs s.data.toList = s := rfl
end Fr
end Go.Proofs.YtglljkbpdbnhaaaGreatDoor

set_option linter.unusedVariables false
set_option linter.unusedSimpArgs false
namespace Go.Proofs.YtglljkbpdbnhaaaGreatDoor
open Go.RowKit Go.Shelf Um
attribute [local go_sem] Oper.semAt_some
namespace Ft

theorem mt_de : Lm.bs (Fm.mt (⟨#[100, 101]⟩ : ByteArray).data.toList) = ⟨#[100, 101, 45, 65, 84]⟩ := by decide +kernel
theorem me_de : me ⟨#[100, 101]⟩ = 0 := by decide +kernel
theorem mt_fr : Lm.bs (Fm.mt (⟨#[102, 114, 45, 66, 69]⟩ : ByteArray).data.toList) = ⟨#[102, 114, 45, 67, 65]⟩ := by decide +kernel
theorem me_fr : me ⟨#[102, 114, 45, 66, 69]⟩ = 0 := by decide +kernel
theorem lives_any (w : World) : Calls Tryz.prog 29 #[] w fun e w' => e = .returned (.bool true) ∧ Q w w' := by
  have h1 := fun u => match_any ⟨#[100, 101]⟩ u (by decide)
  have h2 := fun u => match_any ⟨#[102, 114, 45, 66, 69]⟩ u (by decide)
  rw [mt_de, me_de] at h1
  rw [mt_fr, me_fr] at h2
  have H1 := Lib.hid h1
  have H2 := Lib.hid h2
  clear h1 h2
  go_enter Tryz.func29, Tryz.ntmps29
  go_wp2_with fail
  refine (H1.out _).mono ?_
  rintro e w1 ⟨rfl, hq1⟩
  go_wp2_with fail
  refine (H2.out _).mono ?_
  rintro e w2 ⟨rfl, hq2⟩
  have HQ := Lib.hid (hq1.trans hq2)
  clear hq1 hq2
  go_wp2_with fail
  go_ret
  exact ⟨rfl, HQ.out⟩
theorem around_nat {x : Nat} (h : x < 40) : around (x : Int) 40 = x := by
  unfold around
  rw [if_neg (by omega)]
  omega
/-- One result that lies in a block. -/
theorem results_c {fn : Func} {p : Tmp} {T : TypeId} (h : fn.results = #[.cell p T]) (tmps : Array Value) (w : World) (g : Nat) (v : Value)
    (hp : tmps.getD p undef = .pointer (some ⟨g, 0, none⟩)) (hg : w.cell? ⟨g, 0, none⟩ = some v) (hT : ∀ w, (isAgg T).run Tryz.prog w = .ok false w) : (results fn tmps).run Tryz.prog w = .ok v w := by
  have hp' : tmps[p]?.getD undef = .pointer (some ⟨g, 0, none⟩) := by simpa using hp
  have h1 := loadVar_plain hT hg
  simp [results, h, hp', asAddr, Sem.run_bind, Result.andThen, h1]
theorem fn_nil0 (d : Nat) (f : Fn) (a c : Array Value) (w : World) : (Op.equalIn (d + 1) 103 (.func f a c) .nilFunc).run Tryz.prog w = .ok false w := by
  unfold Op.equalIn
  rw [Sem.run_bind, run_underlying Tryz.underlying103 w]
  rfl
theorem fn_nil (w : World) : (binOp .eql 103 (.func (.func 96) #[] #[]) Value.nilFunc).run Tryz.prog w = .ok (.bool false) w := by
  show (do let b ← Op.equalIn (9999 + 1) 103 (.func (.func 96) #[] #[]) .nilFunc; pure (Value.bool b) : Sem Value).run Tryz.prog w = _
  rw [Sem.run_bind, fn_nil0]
  rfl
theorem plainB : ∀ w, (isAgg 4).run Tryz.prog w = .ok false w := run_isAgg_plain Tryz.underlying4 rfl

end Ft
end Go.Proofs.YtglljkbpdbnhaaaGreatDoor
