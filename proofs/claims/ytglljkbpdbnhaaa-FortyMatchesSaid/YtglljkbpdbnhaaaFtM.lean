/- The forty records: the mathematics. -/
import Derived.Test.YtglljkbpdbnhaaaLocM
set_option linter.unusedVariables false
set_option linter.unusedSimpArgs false
namespace Go.Proofs.Ytglljkbpdbnhaaa
namespace Fm
open Lm

/-- The forty. -/
def tab : List Rec := [
  ⟨[97, 114, 45, 69, 71], [194, 164, 35, 44, 35, 35, 48, 46, 48, 48], [97, 114, 97, 98], [217, 171], [217, 172], [45], [217, 170], [69, 71, 80]⟩,
  ⟨[98, 103, 45, 66, 71], [48, 46, 48, 48, 194, 160, 194, 164], [108, 97, 116, 110], [44], [], [45], [37], [66, 71, 78]⟩,
  ⟨[98, 110, 45, 66, 68], [35, 44, 35, 35, 44, 35, 35, 48, 46, 48, 48, 194, 164], [98, 101, 110, 103], [46], [44], [45], [37], [224, 167, 179]⟩,
  ⟨[99, 115, 45, 67, 90], [35, 44, 35, 35, 48, 46, 48, 48, 194, 160, 194, 164], [108, 97, 116, 110], [44], [226, 128, 175], [45], [37], [75, 196, 141]⟩,
  ⟨[100, 97, 45, 68, 75], [35, 44, 35, 35, 48, 46, 48, 48, 194, 160, 194, 164], [108, 97, 116, 110], [44], [46], [45], [37], [107, 114]⟩,
  ⟨[100, 101, 45, 65, 84], [194, 164, 194, 160, 35, 44, 35, 35, 48, 46, 48, 48], [108, 97, 116, 110], [44], [46], [45], [37], [226, 130, 172]⟩,
  ⟨[100, 101, 45, 67, 72], [194, 164, 194, 160, 35, 44, 35, 35, 48, 46, 48, 48, 59, 194, 164, 45, 35, 44, 35, 35, 48, 46, 48, 48], [108, 97, 116, 110], [46], [226, 128, 153], [45], [37], [67, 72, 70]⟩,
  ⟨[100, 101, 45, 68, 69], [35, 44, 35, 35, 48, 46, 48, 48, 194, 160, 194, 164], [108, 97, 116, 110], [44], [46], [45], [37], [226, 130, 172]⟩,
  ⟨[100, 122, 45, 66, 84], [194, 164, 35, 44, 35, 35, 44, 35, 35, 48, 46, 48, 48], [116, 105, 98, 116], [46], [44], [45], [37], [78, 117]⟩,
  ⟨[101, 108, 45, 71, 82], [35, 44, 35, 35, 48, 46, 48, 48, 194, 160, 194, 164], [108, 97, 116, 110], [44], [46], [45], [37], [226, 130, 172]⟩,
  ⟨[101, 110, 45, 71, 66], [194, 164, 35, 44, 35, 35, 48, 46, 48, 48], [108, 97, 116, 110], [46], [44], [45], [37], [194, 163]⟩,
  ⟨[101, 110, 45, 73, 78], [194, 164, 35, 44, 35, 35, 44, 35, 35, 48, 46, 48, 48], [108, 97, 116, 110], [46], [44], [45], [37], [226, 130, 185]⟩,
  ⟨[101, 110, 45, 85, 83], [194, 164, 35, 44, 35, 35, 48, 46, 48, 48], [108, 97, 116, 110], [46], [44], [45], [37], [36]⟩,
  ⟨[101, 115, 45, 69, 83], [35, 44, 35, 35, 48, 46, 48, 48, 194, 160, 194, 164], [108, 97, 116, 110], [44], [46], [45], [37], [226, 130, 172]⟩,
  ⟨[101, 116, 45, 69, 69], [35, 44, 35, 35, 48, 46, 48, 48, 194, 160, 194, 164], [108, 97, 116, 110], [44], [226, 128, 175], [226, 136, 146], [37], [226, 130, 172]⟩,
  ⟨[102, 97, 45, 73, 82], [35, 44, 35, 35, 48, 46, 48, 48], [97, 114, 97, 98, 101, 120, 116], [217, 171], [217, 172], [226, 136, 146], [217, 170], []⟩,
  ⟨[102, 105, 45, 70, 73], [35, 44, 35, 35, 48, 46, 48, 48, 194, 160, 194, 164], [108, 97, 116, 110], [44], [226, 128, 175], [226, 136, 146], [37], [226, 130, 172]⟩,
  ⟨[102, 114, 45, 67, 65], [35, 44, 35, 35, 48, 46, 48, 48, 194, 160, 194, 164], [108, 97, 116, 110], [44], [226, 128, 175], [45], [37], [36]⟩,
  ⟨[102, 114, 45, 70, 82], [35, 44, 35, 35, 48, 46, 48, 48, 194, 160, 194, 164], [108, 97, 116, 110], [44], [226, 128, 175], [45], [37], [226, 130, 172]⟩,
  ⟨[103, 117, 45, 73, 78], [194, 164, 35, 44, 35, 35, 44, 35, 35, 48, 46, 48, 48], [103, 117, 106, 114], [46], [44], [45], [37], [226, 130, 185]⟩,
  ⟨[104, 101, 45, 73, 76], [35, 44, 35, 35, 48, 46, 48, 48, 194, 160, 194, 164], [108, 97, 116, 110], [46], [44], [45], [37], [226, 130, 170]⟩,
  ⟨[104, 105, 45, 73, 78], [194, 164, 35, 44, 35, 35, 44, 35, 35, 48, 46, 48, 48], [100, 101, 118, 97], [46], [44], [45], [37], [226, 130, 185]⟩,
  ⟨[104, 117, 45, 72, 85], [35, 44, 35, 35, 48, 46, 48, 48, 194, 160, 194, 164], [108, 97, 116, 110], [44], [226, 128, 175], [45], [37], [70, 116]⟩,
  ⟨[105, 100, 45, 73, 68], [194, 164, 194, 160, 35, 44, 35, 35, 48, 46, 48, 48], [108, 97, 116, 110], [44], [46], [45], [37], [82, 112]⟩,
  ⟨[106, 97, 45, 74, 80], [194, 164, 35, 44, 35, 35, 48], [108, 97, 116, 110], [46], [44], [45], [37], [239, 191, 165]⟩,
  ⟨[107, 109, 45, 75, 72], [35, 44, 35, 35, 48, 46, 48, 48, 194, 164], [107, 104, 109, 114], [44], [46], [45], [37], [225, 159, 155]⟩,
  ⟨[107, 110, 45, 73, 78], [194, 164, 35, 44, 35, 35, 44, 35, 35, 48, 46, 48, 48], [107, 110, 100, 97], [46], [44], [45], [37], [226, 130, 185]⟩,
  ⟨[107, 111, 45, 75, 82], [194, 164, 35, 44, 35, 35, 48], [108, 97, 116, 110], [46], [44], [45], [37], [226, 130, 169]⟩,
  ⟨[108, 111, 45, 76, 65], [194, 164, 35, 44, 35, 35, 48, 46, 48, 48, 59, 194, 164, 45, 35, 44, 35, 35, 48, 46, 48, 48], [108, 97, 111, 111], [44], [46], [45], [37], [226, 130, 173]⟩,
  ⟨[109, 114, 45, 73, 78], [194, 164, 35, 44, 35, 35, 44, 35, 35, 48, 46, 48, 48], [100, 101, 118, 97], [46], [44], [45], [37], [226, 130, 185]⟩,
  ⟨[109, 121, 45, 77, 77], [35, 44, 35, 35, 48, 46, 48, 48, 194, 160, 194, 164], [109, 121, 109, 114], [46], [44], [45], [37], [75]⟩,
  ⟨[110, 98, 45, 78, 79], [194, 164, 194, 160, 35, 44, 35, 35, 48, 46, 48, 48, 59, 194, 164, 194, 160, 45, 35, 44, 35, 35, 48, 46, 48, 48], [108, 97, 116, 110], [44], [226, 128, 175], [226, 136, 146], [37], [107, 114]⟩,
  ⟨[110, 108, 45, 78, 76], [194, 164, 194, 160, 35, 44, 35, 35, 48, 46, 48, 48, 59, 194, 164, 194, 160, 45, 35, 44, 35, 35, 48, 46, 48, 48], [108, 97, 116, 110], [44], [46], [45], [37], [226, 130, 172]⟩,
  ⟨[112, 108, 45, 80, 76], [35, 44, 35, 35, 48, 46, 48, 48, 194, 160, 194, 164], [108, 97, 116, 110], [44], [226, 128, 175], [45], [37], [122, 197, 130]⟩,
  ⟨[112, 116, 45, 66, 82], [194, 164, 194, 160, 35, 44, 35, 35, 48, 46, 48, 48], [108, 97, 116, 110], [44], [46], [45], [37], [82, 36]⟩,
  ⟨[114, 117, 45, 82, 85], [35, 44, 35, 35, 48, 46, 48, 48, 194, 160, 194, 164], [108, 97, 116, 110], [44], [226, 128, 175], [45], [37], [226, 130, 189]⟩,
  ⟨[115, 108, 45, 83, 73], [35, 44, 35, 35, 48, 46, 35, 35, 37], [108, 97, 116, 110], [44], [46], [226, 136, 146], [37], []⟩,
  ⟨[116, 97, 45, 73, 78], [194, 164, 194, 160, 35, 44, 35, 35, 44, 35, 35, 48, 46, 48, 48], [116, 97, 109, 108, 100, 101, 99], [46], [44], [45], [37], [226, 130, 185]⟩,
  ⟨[116, 104, 45, 84, 72], [194, 164, 35, 44, 35, 35, 48, 46, 48, 48], [116, 104, 97, 105], [46], [44], [45], [37], [224, 184, 191]⟩,
  ⟨[122, 104, 45, 67, 78], [194, 164, 35, 44, 35, 35, 48, 46, 48, 48], [108, 97, 116, 110], [46], [44], [45], [37], [194, 165]⟩]
def rec0 : Rec := ⟨[], [], [], [], [], [], [], []⟩
def T (i : Nat) : Rec := tab.getD i rec0
/-- The patterns that stand in them. -/
def ptC : List (List Int) := [[164, 35, 44, 35, 35, 48, 46, 48, 48], [48, 46, 48, 48, 160, 164], [35, 44, 35, 35, 44, 35, 35, 48, 46, 48, 48, 164], [35, 44, 35, 35, 48, 46, 48, 48, 160, 164], [164, 160, 35, 44, 35, 35, 48, 46, 48, 48], [164, 160, 35, 44, 35, 35, 48, 46, 48, 48, 59, 164, 45, 35, 44, 35, 35, 48, 46, 48, 48], [164, 35, 44, 35, 35, 44, 35, 35, 48, 46, 48, 48], [35, 44, 35, 35, 48, 46, 48, 48], [164, 35, 44, 35, 35, 48], [35, 44, 35, 35, 48, 46, 48, 48, 164], [164, 35, 44, 35, 35, 48, 46, 48, 48, 59, 164, 45, 35, 44, 35, 35, 48, 46, 48, 48], [164, 160, 35, 44, 35, 35, 48, 46, 48, 48, 59, 164, 160, 45, 35, 44, 35, 35, 48, 46, 48, 48], [35, 44, 35, 35, 48, 46, 35, 35, 37], [164, 160, 35, 44, 35, 35, 44, 35, 35, 48, 46, 48, 48]]
def ptB : List By := [[194, 164, 35, 44, 35, 35, 48, 46, 48, 48], [48, 46, 48, 48, 194, 160, 194, 164], [35, 44, 35, 35, 44, 35, 35, 48, 46, 48, 48, 194, 164], [35, 44, 35, 35, 48, 46, 48, 48, 194, 160, 194, 164], [194, 164, 194, 160, 35, 44, 35, 35, 48, 46, 48, 48], [194, 164, 194, 160, 35, 44, 35, 35, 48, 46, 48, 48, 59, 194, 164, 45, 35, 44, 35, 35, 48, 46, 48, 48], [194, 164, 35, 44, 35, 35, 44, 35, 35, 48, 46, 48, 48], [35, 44, 35, 35, 48, 46, 48, 48], [194, 164, 35, 44, 35, 35, 48], [35, 44, 35, 35, 48, 46, 48, 48, 194, 164], [194, 164, 35, 44, 35, 35, 48, 46, 48, 48, 59, 194, 164, 45, 35, 44, 35, 35, 48, 46, 48, 48], [194, 164, 194, 160, 35, 44, 35, 35, 48, 46, 48, 48, 59, 194, 164, 194, 160, 45, 35, 44, 35, 35, 48, 46, 48, 48], [35, 44, 35, 35, 48, 46, 35, 35, 37], [194, 164, 194, 160, 35, 44, 35, 35, 44, 35, 35, 48, 46, 48, 48]]
def ptN : List Nat := [0, 1, 2, 3, 3, 4, 5, 3, 6, 3, 0, 6, 0, 3, 3, 7, 3, 3, 3, 6, 3, 6, 3, 4, 8, 9, 6, 8, 10, 6, 3, 11, 11, 3, 4, 3, 12, 13, 0, 0]
def nP (i : Nat) : Nat := ptN.getD i 0
def ptX : List Pt.Pat := ptC.map fun c => (Pt.parseC c).1
def P (p : Nat) : Pt.Pat := ptX.getD p Pt.pat0
theorem tab_len : tab.length = 40 := by decide
theorem nP_lt : ∀ i, i < 40 → nP i < 14 := by decide +kernel
theorem pat_of : ∀ i, i < 40 → (T i).pat = ptB.getD (nP i) [] := by decide +kernel
theorem ptC_B : ∀ p, p < 14 → Um.joinL (ptC.getD p []) = ptB.getD p [] ∧ (Pt.parseC (ptC.getD p [])).1 = P p ∧ (ptC.getD p []).all (fun c => Um.vld c) = true := by decide +kernel
/-- What a record that may be is, told by the kernel. -/
def okB (r : Rec) (X : Pt.Pat) : Bool :=
  (r.nam.all fun b => (decide (97 ≤ b.toNat) && decide (b.toNat ≤ 122)) || ((decide (65 ≤ b.toNat) && decide (b.toNat ≤ 90)) || decide (b.toNat = 45))) &&
  (decide (1 ≤ r.nam.length) && (decide (r.nam.length ≤ 16) &&
  (decide (cnt 3 X.pre = 0) && (decide (cnt 3 X.suf = 0) && (decide (cnt 3 X.npre + cnt 3 X.nsuf = 1) &&
  (decide (0 ≤ Sm.nz r.sys) && (decide (r.sys.length ≤ 16) && (symB r.dec && (symB r.min && (decide (0 ≤ X.pr) &&
  ((if 0 < X.pr then symB r.grp else decide (r.grp = [])) &&
  ((wordB r.per || (decide (r.per = []) && (affs X).all fun A => decide (cnt 2 A = 0))) &&
  ((wordB r.cur || (decide (r.cur = []) && (affs X).all fun A => decide (cnt 1 A = 0))) &&
  (((affs X).all fun A => decide (A.length ≤ 10) && A.all (fun x => decide (0 ≤ x.1 ∧ x.1 ≤ 3) && (decide (x.2.length ≤ 10) && ((x.1 != 0 || Cm.plainB (Um.allL x.2)) && (x.1 == 0 || x.2 == []))))) &&
  (((affs X).all fun A => decide ((atx r A).length ≤ 64)) &&
  (decide ((syms r).Nodup) &&
  (((List.range 13).all fun i => decide (i = 11) || decide (0 < ((syms r).getD i ⟨#[]⟩).size)) &&
  (clus r X).all fun c => notin c (syms r))))))))))))))))))
theorem ok_of {r : Rec} {X : Pt.Pat} (h : okB r X = true) : Ok r X := by
  unfold okB at h
  simp only [Bool.and_eq_true, decide_eq_true_eq, List.all_eq_true, Bool.or_eq_true, bne_iff_ne, ne_eq, beq_iff_eq, List.mem_range] at h
  obtain ⟨h1, h2, h3, h4, h5, h6, h7, h8, h9, h10, h11, h12, h13, h14, h15, h16, h17, h18, h19⟩ := h
  exact {
    nam := h1
    nam1 := ⟨h2, h3⟩
    sg := ⟨h4, h5, h6⟩
    sys := h7
    sysl := h8
    dec := h9
    min := h10
    pr := h11
    grp1 := fun h => by rwa [if_pos h] at h12
    grp0 := fun h => by rw [if_neg h] at h12; exact of_decide_eq_true h12
    per := h13
    cur := h14
    aff := fun A hA => ⟨(h15 A hA).1, fun x hx => by
      obtain ⟨g1, g2, g3, g4⟩ := (h15 A hA).2 x hx
      exact ⟨g1, g2, fun e => g3.resolve_left (fun n => n e), fun e => g4.resolve_left e⟩⟩
    len := h16
    dis := h17
    ne := fun i x hx hi => by
      have hl : i < 13 := (List.getElem?_eq_some_iff.1 hx).1
      have := (h18 i hl).resolve_left hi
      rwa [List.getD_eq_getElem?_getD, hx] at this
    cl := fun c hc => of_notin (h19 c hc) }
theorem f_ok0 : ∀ i, i < 8 → okB (T (0 + i)) (P (nP (0 + i))) = true := by decide +kernel
theorem f_ok8 : ∀ i, i < 8 → okB (T (8 + i)) (P (nP (8 + i))) = true := by decide +kernel
theorem f_ok16 : ∀ i, i < 8 → okB (T (16 + i)) (P (nP (16 + i))) = true := by decide +kernel
theorem f_ok24 : ∀ i, i < 8 → okB (T (24 + i)) (P (nP (24 + i))) = true := by decide +kernel
theorem f_ok32 : ∀ i, i < 8 → okB (T (32 + i)) (P (nP (32 + i))) = true := by decide +kernel
theorem f_ok (i : Nat) (h : i < 40) : Ok (T i) (P (nP i)) := by
  refine ok_of ?_
  by_cases h1 : i < 8
  · have := f_ok0 i h1; rwa [Nat.zero_add] at this
  · by_cases h2 : i < 16
    · have := f_ok8 (i - 8) (by omega); rwa [show 8 + (i - 8) = i by omega] at this
    · by_cases h3 : i < 24
      · have := f_ok16 (i - 16) (by omega); rwa [show 16 + (i - 16) = i by omega] at this
      · by_cases h4 : i < 32
        · have := f_ok24 (i - 24) (by omega); rwa [show 24 + (i - 24) = i by omega] at this
        · have := f_ok32 (i - 32) (by omega); rwa [show 32 + (i - 32) = i by omega] at this
/-! ### names, languages -/
def nam (i : Nat) : By := (T i).nam
def lng (l : By) : By := l.takeWhile fun b => b != 45
theorem nam_ne : ∀ i, i < 40 → nam i ≠ [] ∧ (nam i).length = 5 ∧ (nam i)[2]? = some 45 ∧ lng (nam i) = (nam i).take 2 := by decide +kernel
theorem nam_in : ∀ i, i < 40 → ∀ j, j < 40 → nam i = nam j → i = j := by decide +kernel
/-- Where a name stands, below k. -/
def fnd (s : By) : Nat → Int
  | 0 => -1
  | k + 1 => if 0 ≤ fnd s k then fnd s k else if nam k = s then (k : Int) else -1
theorem fnd_lt (s : By) : ∀ k, fnd s k < k ∧ -1 ≤ fnd s k := by
  intro k
  induction k with
  | zero => exact ⟨(by decide : (-1 : Int) < ((0 : Nat) : Int)), (by decide : (-1 : Int) ≤ -1)⟩
  | succ k ih =>
    unfold fnd
    split
    · exact ⟨by omega, by omega⟩
    · split
      · exact ⟨by omega, by omega⟩
      · exact ⟨by omega, by omega⟩
theorem fnd_some {s : By} : ∀ k, 0 ≤ fnd s k → nam (fnd s k).toNat = s := by
  intro k
  induction k with
  | zero => intro h; exact absurd h (by decide : ¬ (0 : Int) ≤ -1)
  | succ k ih =>
    unfold fnd
    split
    · rename_i h; intro _; exact ih h
    · split
      · rename_i h; intro _; simpa using h
      · intro h; exact absurd h (by decide)
theorem fnd_none {s : By} : ∀ k, fnd s k < 0 ↔ ∀ j, j < k → nam j ≠ s := by
  intro k
  induction k with
  | zero => exact ⟨fun _ j hj => by omega, fun _ => (by decide : (-1 : Int) < 0)⟩
  | succ k ih =>
    unfold fnd
    split
    · rename_i h
      refine ⟨fun h2 => by omega, fun h2 => ?_⟩
      have := ih.2 fun j hj => h2 j (by omega)
      omega
    · rename_i h
      have h3 := ih.1 (by omega)
      split
      · rename_i he
        exact ⟨fun h2 => by omega, fun h2 => absurd he (h2 k (by omega))⟩
      · rename_i he
        refine ⟨fun _ j hj => ?_, fun _ => by decide⟩
        by_cases hjk : j = k
        · rw [hjk]; exact he
        · exact h3 j (by omega)
theorem fnd_hit {s : By} {k : Nat} (h : fnd s k < 0) (he : nam k = s) : fnd s (k + 1) = k := by
  unfold fnd
  rw [if_neg (by omega), if_pos he]
theorem fnd_miss {s : By} {k : Nat} (h : fnd s k < 0) (he : nam k ≠ s) : fnd s (k + 1) < 0 := by
  unfold fnd
  rw [if_neg (by omega), if_neg he]
  decide
theorem fnd_stay {s : By} {k : Nat} (h : 0 ≤ fnd s k) : ∀ m, k ≤ m → fnd s m = fnd s k := by
  intro m
  induction m with
  | zero => intro hm; rw [show k = 0 by omega]
  | succ m ih =>
    intro hm
    by_cases hk : k = m + 1
    · rw [hk]
    · have := ih (by omega)
      have e : fnd s (m + 1) = if 0 ≤ fnd s m then fnd s m else if nam m = s then (m : Int) else -1 := rfl
      rw [e, this, if_pos h]
theorem bs_of {l : By} {s : ByteArray} (h : l = s.data.toList) : bs l = s := by
  rw [h]; rfl
/-- The first name of a language, below k; none: the empty text. -/
def fstL (t : By) : Nat → By
  | 0 => []
  | k + 1 => if fstL t k = [] ∧ lng (nam k) = t then nam k else fstL t k
theorem fstL_hit {t : By} {k : Nat} (h : fstL t k = []) (he : lng (nam k) = t) : fstL t (k + 1) = nam k := by
  unfold fstL
  rw [if_pos ⟨h, he⟩]
theorem fstL_miss {t : By} {k : Nat} (he : ¬ (fstL t k = [] ∧ lng (nam k) = t)) : fstL t (k + 1) = fstL t k := by
  show (if fstL t k = [] ∧ lng (nam k) = t then nam k else fstL t k) = _
  rw [if_neg he]
theorem fstL_stay {t : By} {k : Nat} (h : fstL t k ≠ []) : ∀ m, k ≤ m → fstL t m = fstL t k := by
  intro m
  induction m with
  | zero => intro hm; rw [show k = 0 by omega]
  | succ m ih =>
    intro hm
    by_cases hk : k = m + 1
    · rw [hk]
    · have := ih (by omega)
      rw [fstL_miss (fun hx => h (this ▸ hx.1)), this]
theorem lng_all : ∀ {l : By}, (∀ j, j < l.length → l[j]? ≠ some 45) → lng l = l := by
  intro l
  induction l with
  | nil => intro h; rfl
  | cons x l ih =>
    intro h
    have hx : x ≠ 45 := fun e => h 0 (by simp) (by rw [e]; rfl)
    have := ih (fun j hj => by have := h (j + 1) (by simp; omega); rwa [List.getElem?_cons_succ] at this)
    unfold lng at this ⊢
    rw [List.takeWhile_cons, if_pos (by simpa using hx), this]
theorem lng_hit : ∀ {l : By} {k : Nat}, (∀ j, j < k → l[j]? ≠ some 45) → l[k]? = some 45 → lng l = l.take k := by
  intro l
  induction l with
  | nil => intro k h h2; simp at h2
  | cons x l ih =>
    intro k h h2
    cases k with
    | zero =>
      simp at h2
      subst h2
      rfl
    | succ k =>
      have hx : x ≠ 45 := fun e => h 0 (by omega) (by rw [e]; rfl)
      have := ih (k := k) (fun j hj => by have := h (j + 1) (by omega); rwa [List.getElem?_cons_succ] at this) (by rwa [List.getElem?_cons_succ] at h2)
      unfold lng at this ⊢
      rw [List.takeWhile_cons, if_pos (by simpa using hx), this, List.take_succ_cons]
/-- The name that is nearest. -/
def mt (s : By) : By := if 0 ≤ fnd s 40 then s else fstL (lng s) 40
theorem mt_ne {s : By} (h : 0 ≤ fnd s 40) : s ≠ [] := fun e => by
  have h1 := fnd_some 40 h
  have h2 := (fnd_lt s 40).1
  exact (nam_ne (fnd s 40).toNat (by omega)).1 (h1.trans e)
end Fm
end Go.Proofs.Ytglljkbpdbnhaaa
