/- Configurations of whatever kind: what the document's New comes to, by the rows of what is looked at. (and more) -/
import Derived.Test.YtagpofhencpliaaGreatDoorR00
import Derived.Test.YtagpofhencpliaaGreatDoorR04
import Derived.Test.YtagpofhencpliaaGreatDoorR32
import Derived.Test.YtagpofhencpliaaGreatDoorR21
import Derived.Test.YtagpofhencpliaaGreatDoorR30
import Derived.Test.YtagpofhencpliaaGreatDoorR28
import Derived.Test.YtagpofhencpliaaGreatDoorR08
import Derived.Test.YtagpofhencpliaaGreatDoorR02
import Derived.Test.YtagpofhencpliaaGreatDoorR10
import Derived.Test.YtagpofhencpliaaGreatDoorR35
import Derived.Test.YtagpofhencpliaaGreatDoorR03
import Derived.Test.YtagpofhencpliaaGreatDoorRows
set_option linter.unusedVariables false
set_option linter.unusedSimpArgs false
namespace Go.Proofs.YtagpofhencpliaaGreatDoor
open Go.RowKit
namespace Kr
open Kp (Lk lk0 ob rws)
def fw : List Lk → Option (ByteArray × Int)
  | [] => none
  | p :: l => if p.2.2 = true then some (p.1, p.2.1) else fw l
theorem fw_t {a : ByteArray} {c : Int} {b : Bool} {l : List Lk} (h : b = true) : fw ((a, c, b) :: l) = some (a, c) := by subst h; rfl
theorem fw_f {a : ByteArray} {c : Int} {b : Bool} {l : List Lk} (h : b = false) : fw ((a, c, b) :: l) = fw l := by subst h; rfl
theorem fw_none (l : List Lk) (h : ∀ j, j < l.length → (l.getD j lk0).2.2 = false) : fw l = none := by
  induction l with
  | nil => rfl
  | cons p l ih =>
    have h0 : p.2.2 = false := h 0 (by simp)
    unfold fw
    rw [h0, if_neg (by decide)]
    exact ih fun j hj => h (j + 1) (by simpa using hj)
theorem fw_some (l : List Lk) (k : Nat) (hk : k < l.length) (h : ∀ j, j < k → (l.getD j lk0).2.2 = false) (hw : (l.getD k lk0).2.2 = true) : fw l = some ((l.getD k lk0).1, (l.getD k lk0).2.1) := by
  induction l generalizing k with
  | nil => simp at hk
  | cons p l ih =>
    cases k with
    | zero =>
      have h0 : p.2.2 = true := hw
      unfold fw
      rw [h0, if_pos rfl]
      rfl
    | succ k =>
      have h0 : p.2.2 = false := h 0 (by omega)
      unfold fw
      rw [h0, if_neg (by decide)]
      exact ih k (by simpa using hk) (fun j hj => h (j + 1) (by omega)) hw
def bd (r : Int) (ft : Bool) : Int := if r ≠ 0 then r else if ft then 0 else 4
theorem fw_text (nm : ByteArray) (r : Int) (ft : Bool) (l : List Lk) : fw ((nm, r, r != 0) :: (nm, 4, !ft) :: l) = if bd r ft = 0 then fw l else some (nm, bd r ft) := by
  by_cases h : r = 0
  · have e1 : bd r ft = if ft = true then 0 else 4 := by unfold bd; rw [if_neg (fun x => x h)]
    rw [e1, fw_f (show (r != 0) = false by rw [h]; rfl)]
    cases ft
    · exact fw_t rfl
    · exact fw_f rfl
  · have e1 : bd r ft = r := by unfold bd; rw [if_pos h]
    rw [e1, fw_t (bne_iff_ne.2 h), if_neg h]
theorem ob_t {n a b : Int} (h : ¬ (a ≤ n ∧ n ≤ b)) : ob n a b = true := by
  unfold ob
  simp only [Bool.not_eq_eq_eq_not, Bool.not_true, Bool.and_eq_false_iff, decide_eq_false_iff_not]
  omega
theorem ob_f {n a b : Int} (h : a ≤ n ∧ n ≤ b) : ob n a b = false := by unfold ob; rw [decide_eq_true h.1, decide_eq_true h.2]; rfl
theorem nm_t {k : Int} (h : ¬ (0 ≤ k ∧ k ≤ 6)) : (Rm.nm k).toList.isEmpty = true := by rw [Rm.nm_out k (by omega)]; decide +kernel
theorem nm_f {k : Int} (h : 0 ≤ k ∧ k ≤ 6) : (Rm.nm k).toList.isEmpty = false := by
  have e := Rm.nm_in k.toNat
  rw [show ((k.toNat : Nat) : Int) = k by omega] at e
  rw [e]
  exact Rm.nm_ne k.toNat (by omega)
theorem new_all (t0 t1 t2 : ByteArray) (i0 i1 i2 i3 i4 i5 i6 : Int) (w : World) (g : Nat → Bool) (L : Nat → List Int) (s : Nat → Nat) (r : Nat → Int) (ft : Nat → Bool) (c2 c01 : Int)
    (hm : ∀ i, i < 3 → (tx t0 t1 t2 i).size ≤ 1000000) (hp : ∀ i, i < 3 → Dm.prs (tx t0 t1 t2 i).data.toList = (g i, L i, s i, r i)) (hl : ∀ i, i < 3 → (L i).length < 1900) (hd : ∀ i, i < 3 → Dm.okD (L i)) (hs : ∀ i, i < 3 → s i ≤ 1000) (hr : ∀ i, i < 3 → 0 ≤ r i ∧ r i ≤ 100)
    (hft : ∀ i, i < 3 → ft i = Km.fit i0 i2 (Dm.num (L i)) (s i))
    (hc2 : c2 = Dm.cmpD (Dm.cg (g 2) (Dm.num (L 2))) (Dm.st (Dm.num (L 2)) (s 2)).1 (Dm.st (Dm.num (L 2)) (s 2)).2 false 0 0) (hc01 : c01 = Dm.cmpD (Dm.cg (g 0) (Dm.num (L 0))) (Dm.st (Dm.num (L 0)) (s 0)).1 (Dm.st (Dm.num (L 0)) (s 0)).2 (Dm.cg (g 1) (Dm.num (L 1))) (Dm.st (Dm.num (L 1)) (s 1)).1 (Dm.st (Dm.num (L 1)) (s 1)).2) (R : List Lk) (hR : R = rws i0 i1 i2 i3 i4 i6 (Rm.nm i5).toList.isEmpty r ft c2 c01) :
    Calls Tryz.prog 10 #[.agg #[.string t0, .string t1, .string t2, .int .i64 i0, .int .i64 i1, .int .i64 i2, .int .i64 i3, .int .i64 i4, .int .i64 i5, .int .i64 i6]] w fun e w' => (∀ wh c, fw R = some (wh, c) → e = .returned (.tuple #[rul0, .string wh, .int .i64 c])) ∧ (fw R = none → GivesF (w.heap.size + 2) w' e g L s i0 i1 i2 i3 i4 i5 i6) ∧ Q w w' := by
  unfold rws at hR
  have key : ∀ {P : Prop} {wh : ByteArray} {c : Int}, fw R = some (wh, c) → Calls Tryz.prog 10 #[.agg #[.string t0, .string t1, .string t2, .int .i64 i0, .int .i64 i1, .int .i64 i2, .int .i64 i3, .int .i64 i4, .int .i64 i5, .int .i64 i6]] w (fun e w' => e = .returned (.tuple #[rul0, .string wh, .int .i64 c]) ∧ Q w w') → Calls Tryz.prog 10 #[.agg #[.string t0, .string t1, .string t2, .int .i64 i0, .int .i64 i1, .int .i64 i2, .int .i64 i3, .int .i64 i4, .int .i64 i5, .int .i64 i6]] w fun e w' => (∀ wh c, fw R = some (wh, c) → e = .returned (.tuple #[rul0, .string wh, .int .i64 c])) ∧ (fw R = none → GivesF (w.heap.size + 2) w' e g L s i0 i1 i2 i3 i4 i5 i6) ∧ Q w w' := by
    intro P wh c hf h
    refine h.mono ?_
    rintro e w' ⟨rfl, hq⟩
    refine ⟨fun wh' c' h' => ?_, fun h' => ?_, hq⟩
    · rw [hf] at h'
      injection h' with h'
      injection h' with h1 h2
      rw [h1, h2]
    · rw [hf] at h'; cases h'
  by_cases h0 : 1 ≤ i0 ∧ i0 ≤ 64
  case neg => exact key (P := True) (by rw [hR, fw_t (ob_t h0)]) (new_lim0 t0 t1 t2 i0 i1 i2 i3 i4 i5 i6 w h0)
  by_cases h1 : 0 ≤ i1 ∧ i1 ≤ 64
  case neg => exact key (P := True) (by rw [hR, fw_f (ob_f h0), fw_t (ob_t h1)]) (new_lim1 t0 t1 t2 i0 i1 i2 i3 i4 i5 i6 w h0 h1)
  by_cases h2 : 0 ≤ i2 ∧ i2 ≤ i1
  case neg => exact key (P := True) (by rw [hR, fw_f (ob_f h0), fw_f (ob_f h1), fw_t (ob_t h2)]) (new_lim2 t0 t1 t2 i0 i1 i2 i3 i4 i5 i6 w h0 h1 h2)
  by_cases h3 : 0 ≤ i3 ∧ i3 ≤ i0
  case neg => exact key (P := True) (by rw [hR, fw_f (ob_f h0), fw_f (ob_f h1), fw_f (ob_f h2), fw_t (ob_t h3)]) (new_lim3 t0 t1 t2 i0 i1 i2 i3 i4 i5 i6 w h0 h1 h2 h3)
  by_cases h4 : 0 ≤ i4 ∧ i4 ≤ i2
  case neg => exact key (P := True) (by rw [hR, fw_f (ob_f h0), fw_f (ob_f h1), fw_f (ob_f h2), fw_f (ob_f h3), fw_t (ob_t h4)]) (new_lim4 t0 t1 t2 i0 i1 i2 i3 i4 i5 i6 w h0 h1 h2 h3 h4)
  by_cases h5 : 0 ≤ i5 ∧ i5 ≤ 6
  case neg => exact key (P := True) (by rw [hR, fw_f (ob_f h0), fw_f (ob_f h1), fw_f (ob_f h2), fw_f (ob_f h3), fw_f (ob_f h4), fw_t (nm_t h5)]) (new_lim5 t0 t1 t2 i0 i1 i2 i3 i4 i5 i6 w h0 h1 h2 h3 h4 h5)
  by_cases h6 : 1 ≤ i6 ∧ i6 ≤ 1024
  case neg => exact key (P := True) (by rw [hR, fw_f (ob_f h0), fw_f (ob_f h1), fw_f (ob_f h2), fw_f (ob_f h3), fw_f (ob_f h4), fw_f (nm_f h5), fw_t (ob_t h6)]) (new_lim6 t0 t1 t2 i0 i1 i2 i3 i4 i5 i6 w h0 h1 h2 h3 h4 h5 h6)
  have e := hR
  replace e : fw R = if bd (r 0) (ft 0) = 0 then (if bd (r 1) (ft 1) = 0 then (if bd (r 2) (ft 2) = 0 then fw [(⟨#[115, 116, 101, 112]⟩, 3, decide (c2 ≤ 0)), (⟨#[109, 97, 120]⟩, 3, decide (0 < c01))] else some (⟨#[115, 116, 101, 112]⟩, bd (r 2) (ft 2))) else some (⟨#[109, 97, 120]⟩, bd (r 1) (ft 1))) else some (⟨#[109, 105, 110]⟩, bd (r 0) (ft 0)) := by
    rw [hR, fw_f (ob_f h0), fw_f (ob_f h1), fw_f (ob_f h2), fw_f (ob_f h3), fw_f (ob_f h4), fw_f (nm_f h5), fw_f (ob_f h6), fw_text, fw_text, fw_text]
  have hb : ∀ j, j < 3 → bad i0 i2 (r j) (L j) (s j) = bd (r j) (ft j) := fun j hj => by unfold bad bd; rw [hft j hj]
  refine (new_run t0 t1 t2 i0 i1 i2 i3 i4 i5 i6 w g L s r h0 h1 h2 h3 h4 h5 h6 hm hp hl hd hs hr).mono ?_
  rintro e' w' ⟨hh, hq⟩
  rw [← hc2, ← hc01] at hh
  have done : ∀ {wh : ByteArray} {c : Int}, fw R = some (wh, c) → e' = .returned (.tuple #[rul0, .string wh, .int .i64 c]) → (∀ wh c, fw R = some (wh, c) → e' = .returned (.tuple #[rul0, .string wh, .int .i64 c])) ∧ (fw R = none → GivesF (w.heap.size + 2) w' e' g L s i0 i1 i2 i3 i4 i5 i6) ∧ Q w w' := by
    intro wh c hf h
    refine ⟨fun wh' c' h' => ?_, fun h' => ?_, hq⟩
    · rw [hf] at h'
      injection h' with h'
      injection h' with h1 h2
      rw [h, h1, h2]
    · rw [hf] at h'; cases h'
  rcases hh with ⟨k, hk, hlt, hne, he⟩ | ⟨hall, hh⟩
  · rw [hb k hk] at hne he
    rcases (show k = 0 ∨ k = 1 ∨ k = 2 by omega) with rfl | rfl | rfl
    · exact done (by rw [e, if_neg hne]; rfl) he
    · have a0 := hlt 0 (by omega); rw [hb 0 (by omega)] at a0
      exact done (by rw [e, if_pos a0, if_neg hne]; rfl) he
    · have a0 := hlt 0 (by omega); rw [hb 0 (by omega)] at a0
      have a1 := hlt 1 (by omega); rw [hb 1 (by omega)] at a1
      exact done (by rw [e, if_pos a0, if_pos a1, if_neg hne]; rfl) he
  · have a0 := hall 0 (by omega); rw [hb 0 (by omega)] at a0
    have a1 := hall 1 (by omega); rw [hb 1 (by omega)] at a1
    have a2 := hall 2 (by omega); rw [hb 2 (by omega)] at a2
    rw [if_pos a0, if_pos a1, if_pos a2] at e
    rcases hh with ⟨hle, he⟩ | ⟨hpos, hlt, he⟩ | ⟨hpos, hnl, hg⟩
    · exact done (by rw [e, fw_t (decide_eq_true hle)]; rfl) he
    · exact done (by rw [e, fw_f (decide_eq_false (by omega)), fw_t (decide_eq_true hlt)]; rfl) he
    · have en : fw R = none := by rw [e, fw_f (decide_eq_false (by omega)), fw_f (decide_eq_false hnl)]; rfl
      exact ⟨(fun wh c h => by rw [en] at h; cases h), fun _ => hg, hq⟩
end Kr
end Go.Proofs.YtagpofhencpliaaGreatDoor
