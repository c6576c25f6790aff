/- What package digit's own functions on one list come to, by a walk through each. What the systems' table, a map that the call makes, answers: Zero, which, Of, Names. What system's Names, Digit, Value, Shape, Read and Convert answer. The document's own answers on systems of digits: Names, noughts, Zero, Digit, Value, Of, Name. -/
import Derived.Test.YtglljkbpdbnhaaaGreatDoorRows
import Derived.Test.YtglljkbpdbnhaaaGreatDoorMBS
import Derived.Test.YtglljkbpdbnhaaaGreatDoorMA
import Derived.Deep.QuietTactic
import Derived.Deep.RegionWith
import Derived.BigQuiet
import Derived.Test.YtglljkbpdbnhaaaGreatDoorMB
import Derived.Maps.OwnSet
import Derived.Maps.RangeWalk
import Derived.Test.YtglljkbpdbnhaaaGreatDoorMC
import Derived.Test.YtglljkbpdbnhaaaGreatDoorMG
set_option linter.unusedVariables false
set_option linter.unusedSimpArgs false
namespace Go.Proofs.YtglljkbpdbnhaaaGreatDoor
open Go.RowKit
namespace Dw

end Dw
end Go.Proofs.YtglljkbpdbnhaaaGreatDoor

set_option linter.unusedVariables false
set_option linter.unusedSimpArgs false
namespace Go.Proofs.YtglljkbpdbnhaaaGreatDoor
open Go.RowKit Go.Sort Go.Maps
namespace Sy
open Sm

theorem law9 : Keyed Tryz.prog 9 := string_keyed Tryz.underlying9
theorem zeroI (w : World) : (zeroValue 3).run Tryz.prog w = .ok (.int .i64 0) w := by kernel_rfl
/-- A block is a map of at most n entries that reads as D. -/
abbrev Mp (w : World) (b n : Nat) (D : DataW Unit) : Prop := w.ownsMap Tryz.prog 9 (plainElem Tryz.prog 3) b n D

theorem wf_small {v : Int} (h0 : 0 ≤ v) (h1 : v < 1000000) : (Lit.int .i64 v).wf = true := by
  exact WalkArith.wf_i64 (by omega)
/-- One entry of a table that is written out. -/
theorem put_own (w : World) {ops : Array Oper} {rest : List Oper} {o : Oper} {a : Act} {R : Exit → Act → World → Prop}
    (hg : o.guard = none) (m x v : Operand) (hop : o.op = Op.insert 185 m x v) (b n : Nat) (D : DataW Unit)
    (hm : a.eval m = .map (some b)) (hown : Mp w b n D) (hn : n < 1000) (key : List UInt8) (val : Int) (hk : key.length < 1000) (hv0 : 0 ≤ val) (hv1 : val < 1000000) (hx : a.eval x = .string ⟨key.toArray⟩) (hv : a.eval v = .int .i64 val)
    (hK : ∀ w', Mp w' b (n + 1) (D.put (.string key) (.lit (.int .i64 val))) → w.grownBy w' (some b) → wpList Tryz.prog ops R rest (a.put o.dst undef) w') :
    wpList Tryz.prog ops R (o :: rest) a w := by
  refine wpList_plain hg fun K' hK' => ?_
  have hkey : keyOf Tryz.prog 9 (.string ⟨key.toArray⟩) = some (.string key) := by
    refine WideMaps.keyOf_string_mk Tryz.underlying9 (s := ⟨key.toArray⟩) ?_
    show key.toArray.size ≤ maxLen
    unfold maxLen; simp; omega
  obtain ⟨w', hrun, r1, r2⟩ := World.ownsMap.update hown law9 Tryz.underlying185 (by unfold maxLen; omega) hkey (plainElem_int Tryz.underlying3 (wf_small hv0 hv1))
  unfold Oper.wp
  simp [execOp, hop, hm, hx, hv, hrun, Result.andThen]
  exact hK' _ _ (hK w' r1 r2)

theorem tab_put : (((((((((((((((((((((DataW.map []).put (.string [97, 114, 97, 98]) (.lit (.int .i64 1632))).put (.string [97, 114, 97, 98, 101, 120, 116]) (.lit (.int .i64 1776))).put (.string [98, 101, 110, 103]) (.lit (.int .i64 2534))).put (.string [100, 101, 118, 97]) (.lit (.int .i64 2406))).put (.string [102, 117, 108, 108, 119, 105, 100, 101]) (.lit (.int .i64 65296))).put (.string [103, 117, 106, 114]) (.lit (.int .i64 2790))).put (.string [103, 117, 114, 117]) (.lit (.int .i64 2662))).put (.string [107, 104, 109, 114]) (.lit (.int .i64 6112))).put (.string [107, 110, 100, 97]) (.lit (.int .i64 3302))).put (.string [108, 97, 111, 111]) (.lit (.int .i64 3792))).put (.string [108, 97, 116, 110]) (.lit (.int .i64 48))).put (.string [109, 97, 116, 104, 115, 97, 110, 98]) (.lit (.int .i64 120812))).put (.string [109, 108, 121, 109]) (.lit (.int .i64 3430))).put (.string [109, 111, 110, 103]) (.lit (.int .i64 6160))).put (.string [109, 121, 109, 114]) (.lit (.int .i64 4160))).put (.string [111, 114, 121, 97]) (.lit (.int .i64 2918))).put (.string [116, 97, 109, 108, 100, 101, 99]) (.lit (.int .i64 3046))).put (.string [116, 101, 108, 117]) (.lit (.int .i64 3174))).put (.string [116, 104, 97, 105]) (.lit (.int .i64 3664))).put (.string [116, 105, 98, 116]) (.lit (.int .i64 3872)) : DataW Unit) = D0 := by kernel_rfl

set_option maxHeartbeats 4000000 in
set_option maxRecDepth 100000 in
theorem noughts_any (w : World) :
    Calls Tryz.prog 140 #[] w fun e w' => e = .returned (.map (some w.heap.size)) ∧ Mp w' w.heap.size 20 D0 ∧ Q w w' := by
  have hmm := @run_makeMap Tryz.prog
  have h0 : Mp (w.alloc (.map #[] 0)) w.heap.size 0 (.map []) := World.ownsMap_made _ _ _ _
  have q0 : Q w (w.alloc (.map #[] 0)) := (Q.refl _).alloc _
  go_enter Tryz.func140, Tryz.ntmps140
  go_wp2_with (refine put_own _ rfl _ _ _ rfl _ 0 _ (by rfl) h0 (by omega) [97, 114, 97, 98] 1632 (by decide) (by omega) (by omega) (by rfl) (by rfl) ?_)
  intro w1 h1 g1
  have q1 := q0.grown g1 (fun k h => by cases h; exact Nat.le_refl _)
  go_wp2_with (refine put_own _ rfl _ _ _ rfl _ 1 _ (by rfl) h1 (by omega) [97, 114, 97, 98, 101, 120, 116] 1776 (by decide) (by omega) (by omega) (by rfl) (by rfl) ?_)
  intro w2 h2 g2
  have q2 := q1.grown g2 (fun k h => by cases h; exact Nat.le_refl _)
  go_wp2_with (refine put_own _ rfl _ _ _ rfl _ 2 _ (by rfl) h2 (by omega) [98, 101, 110, 103] 2534 (by decide) (by omega) (by omega) (by rfl) (by rfl) ?_)
  intro w3 h3 g3
  have q3 := q2.grown g3 (fun k h => by cases h; exact Nat.le_refl _)
  go_wp2_with (refine put_own _ rfl _ _ _ rfl _ 3 _ (by rfl) h3 (by omega) [100, 101, 118, 97] 2406 (by decide) (by omega) (by omega) (by rfl) (by rfl) ?_)
  intro w4 h4 g4
  have q4 := q3.grown g4 (fun k h => by cases h; exact Nat.le_refl _)
  go_wp2_with (refine put_own _ rfl _ _ _ rfl _ 4 _ (by rfl) h4 (by omega) [102, 117, 108, 108, 119, 105, 100, 101] 65296 (by decide) (by omega) (by omega) (by rfl) (by rfl) ?_)
  intro w5 h5 g5
  have q5 := q4.grown g5 (fun k h => by cases h; exact Nat.le_refl _)
  go_wp2_with (refine put_own _ rfl _ _ _ rfl _ 5 _ (by rfl) h5 (by omega) [103, 117, 106, 114] 2790 (by decide) (by omega) (by omega) (by rfl) (by rfl) ?_)
  intro w6 h6 g6
  have q6 := q5.grown g6 (fun k h => by cases h; exact Nat.le_refl _)
  go_wp2_with (refine put_own _ rfl _ _ _ rfl _ 6 _ (by rfl) h6 (by omega) [103, 117, 114, 117] 2662 (by decide) (by omega) (by omega) (by rfl) (by rfl) ?_)
  intro w7 h7 g7
  have q7 := q6.grown g7 (fun k h => by cases h; exact Nat.le_refl _)
  go_wp2_with (refine put_own _ rfl _ _ _ rfl _ 7 _ (by rfl) h7 (by omega) [107, 104, 109, 114] 6112 (by decide) (by omega) (by omega) (by rfl) (by rfl) ?_)
  intro w8 h8 g8
  have q8 := q7.grown g8 (fun k h => by cases h; exact Nat.le_refl _)
  go_wp2_with (refine put_own _ rfl _ _ _ rfl _ 8 _ (by rfl) h8 (by omega) [107, 110, 100, 97] 3302 (by decide) (by omega) (by omega) (by rfl) (by rfl) ?_)
  intro w9 h9 g9
  have q9 := q8.grown g9 (fun k h => by cases h; exact Nat.le_refl _)
  go_wp2_with (refine put_own _ rfl _ _ _ rfl _ 9 _ (by rfl) h9 (by omega) [108, 97, 111, 111] 3792 (by decide) (by omega) (by omega) (by rfl) (by rfl) ?_)
  intro w10 h10 g10
  have q10 := q9.grown g10 (fun k h => by cases h; exact Nat.le_refl _)
  go_wp2_with (refine put_own _ rfl _ _ _ rfl _ 10 _ (by rfl) h10 (by omega) [108, 97, 116, 110] 48 (by decide) (by omega) (by omega) (by rfl) (by rfl) ?_)
  intro w11 h11 g11
  have q11 := q10.grown g11 (fun k h => by cases h; exact Nat.le_refl _)
  go_wp2_with (refine put_own _ rfl _ _ _ rfl _ 11 _ (by rfl) h11 (by omega) [109, 97, 116, 104, 115, 97, 110, 98] 120812 (by decide) (by omega) (by omega) (by rfl) (by rfl) ?_)
  intro w12 h12 g12
  have q12 := q11.grown g12 (fun k h => by cases h; exact Nat.le_refl _)
  go_wp2_with (refine put_own _ rfl _ _ _ rfl _ 12 _ (by rfl) h12 (by omega) [109, 108, 121, 109] 3430 (by decide) (by omega) (by omega) (by rfl) (by rfl) ?_)
  intro w13 h13 g13
  have q13 := q12.grown g13 (fun k h => by cases h; exact Nat.le_refl _)
  go_wp2_with (refine put_own _ rfl _ _ _ rfl _ 13 _ (by rfl) h13 (by omega) [109, 111, 110, 103] 6160 (by decide) (by omega) (by omega) (by rfl) (by rfl) ?_)
  intro w14 h14 g14
  have q14 := q13.grown g14 (fun k h => by cases h; exact Nat.le_refl _)
  go_wp2_with (refine put_own _ rfl _ _ _ rfl _ 14 _ (by rfl) h14 (by omega) [109, 121, 109, 114] 4160 (by decide) (by omega) (by omega) (by rfl) (by rfl) ?_)
  intro w15 h15 g15
  have q15 := q14.grown g15 (fun k h => by cases h; exact Nat.le_refl _)
  go_wp2_with (refine put_own _ rfl _ _ _ rfl _ 15 _ (by rfl) h15 (by omega) [111, 114, 121, 97] 2918 (by decide) (by omega) (by omega) (by rfl) (by rfl) ?_)
  intro w16 h16 g16
  have q16 := q15.grown g16 (fun k h => by cases h; exact Nat.le_refl _)
  go_wp2_with (refine put_own _ rfl _ _ _ rfl _ 16 _ (by rfl) h16 (by omega) [116, 97, 109, 108, 100, 101, 99] 3046 (by decide) (by omega) (by omega) (by rfl) (by rfl) ?_)
  intro w17 h17 g17
  have q17 := q16.grown g17 (fun k h => by cases h; exact Nat.le_refl _)
  go_wp2_with (refine put_own _ rfl _ _ _ rfl _ 17 _ (by rfl) h17 (by omega) [116, 101, 108, 117] 3174 (by decide) (by omega) (by omega) (by rfl) (by rfl) ?_)
  intro w18 h18 g18
  have q18 := q17.grown g18 (fun k h => by cases h; exact Nat.le_refl _)
  go_wp2_with (refine put_own _ rfl _ _ _ rfl _ 18 _ (by rfl) h18 (by omega) [116, 104, 97, 105] 3664 (by decide) (by omega) (by omega) (by rfl) (by rfl) ?_)
  intro w19 h19 g19
  have q19 := q18.grown g19 (fun k h => by cases h; exact Nat.le_refl _)
  go_wp2_with (refine put_own _ rfl _ _ _ rfl _ 19 _ (by rfl) h19 (by omega) [116, 105, 98, 116] 3872 (by decide) (by omega) (by omega) (by rfl) (by rfl) ?_)
  intro w20 h20 g20
  have q20 := q19.grown g20 (fun k h => by cases h; exact Nat.le_refl _)
  go_wp2_with fail
  go_ret
  exact ⟨rfl, by rw [← tab_put]; exact h20, q20⟩

theorem keyS (x : ByteArray) (hx : x.size ≤ maxLen) : keyOf Tryz.prog 9 (.string x) = some (.string x.data.toList) := WideMaps.keyOf_string_mk Tryz.underlying9 hx

set_option maxRecDepth 100000 in
set_option maxHeartbeats 1000000 in
/-- A name that there is. -/
theorem zero_some (x : ByteArray) (w : World) (hx : x.size ≤ maxLen) (h : nz x.data.toList ≠ -1) :
    Calls Tryz.prog 110 #[.string x] w fun e w' => e = .returned (.tuple #[.int .i64 (nz x.data.toList), .int .i64 0]) ∧ Q w w' := by
  have hh : Maps.has D0 (.string x.data.toList) = true := by rw [D0_has]; exact decide_eq_true h
  have ha := D0_at x.data.toList (.lit (.int .i64 0)) h
  have hk := keyS x hx
  generalize nz x.data.toList = z at *
  have HH := Lib.hid hh
  have HA := Lib.hid ha
  clear hh ha h
  go_enter Tryz.func110, Tryz.ntmps110
  go_wp2_with fail
  refine (noughts_any _).mono ?_
  rintro e w1 ⟨rfl, hm, hq⟩
  go_wp2_with (at_lookup; refine wpList_lookup_own_ok_int _ rfl _ _ 185 rfl 9 3 .i64 law9 Tryz.underlying185 Tryz.underlying3 (zeroI _) _ 20 D0 (by rfl) hm _ _ (by rfl) hk ?_)
  intro c hat hwc
  obtain rfl : z = c := by
    have h1 := HA.out
    rw [hat] at h1
    injection h1 with h1; injection h1 with _ h1
    exact h1.symm
  rw [HH.out]
  go_wp2_with fail
  go_ret2
  exact ⟨rfl, hq⟩

set_option maxRecDepth 100000 in
set_option maxHeartbeats 1000000 in
/-- One that there is not. -/
theorem zero_none (x : ByteArray) (w : World) (hx : x.size ≤ maxLen) (h : nz x.data.toList = -1) :
    Calls Tryz.prog 110 #[.string x] w fun e w' => e = .returned (.tuple #[.int .i64 0, .int .i64 7]) ∧ Q w w' := by
  have hh : Maps.has D0 (.string x.data.toList) = false := by rw [D0_has]; exact decide_eq_false (fun k => k h)
  have hk := keyS x hx
  have HH := Lib.hid hh
  clear hh h
  go_enter Tryz.func110, Tryz.ntmps110
  go_wp2_with fail
  refine (noughts_any _).mono ?_
  rintro e w1 ⟨rfl, hm, hq⟩
  go_wp2_with (at_lookup; refine wpList_lookup_own_ok_int _ rfl _ _ 185 rfl 9 3 .i64 law9 Tryz.underlying185 Tryz.underlying3 (zeroI _) _ 20 D0 (by rfl) hm _ _ (by rfl) hk ?_)
  intro c hat hwc
  rw [HH.out]
  go_wp2_with fail
  go_ret2
  exact ⟨rfl, hq⟩

theorem left_start (c : Int) : ∀ p ∈ tab, Maps.has D0 (.string p.1) = false → ¬ (p.2 ≤ c ∧ c ≤ p.2 + 9) := by
  intro p hp h
  rw [D0_has] at h
  have h1 := tab_nz p hp
  have h2 := tab_ne p hp
  rw [h1] at h
  exact absurd h2 (of_decide_eq_false h)
theorem left_step {c : Int} {left : Lit → Bool} (h : ∀ p ∈ tab, left (.string p.1) = false → ¬ (p.2 ≤ c ∧ c ≤ p.2 + 9)) {x : List UInt8} {v : Int} (hm : (x, v) ∈ tab) (hn : ¬ (v ≤ c ∧ c ≤ v + 9)) :
    ∀ p ∈ tab, (left (.string p.1) && !(Lit.string p.1).sameKey (.string x)) = false → ¬ (p.2 ≤ c ∧ c ≤ p.2 + 9) := by
  intro p hp hl
  by_cases hx : p.1 = x
  · have h1 := tab_nz p hp
    have h2 := tab_nz _ hm
    simp only at h2
    rw [hx, h2] at h1
    rw [← h1]; exact hn
  · have hf : (Lit.string p.1).sameKey (.string x) = false := by simp [Lit.sameKey, hx]
    rw [hf] at hl
    exact h p hp (by simpa using hl)

end Sy
end Go.Proofs.YtglljkbpdbnhaaaGreatDoor

set_option linter.unusedVariables false
set_option linter.unusedSimpArgs false
namespace Go.Proofs.YtglljkbpdbnhaaaGreatDoor
open Go.RowKit Go.Sort Go.Maps
namespace Sy
open Sm Um

abbrev KOwn (w : World) (B : Nat) (v : Value) (ss : List (List UInt8)) : Prop := GOwn 9 encStr w B v ss

set_option maxHeartbeats 1000000 in
theorem digit_any (x : ByteArray) (d : Int) (w : World) (hx : x.size ≤ maxLen) :
    Calls Tryz.prog 58 #[.string x, .int .i64 d] w fun e w' => e = .returned (.tuple #[.string (dgS (nz x.data.toList) d), .int .i64 (dgE (nz x.data.toList) d)]) ∧ Q w w' := by
  have hb := nz_bd x.data.toList
  by_cases hz : nz x.data.toList = -1
  · have HS : Hid (dgS (nz x.data.toList) d = ⟨#[]⟩) := Lib.hid (by unfold dgS; rw [if_pos hz])
    have HE : Hid (dgE (nz x.data.toList) d = 7) := Lib.hid (by unfold dgE; rw [if_pos hz])
    have hc := fun w => zero_none x w hx hz
    clear hz hb
    go_enter Tryz.func58, Tryz.ntmps58
    go_wp2_with (go_at_call 110; refine (hc _).mono ?_; rintro e w1 ⟨rfl, hq1⟩)
    go_ret2
    rw [HS.out, HE.out]
    exact ⟨rfl, hq1⟩
  · have hc := fun w => zero_some x w hx hz
    have hb2 : 48 ≤ nz x.data.toList ∧ nz x.data.toList ≤ 120812 := by omega
    clear hb
    generalize nz x.data.toList = z at *
    by_cases h0 : 0 ≤ d
    · by_cases h9 : d ≤ 9
      · have HS : Hid (dgS z d = Um.encB (z + d)) := Lib.hid (by unfold dgS; rw [if_neg hz, if_pos ⟨h0, h9⟩])
        have HE : Hid (dgE z d = 0) := Lib.hid (by unfold dgE; rw [if_neg hz, if_pos ⟨h0, h9⟩])
        have h10 : d < 10 := by omega
        clear hz h9
        go_enter Tryz.func58, Tryz.ntmps58
        go_wp2_with (first | (go_at_call 110; refine (hc _).mono ?_; rintro e w1 ⟨rfl, hq1⟩) | (go_at_call 111; refine (encode_any _ _).mono ?_; rintro e w' ⟨rfl, rfl⟩))
        go_ret2
        rw [HS.out, HE.out]
        exact ⟨rfl, hq1⟩
      · have HS : Hid (dgS z d = ⟨#[]⟩) := Lib.hid (by unfold dgS; rw [if_neg hz, if_neg (by omega)])
        have HE : Hid (dgE z d = 3) := Lib.hid (by unfold dgE; rw [if_neg hz, if_neg (by omega)])
        have h10 : 10 ≤ d := by omega
        clear hz h9
        go_enter Tryz.func58, Tryz.ntmps58
        go_wp2_with (go_at_call 110; refine (hc _).mono ?_; rintro e w1 ⟨rfl, hq1⟩)
        go_ret2
        rw [HS.out, HE.out]
        exact ⟨rfl, hq1⟩
    · have HS : Hid (dgS z d = ⟨#[]⟩) := Lib.hid (by unfold dgS; rw [if_neg hz, if_neg (by omega)])
      have HE : Hid (dgE z d = 3) := Lib.hid (by unfold dgE; rw [if_neg hz, if_neg (by omega)])
      have h10 : d < 0 := by omega
      clear hz h0
      go_enter Tryz.func58, Tryz.ntmps58
      go_wp2_with (go_at_call 110; refine (hc _).mono ?_; rintro e w1 ⟨rfl, hq1⟩)
      go_ret2
      rw [HS.out, HE.out]
      exact ⟨rfl, hq1⟩

end Sy
end Go.Proofs.YtglljkbpdbnhaaaGreatDoor

set_option linter.unusedVariables false
set_option linter.unusedSimpArgs false
namespace Go.Proofs.YtglljkbpdbnhaaaGreatDoor
open Go.RowKit
namespace Sr
open Sm Um

theorem nm_at : ∀ i, i < 20 → nz (nmL.getD i []) = zrs.getD i 0 ∧ (nmL.getD i [], zrs.getD i 0) ∈ tab := by decide +kernel
theorem names_any (w : World) :
    Calls Tryz.prog 52 #[] w fun e w' => ∃ g, e = .returned (.slice (some ⟨g, 0, none⟩) 20 20) ∧ g < w'.heap.size ∧ (∀ k, k < 20 → w'.cell? ⟨g, k, none⟩ = some (.string ⟨(nmL.getD k []).toArray⟩)) ∧ SLst w' (.slice (some ⟨g, 0, none⟩) 20 20) nmB ∧ Q w w' := by
  have hl := GLst.made Value.string 9 w nmB 20 rfl (by unfold maxLen; omega)
  have he : (nmB.map Value.string).toArray = #[.string ⟨(nmL.getD 0 []).toArray⟩, .string ⟨(nmL.getD 1 []).toArray⟩, .string ⟨(nmL.getD 2 []).toArray⟩, .string ⟨(nmL.getD 3 []).toArray⟩, .string ⟨(nmL.getD 4 []).toArray⟩, .string ⟨(nmL.getD 5 []).toArray⟩, .string ⟨(nmL.getD 6 []).toArray⟩, .string ⟨(nmL.getD 7 []).toArray⟩, .string ⟨(nmL.getD 8 []).toArray⟩, .string ⟨(nmL.getD 9 []).toArray⟩, .string ⟨(nmL.getD 10 []).toArray⟩, .string ⟨(nmL.getD 11 []).toArray⟩, .string ⟨(nmL.getD 12 []).toArray⟩, .string ⟨(nmL.getD 13 []).toArray⟩, .string ⟨(nmL.getD 14 []).toArray⟩, .string ⟨(nmL.getD 15 []).toArray⟩, .string ⟨(nmL.getD 16 []).toArray⟩, .string ⟨(nmL.getD 17 []).toArray⟩, .string ⟨(nmL.getD 18 []).toArray⟩, .string ⟨(nmL.getD 19 []).toArray⟩] := rfl
  rw [he] at hl
  clear he
  have hc : ∀ k, k < 20 → ∀ w', SLst w' (.slice (some ⟨w.heap.size, 0, none⟩) 20 20) nmB → w'.cell? ⟨w.heap.size, k, none⟩ = some (.string ⟨(nmL.getD k []).toArray⟩) := by
    intro k hk w' h
    obtain ⟨g, off, cap, hv, _, _, _, hc⟩ := GLst.cellOf h (n := 20) rfl (nmB_at k hk)
    cases hv
    rw [Nat.zero_add] at hc
    exact hc
  have HC := Lib.hid hc
  have HL := Lib.hid hl
  clear hc hl
  go_enter Tryz.func52, Tryz.ntmps52
  go_wp2_with fail
  go_ret
  exact ⟨_, rfl, by simp, fun k hk => HC.out k hk _ HL.out, HL.out, (Q.refl _).alloc _⟩

theorem noughts_any (w : World) :
    Calls Tryz.prog 90 #[] w fun e w' => ∃ g, e = .returned (.slice (some ⟨g, 0, none⟩) 20 20) ∧ (∀ k, k < 20 → w'.cell? ⟨g, k, none⟩ = some (.int .i64 (zrs.getD k 0))) ∧ Q w w' := by
  have hl := Lst.made w zrs 20 rfl (by unfold maxLen; omega)
  have hc : ∀ k, k < 20 → ∀ w', Lst w' (.slice (some ⟨w.heap.size, 0, none⟩) 20 20) zrs → w'.cell? ⟨w.heap.size, k, none⟩ = some (.int .i64 (zrs.getD k 0)) := by
    intro k hk w' h
    obtain ⟨g, off, cap, hv, _, _, _, hc⟩ := h.cellOf (n := 20) rfl hk
    cases hv
    rw [Nat.zero_add] at hc
    exact hc
  have HC := Lib.hid hc
  have HL := Lib.hid hl
  clear hc hl
  go_enter Tryz.func90, Tryz.ntmps90
  go_wp2_with fail
  go_ret
  exact ⟨_, rfl, fun k hk => HC.out k hk _ HL.out, (Q.refl _).alloc _⟩

set_option maxHeartbeats 1600000 in
theorem zero_any (x : ByteArray) (w : World) :
    Calls Tryz.prog 41 #[.string x] w fun e w' => e = .returned (.int .i64 (nz x.data.toList)) ∧ Q w w' := by
  obtain ⟨y, hy⟩ : ∃ y, y = x.data.toList := ⟨_, rfl⟩
  have HY := Lib.hid hy
  have hm1 : ∀ k : Nat, k < 20 → (⟨(nmL.getD k []).toArray⟩ : ByteArray) = x → nz x.data.toList = zrs.getD k 0 := by
    intro k hk h
    rw [← h]; exact (nm_at k hk).1
  have hm2 : (∀ k : Nat, k < 20 → (⟨(nmL.getD k []).toArray⟩ : ByteArray) ≠ x) → nz x.data.toList = -1 := by
    intro h
    rcases nz_cases x.data.toList with ⟨h1, _⟩ | h1
    · exact h1
    · exfalso
      have hmem : x.data.toList ∈ nmL := List.mem_map.2 ⟨_, h1, rfl⟩
      obtain ⟨k, hk, he⟩ := List.mem_iff_getElem.1 hmem
      rw [nmL_len] at hk
      refine h k hk ?_
      rw [List.getD_eq_getElem?_getD, List.getElem?_eq_getElem (by rw [nmL_len]; exact hk)]
      apply ba_ext
      show nmL[k] = _
      exact he
  have HM1 := Lib.hid hm1
  have HM2 := Lib.hid hm2
  clear hm1 hm2 hy
  generalize nz x.data.toList = z at *
  go_enter Tryz.func41, Tryz.ntmps41
  go_wp2_with fail
  refine (names_any _).mono ?_
  rintro e w1 ⟨g, rfl, hg, hcell, hsl, hq1⟩
  have HCE := Lib.hid hcell
  clear hcell hsl
  go_wp2_with fail
  go_loopw [4] (fun i wr => ∃ k : Nat, i = .int .i64 k ∧ k ≤ 20 ∧ (∀ j : Nat, j < k → (⟨(nmL.getD j []).toArray⟩ : ByteArray) ≠ x) ∧ Q w1 wr) (fun i _ => 20 - (intOf i).toNat)
  case atStart => exact ⟨0, rfl, by omega, fun j hj => absurd hj (Nat.not_lt_zero j), Q.refl _⟩
  case round =>
    obtain ⟨k, rfl, hk, hno, hq⟩ := hrel
    by_cases hlt : k < 20
    · have c1 : wr.cell? ⟨g, k, none⟩ = some (.string ⟨(nmL.getD k []).toArray⟩) := (World.cell?_of_block (w := w1) (hq.block hg)).trans (HCE.out k hlt)
      have hz1 := HM1.out k hlt
      have hn1 : (⟨(nmL.getD k []).toArray⟩ : ByteArray) ≠ x → ∀ j : Nat, j < k + 1 → (⟨(nmL.getD j []).toArray⟩ : ByteArray) ≠ x := by
        intro h j hj
        by_cases hjk : j = k
        · subst hjk; exact h
        · exact hno j (by omega)
      generalize (⟨(nmL.getD k []).toArray⟩ : ByteArray) = p at c1 hz1 hn1
      have HN := Lib.hid hn1
      clear hno hn1
      by_cases hp : p = x
      · have HZ := Lib.hid (hz1 hp)
        subst hp
        clear hz1
        go_wp2_with fail
        refine (noughts_any _).mono ?_
        rintro e w2 ⟨g2, rfl, hc2, hq2⟩
        have c2 := hc2 k hlt
        rw [← HZ.out] at c2
        clear hc2
        go_wp2_with fail
        go_ret
        exact ⟨rfl, (hq1.trans hq).trans hq2⟩
      · have ht := str_ne hp
        have HN2 := Lib.hid (HN.out hp)
        clear hz1 hp
        go_wp2_with fail
        exact ⟨⟨k + 1, by go_num, by omega, HN2.out, hq⟩, by simp [intOf]; omega⟩
    · have hke : k = 20 := by omega
      subst hke
      have HZ := Lib.hid (HM2.out hno)
      clear hno
      go_wp2_with fail
      go_ret
      rw [HZ.out]
      exact ⟨rfl, hq1.trans hq⟩

theorem digit_any (x : ByteArray) (d : Int) (w : World) (h0 : 0 ≤ d) (h9 : d ≤ 9) :
    Calls Tryz.prog 17 #[.string x, .int .i64 d] w fun e w' => e = .returned (.string (encB (nz x.data.toList + d))) ∧ Q w w' := by
  have hb := nz_bd x.data.toList
  have hb2 : -1 ≤ nz x.data.toList ∧ nz x.data.toList ≤ 120812 := by omega
  have hz := fun w => zero_any x w
  clear hb
  generalize nz x.data.toList = z at *
  go_enter Tryz.func17, Tryz.ntmps17
  go_wp2_with (go_at_call 41; refine (hz _).mono ?_; rintro e w1 ⟨rfl, hq1⟩)
  refine (Ur.encode_any _ _).mono ?_
  rintro e w2 ⟨rfl, hq2⟩
  go_wp2_with fail
  go_ret
  exact ⟨rfl, hq1.trans hq2⟩

theorem name_any (n : Int) (w : World) (h0 : -9223372036854775808 ≤ n) (h1 : n ≤ 9223372036854775807) :
    Calls Tryz.prog 31 #[.int .i64 n] w fun e w' => e = .returned (.string ⟨(nm n).toArray⟩) ∧ Q w w' := by
  have hi := idx_lt n
  have hA := fun w => Ur.around_any n 20 w h0 h1 (by omega) (by omega)
  rw [idx_int] at hA
  have hn : nm n = nmL.getD (idx n) [] := rfl
  rw [hn]
  clear hn
  generalize idx n = k at *
  have HA := Lib.hid hA
  clear hA
  go_enter Tryz.func31, Tryz.ntmps31
  go_wp2_with fail
  refine (names_any _).mono ?_
  rintro e w1 ⟨g, rfl, hg, hcell, hsl, hq1⟩
  have c1 := hcell k hi
  clear hcell hsl
  obtain ⟨p, hp⟩ : ∃ p, p = (⟨(nmL.getD k []).toArray⟩ : ByteArray) := ⟨_, rfl⟩
  rw [← hp] at c1
  have HP := Lib.hid hp
  clear hp
  go_wp2_with fail
  refine (HA.out _).mono ?_
  rintro e w2 ⟨rfl, rfl⟩
  go_wp2_with fail
  go_ret
  rw [← HP.out]
  exact ⟨rfl, hq1⟩

theorem of_step (c : Int) (k : Nat) (hk : k < 20) (h : vv (nz (nmL.getD k [])) c = -1) : ¬ (zrs.getD k 0 ≤ c ∧ c ≤ zrs.getD k 0 + 9) := by
  obtain ⟨h1, h2⟩ := nm_at k hk
  have hb := tab_bd _ h2
  rw [h1] at h
  simp only at hb
  unfold vv at h
  rw [if_neg (by omega)] at h
  unfold vl at h
  split at h <;> omega
theorem of_found (c : Int) (k : Nat) (hk : k < 20) (h : vv (nz (nmL.getD k [])) c ≠ -1) : ofC c = (nmL.getD k [], vv (nz (nmL.getD k [])) c) ∧ 0 ≤ vv (nz (nmL.getD k [])) c ∧ vv (nz (nmL.getD k [])) c ≤ 9 := by
  obtain ⟨h1, h2⟩ := nm_at k hk
  have hb := tab_bd _ h2
  rw [h1] at h ⊢
  simp only at hb
  unfold vv at h ⊢
  rw [if_neg (by omega)] at h ⊢
  unfold vl at h ⊢
  split at h
  · rename_i hc
    rw [if_pos hc]
    exact ⟨ofC_mem h2 hc.1 hc.2, by omega, by omega⟩
  · exact absurd rfl h
theorem of_end (c : Int) (h : ∀ k : Nat, k < 20 → ¬ (zrs.getD k 0 ≤ c ∧ c ≤ zrs.getD k 0 + 9)) : ofC c = ([], -1) := by
  refine ofC_none fun p hp => ?_
  obtain ⟨k, hk, he⟩ := List.mem_iff_getElem.1 hp
  rw [tab_len] at hk
  have h1 := h k hk
  have : zrs.getD k 0 = p.2 := by
    unfold zrs
    rw [List.getD_eq_getElem?_getD, List.getElem?_map, List.getElem?_eq_getElem (by rw [tab_len]; exact hk), he]; rfl
  rw [this] at h1
  exact h1

end Sr
end Go.Proofs.YtglljkbpdbnhaaaGreatDoor
