/- What the systems' table, a map that the call makes, answers: Zero, which, Of, Names. -/
import Derived.Test.YtaonjhhpiihejaaRows
import Derived.Test.YtaonjhhpiihejaaInts
import Derived.Test.YtaonjhhpiihejaaGap
import Derived.Test.YtaonjhhpiihejaaEls
import Derived.Test.YtaonjhhpiihejaaUtfM
import Derived.Test.YtaonjhhpiihejaaSysM
import Derived.Test.YtaonjhhpiihejaaSysS
import Derived.Maps.OwnSet
import Derived.Maps.RangeWalk
import Derived.Deep.QuietTactic
import Derived.BigQuiet
set_option linter.unusedVariables false
set_option linter.unusedSimpArgs false
namespace Go.Proofs.Ytaonjhhpiihejaa
open Go.RowKit Go.Sort Go.Maps
namespace Sy
open Sm

theorem law9 : Keyed Try.prog 9 := string_keyed Try.underlying9
theorem zeroI (w : World) : (zeroValue 3).run Try.prog w = .ok (.int .i64 0) w := by kernel_rfl
/-- A block is a map of at most n entries that reads as D. -/
abbrev Mp (w : World) (b n : Nat) (D : DataW Unit) : Prop := w.ownsMap Try.prog 9 (plainElem Try.prog 3) b n D

theorem wf_small {v : Int} (h0 : 0 ≤ v) (h1 : v < 1000000) : (Lit.int .i64 v).wf = true := by
  exact WalkArith.wf_i64 (by omega)
/-- One entry of a table that is written out. -/
theorem put_own (w : World) {ops : Array Oper} {rest : List Oper} {o : Oper} {a : Act} {R : Exit → Act → World → Prop}
    (hg : o.guard = none) (m x v : Operand) (hop : o.op = Op.insert 55 m x v) (b n : Nat) (D : DataW Unit)
    (hm : a.eval m = .map (some b)) (hown : Mp w b n D) (hn : n < 1000) (key : List UInt8) (val : Int) (hk : key.length < 1000) (hv0 : 0 ≤ val) (hv1 : val < 1000000) (hx : a.eval x = .string ⟨key.toArray⟩) (hv : a.eval v = .int .i64 val)
    (hK : ∀ w', Mp w' b (n + 1) (D.put (.string key) (.lit (.int .i64 val))) → w.grownBy w' (some b) → wpList Try.prog ops R rest (a.put o.dst undef) w') :
    wpList Try.prog ops R (o :: rest) a w := by
  refine wpList_plain hg fun K' hK' => ?_
  have hkey : keyOf Try.prog 9 (.string ⟨key.toArray⟩) = some (.string key) := by
    refine WideMaps.keyOf_string_mk Try.underlying9 (s := ⟨key.toArray⟩) ?_
    show key.toArray.size ≤ maxLen
    unfold maxLen; simp; omega
  obtain ⟨w', hrun, r1, r2⟩ := World.ownsMap.update hown law9 Try.underlying55 (by unfold maxLen; omega) hkey (plainElem_int Try.underlying3 (wf_small hv0 hv1))
  unfold Oper.wp
  simp [execOp, hop, hm, hx, hv, hrun, Result.andThen]
  exact hK' _ _ (hK w' r1 r2)

theorem tab_put : (((((((((((((((((((((DataW.map []).put (.string [97, 114, 97, 98]) (.lit (.int .i64 1632))).put (.string [97, 114, 97, 98, 101, 120, 116]) (.lit (.int .i64 1776))).put (.string [98, 101, 110, 103]) (.lit (.int .i64 2534))).put (.string [100, 101, 118, 97]) (.lit (.int .i64 2406))).put (.string [102, 117, 108, 108, 119, 105, 100, 101]) (.lit (.int .i64 65296))).put (.string [103, 117, 106, 114]) (.lit (.int .i64 2790))).put (.string [103, 117, 114, 117]) (.lit (.int .i64 2662))).put (.string [107, 104, 109, 114]) (.lit (.int .i64 6112))).put (.string [107, 110, 100, 97]) (.lit (.int .i64 3302))).put (.string [108, 97, 111, 111]) (.lit (.int .i64 3792))).put (.string [108, 97, 116, 110]) (.lit (.int .i64 48))).put (.string [109, 97, 116, 104, 115, 97, 110, 98]) (.lit (.int .i64 120812))).put (.string [109, 108, 121, 109]) (.lit (.int .i64 3430))).put (.string [109, 111, 110, 103]) (.lit (.int .i64 6160))).put (.string [109, 121, 109, 114]) (.lit (.int .i64 4160))).put (.string [111, 114, 121, 97]) (.lit (.int .i64 2918))).put (.string [116, 97, 109, 108, 100, 101, 99]) (.lit (.int .i64 3046))).put (.string [116, 101, 108, 117]) (.lit (.int .i64 3174))).put (.string [116, 104, 97, 105]) (.lit (.int .i64 3664))).put (.string [116, 105, 98, 116]) (.lit (.int .i64 3872)) : DataW Unit) = D0 := by kernel_rfl

set_option maxHeartbeats 4000000 in
set_option maxRecDepth 100000 in
theorem noughts_any (w : World) :
    Calls Try.prog 32 #[] w fun e w' => e = .returned (.map (some w.heap.size)) ∧ Mp w' w.heap.size 20 D0 ∧ Q w w' := by
  have hmm := @run_makeMap Try.prog
  have h0 : Mp (w.alloc (.map #[] 0)) w.heap.size 0 (.map []) := World.ownsMap_made _ _ _ _
  have q0 : Q w (w.alloc (.map #[] 0)) := (Q.refl _).alloc _
  go_enter Try.func32, Try.ntmps32
  go_wp2_with (refine put_own _ rfl _ _ _ rfl _ 0 _ (by rfl) h0 (by omega) [97, 114, 97, 98] 1632 (by decide) (by omega) (by omega) (by rfl) (by rfl) ?_)
  intro w1 h1 g1
  have q1 := q0.grown g1 (fun k h => by cases h; exact Nat.le_refl _)
  go_wp2_with (refine put_own _ rfl _ _ _ rfl _ 1 _ (by rfl) h1 (by omega) [97, 114, 97, 98, 101, 120, 116] 1776 (by decide) (by omega) (by omega) (by rfl) (by rfl) ?_)
  intro w2 h2 g2
  have q2 := q1.grown g2 (fun k h => by cases h; exact Nat.le_refl _)
  go_wp2_with (refine put_own _ rfl _ _ _ rfl _ 2 _ (by rfl) h2 (by omega) [98, 101, 110, 103] 2534 (by decide) (by omega) (by omega) (by rfl) (by rfl) ?_)
  intro w3 h3 g3
  have q3 := q2.grown g3 (fun k h => by cases h; exact Nat.le_refl _)
  go_wp2_with (refine put_own _ rfl _ _ _ rfl _ 3 _ (by rfl) h3 (by omega) [100, 101, 118, 97] 2406 (by decide) (by omega) (by omega) (by rfl) (by rfl) ?_)
  intro w4 h4 g4
  have q4 := q3.grown g4 (fun k h => by cases h; exact Nat.le_refl _)
  go_wp2_with (refine put_own _ rfl _ _ _ rfl _ 4 _ (by rfl) h4 (by omega) [102, 117, 108, 108, 119, 105, 100, 101] 65296 (by decide) (by omega) (by omega) (by rfl) (by rfl) ?_)
  intro w5 h5 g5
  have q5 := q4.grown g5 (fun k h => by cases h; exact Nat.le_refl _)
  go_wp2_with (refine put_own _ rfl _ _ _ rfl _ 5 _ (by rfl) h5 (by omega) [103, 117, 106, 114] 2790 (by decide) (by omega) (by omega) (by rfl) (by rfl) ?_)
  intro w6 h6 g6
  have q6 := q5.grown g6 (fun k h => by cases h; exact Nat.le_refl _)
  go_wp2_with (refine put_own _ rfl _ _ _ rfl _ 6 _ (by rfl) h6 (by omega) [103, 117, 114, 117] 2662 (by decide) (by omega) (by omega) (by rfl) (by rfl) ?_)
  intro w7 h7 g7
  have q7 := q6.grown g7 (fun k h => by cases h; exact Nat.le_refl _)
  go_wp2_with (refine put_own _ rfl _ _ _ rfl _ 7 _ (by rfl) h7 (by omega) [107, 104, 109, 114] 6112 (by decide) (by omega) (by omega) (by rfl) (by rfl) ?_)
  intro w8 h8 g8
  have q8 := q7.grown g8 (fun k h => by cases h; exact Nat.le_refl _)
  go_wp2_with (refine put_own _ rfl _ _ _ rfl _ 8 _ (by rfl) h8 (by omega) [107, 110, 100, 97] 3302 (by decide) (by omega) (by omega) (by rfl) (by rfl) ?_)
  intro w9 h9 g9
  have q9 := q8.grown g9 (fun k h => by cases h; exact Nat.le_refl _)
  go_wp2_with (refine put_own _ rfl _ _ _ rfl _ 9 _ (by rfl) h9 (by omega) [108, 97, 111, 111] 3792 (by decide) (by omega) (by omega) (by rfl) (by rfl) ?_)
  intro w10 h10 g10
  have q10 := q9.grown g10 (fun k h => by cases h; exact Nat.le_refl _)
  go_wp2_with (refine put_own _ rfl _ _ _ rfl _ 10 _ (by rfl) h10 (by omega) [108, 97, 116, 110] 48 (by decide) (by omega) (by omega) (by rfl) (by rfl) ?_)
  intro w11 h11 g11
  have q11 := q10.grown g11 (fun k h => by cases h; exact Nat.le_refl _)
  go_wp2_with (refine put_own _ rfl _ _ _ rfl _ 11 _ (by rfl) h11 (by omega) [109, 97, 116, 104, 115, 97, 110, 98] 120812 (by decide) (by omega) (by omega) (by rfl) (by rfl) ?_)
  intro w12 h12 g12
  have q12 := q11.grown g12 (fun k h => by cases h; exact Nat.le_refl _)
  go_wp2_with (refine put_own _ rfl _ _ _ rfl _ 12 _ (by rfl) h12 (by omega) [109, 108, 121, 109] 3430 (by decide) (by omega) (by omega) (by rfl) (by rfl) ?_)
  intro w13 h13 g13
  have q13 := q12.grown g13 (fun k h => by cases h; exact Nat.le_refl _)
  go_wp2_with (refine put_own _ rfl _ _ _ rfl _ 13 _ (by rfl) h13 (by omega) [109, 111, 110, 103] 6160 (by decide) (by omega) (by omega) (by rfl) (by rfl) ?_)
  intro w14 h14 g14
  have q14 := q13.grown g14 (fun k h => by cases h; exact Nat.le_refl _)
  go_wp2_with (refine put_own _ rfl _ _ _ rfl _ 14 _ (by rfl) h14 (by omega) [109, 121, 109, 114] 4160 (by decide) (by omega) (by omega) (by rfl) (by rfl) ?_)
  intro w15 h15 g15
  have q15 := q14.grown g15 (fun k h => by cases h; exact Nat.le_refl _)
  go_wp2_with (refine put_own _ rfl _ _ _ rfl _ 15 _ (by rfl) h15 (by omega) [111, 114, 121, 97] 2918 (by decide) (by omega) (by omega) (by rfl) (by rfl) ?_)
  intro w16 h16 g16
  have q16 := q15.grown g16 (fun k h => by cases h; exact Nat.le_refl _)
  go_wp2_with (refine put_own _ rfl _ _ _ rfl _ 16 _ (by rfl) h16 (by omega) [116, 97, 109, 108, 100, 101, 99] 3046 (by decide) (by omega) (by omega) (by rfl) (by rfl) ?_)
  intro w17 h17 g17
  have q17 := q16.grown g17 (fun k h => by cases h; exact Nat.le_refl _)
  go_wp2_with (refine put_own _ rfl _ _ _ rfl _ 17 _ (by rfl) h17 (by omega) [116, 101, 108, 117] 3174 (by decide) (by omega) (by omega) (by rfl) (by rfl) ?_)
  intro w18 h18 g18
  have q18 := q17.grown g18 (fun k h => by cases h; exact Nat.le_refl _)
  go_wp2_with (refine put_own _ rfl _ _ _ rfl _ 18 _ (by rfl) h18 (by omega) [116, 104, 97, 105] 3664 (by decide) (by omega) (by omega) (by rfl) (by rfl) ?_)
  intro w19 h19 g19
  have q19 := q18.grown g19 (fun k h => by cases h; exact Nat.le_refl _)
  go_wp2_with (refine put_own _ rfl _ _ _ rfl _ 19 _ (by rfl) h19 (by omega) [116, 105, 98, 116] 3872 (by decide) (by omega) (by omega) (by rfl) (by rfl) ?_)
  intro w20 h20 g20
  have q20 := q19.grown g20 (fun k h => by cases h; exact Nat.le_refl _)
  go_wp2_with fail
  go_ret
  exact ⟨rfl, by rw [← tab_put]; exact h20, q20⟩

theorem keyS (x : ByteArray) (hx : x.size ≤ maxLen) : keyOf Try.prog 9 (.string x) = some (.string x.data.toList) := WideMaps.keyOf_string_mk Try.underlying9 hx

set_option maxHeartbeats 1000000 in
/-- A name that there is. -/
theorem zero_some (x : ByteArray) (w : World) (hx : x.size ≤ maxLen) (h : nz x.data.toList ≠ -1) :
    Calls Try.prog 11 #[.string x] w fun e w' => e = .returned (.tuple #[.int .i64 (nz x.data.toList), .int .i64 0]) ∧ Q w w' := by
  have hh : Maps.has D0 (.string x.data.toList) = true := by rw [D0_has]; exact decide_eq_true h
  have ha := D0_at x.data.toList (.lit (.int .i64 0)) h
  have hk := keyS x hx
  generalize nz x.data.toList = z at *
  have HH := Lib.hid hh
  have HA := Lib.hid ha
  clear hh ha h
  go_enter Try.func11, Try.ntmps11
  go_wp2_with fail
  refine (noughts_any _).mono ?_
  rintro e w1 ⟨rfl, hm, hq⟩
  go_wp2_with (at_lookup; refine wpList_lookup_own_ok_int _ rfl _ _ 55 rfl 9 3 .i64 law9 Try.underlying55 Try.underlying3 (zeroI _) _ 20 D0 (by rfl) hm _ _ (by rfl) hk ?_)
  intro c hat hwc
  obtain rfl : z = c := by
    have h1 := HA.out
    rw [hat] at h1
    injection h1 with h1; injection h1 with _ h1
    exact h1.symm
  rw [HH.out]
  go_wp2_with fail
  go_ret2
  exact ⟨rfl, hq⟩

set_option maxHeartbeats 1000000 in
/-- One that there is not. -/
theorem zero_none (x : ByteArray) (w : World) (hx : x.size ≤ maxLen) (h : nz x.data.toList = -1) :
    Calls Try.prog 11 #[.string x] w fun e w' => e = .returned (.tuple #[.int .i64 0, .int .i64 7]) ∧ Q w w' := by
  have hh : Maps.has D0 (.string x.data.toList) = false := by rw [D0_has]; exact decide_eq_false (fun k => k h)
  have hk := keyS x hx
  have HH := Lib.hid hh
  clear hh h
  go_enter Try.func11, Try.ntmps11
  go_wp2_with fail
  refine (noughts_any _).mono ?_
  rintro e w1 ⟨rfl, hm, hq⟩
  go_wp2_with (at_lookup; refine wpList_lookup_own_ok_int _ rfl _ _ 55 rfl 9 3 .i64 law9 Try.underlying55 Try.underlying3 (zeroI _) _ 20 D0 (by rfl) hm _ _ (by rfl) hk ?_)
  intro c hat hwc
  rw [HH.out]
  go_wp2_with fail
  go_ret2
  exact ⟨rfl, hq⟩

theorem which_yes (z c : Int) (w : World) (hz : 0 ≤ z ∧ z ≤ 1000000) (h1 : z ≤ c) (h2 : c ≤ z + 9) :
    Calls Try.prog 37 #[.int .i64 z, .int .i64 c] w fun e w' => e = .returned (.tuple #[.int .i64 (c - z), .bool true]) ∧ w = w' := by
  go_enter Try.func37, Try.ntmps37
  go_wp2_with fail
  go_ret2
  exact ⟨rfl, rfl⟩
theorem which_no (z c : Int) (w : World) (hz : 0 ≤ z ∧ z ≤ 1000000) (h : ¬ (z ≤ c ∧ c ≤ z + 9)) :
    Calls Try.prog 37 #[.int .i64 z, .int .i64 c] w fun e w' => e = .returned (.tuple #[.int .i64 0, .bool false]) ∧ w = w' := by
  by_cases h1 : z ≤ c
  · have h2 : z + 10 ≤ c := by omega
    go_enter Try.func37, Try.ntmps37
    go_wp2_with fail
    go_ret2
    exact ⟨rfl, rfl⟩
  · have h2 : c < z := by omega
    go_enter Try.func37, Try.ntmps37
    go_wp2_with fail
    go_ret2
    exact ⟨rfl, rfl⟩

theorem left_start (c : Int) : ∀ p ∈ tab, Maps.has D0 (.string p.1) = false → ¬ (p.2 ≤ c ∧ c ≤ p.2 + 9) := by
  intro p hp h
  rw [D0_has] at h
  have h1 := tab_nz p hp
  have h2 := tab_ne p hp
  rw [h1] at h
  exact absurd h2 (of_decide_eq_false h)
theorem left_step {c : Int} {left : Lit → Bool} (h : ∀ p ∈ tab, left (.string p.1) = false → ¬ (p.2 ≤ c ∧ c ≤ p.2 + 9)) {x : List UInt8} {v : Int} (hm : (x, v) ∈ tab) (hn : ¬ (v ≤ c ∧ c ≤ v + 9)) :
    ∀ p ∈ tab, (left (.string p.1) && !(Lit.string p.1).sameKey (.string x)) = false → ¬ (p.2 ≤ c ∧ c ≤ p.2 + 9) := by
  intro p hp hl
  by_cases hx : p.1 = x
  · have h1 := tab_nz p hp
    have h2 := tab_nz _ hm
    simp only at h2
    rw [hx, h2] at h1
    rw [← h1]; exact hn
  · have hf : (Lit.string p.1).sameKey (.string x) = false := by simp [Lit.sameKey, hx]
    rw [hf] at hl
    exact h p hp (by simpa using hl)

set_option maxHeartbeats 2000000 in
theorem of_any (c : Int) (w : World) :
    Calls Try.prog 30 #[.int .i64 c] w fun e w' => e = .returned (.tuple #[.string ⟨(ofC c).1.toArray⟩, .int .i64 (ofC c).2]) ∧ Q w w' := by
  go_enter Try.func30, Try.ntmps30
  go_wp2_with fail
  refine (noughts_any _).mono ?_
  rintro e w1 ⟨rfl, hm, hq1⟩
  go_wp2_with (at_range; refine wpList_range_own _ rfl _ 55 rfl 9 3 law9 Try.underlying55 _ _ 20 _ (by rfl) hm ?_)
  intro w0 hrg0 hg0 hs0
  go_wp2_with fail
  go_loopw [] (fun wr => ∃ (left : Lit → Bool) (cnt : Nat), wr.ranges Try.prog 9 (plainElem Try.prog 3) w.heap.size w1.heap.size 20 D0 left cnt ∧ (∀ p ∈ tab, left (.string p.1) = false → ¬ (p.2 ≤ c ∧ c ≤ p.2 + 9)) ∧ Q w wr)
    (fun wr => wr.rangeLeft w.heap.size w1.heap.size)
  case atStart => exact ⟨_, _, hrg0, left_start c, hq1.grown hg0 (fun j h => by cases h)⟩
  case round =>
    obtain ⟨left, cnt, hrg, hno, hq⟩ := hrel
    go_wp2_with (at_next; refine wpList_next_ranges _ rfl _ rfl 9 law9 (plainElem Try.prog 3) encStr (Value.int .i64) (fun key kl hk => by obtain ⟨x, hx, _⟩ := Maps.keyOf_str Try.underlying9 hk; exact ⟨x, hx⟩) (fun v y hv => by obtain ⟨d, rfl, _⟩ := plainElem_int_inv Try.underlying3 hv; exact ⟨d, rfl⟩) _ _ 20 _ _ _ (by rfl) hrg ?_ ?_)
    · intro hc0 hl0
      have HO := Lib.hid (ofC_none (fun p hp => hno p hp (hl0 _)))
      clear hno hl0 hc0
      go_wp2_with fail
      go_ret2
      rw [HO.out]
      exact ⟨rfl, hq⟩
    · intro x v kl yd yp w2 cnt2 hkey hlk hv hat hrg2 hlt hg2 hs2 hen
      obtain ⟨x', ex, rfl, _⟩ := Maps.keyOf_str Try.underlying9 hkey
      obtain rfl : x = x' := encStr_inj ex
      obtain ⟨v', ev, hyv, _⟩ := plainElem_int_inv Try.underlying3 hv
      obtain rfl : v = v' := by injection ev
      have hmem : (x, v) ∈ tab := by
        refine D0_mem ?_
        rw [hat]; exact congrArg Prod.fst hyv
      have hb := tab_bd _ hmem
      simp only at hb
      have hq2 : Q w w2 := hq.grown hg2 (fun j h => by cases h; exact hq1.le)
      clear hs2 hv hyv hat hlk hkey
      by_cases hin : v ≤ c ∧ c ≤ v + 9
      · have HO := Lib.hid (ofC_mem hmem hin.1 hin.2)
        obtain ⟨h1, h2⟩ := hin
        have hwh := fun w => which_yes v c w ⟨by omega, by omega⟩ h1 h2
        clear hmem hno hb
        go_wp2_with (go_at_call 37; refine (hwh _).mono ?_; rintro e w' ⟨rfl, rfl⟩)
        go_ret2
        rw [HO.out]
        exact ⟨rfl, hq2⟩
      · have HN := Lib.hid (left_step hno hmem hin)
        have hwh := fun w => which_no v c w ⟨by omega, by omega⟩ hin
        clear hmem hno hb hin
        go_wp2_with (go_at_call 37; refine (hwh _).mono ?_; rintro e w' ⟨rfl, rfl⟩)
        go_roundw
        case rel => exact ⟨_, cnt2, hrg2, HN.out, hq2⟩
        case measure => rw [hrg2.left_eq, hrg.left_eq]; exact hlt

end Sy
end Go.Proofs.Ytaonjhhpiihejaa
