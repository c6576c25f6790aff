/- What system's Names, Digit, Value, Shape, Read and Convert answer. -/
import Derived.Test.YtaonjhhpiihejaaRows
import Derived.Test.YtaonjhhpiihejaaInts
import Derived.Test.YtaonjhhpiihejaaEls
import Derived.Test.YtaonjhhpiihejaaUtfM
import Derived.Test.YtaonjhhpiihejaaUtfW
import Derived.Test.YtaonjhhpiihejaaDigM
import Derived.Test.YtaonjhhpiihejaaDigL
import Derived.Test.YtaonjhhpiihejaaDigW
import Derived.Test.YtaonjhhpiihejaaBld
import Derived.Test.YtaonjhhpiihejaaSysM
import Derived.Test.YtaonjhhpiihejaaSysN
set_option linter.unusedVariables false
set_option linter.unusedSimpArgs false
namespace Go.Proofs.Ytaonjhhpiihejaa
open Go.RowKit Go.Sort Go.Maps
namespace Sy
open Sm Um

abbrev KOwn (w : World) (B : Nat) (v : Value) (ss : List (List UInt8)) : Prop := GOwn 9 encStr w B v ss

set_option maxHeartbeats 2000000 in
theorem names_any (w : World) :
    Calls Try.prog 14 #[] w fun e w' => ∃ v, e = .returned v ∧ SLst w' v nmB ∧ Q w w' := by
  go_enter Try.func14, Try.ntmps14
  go_wp2_with fail
  refine (noughts_any _).mono ?_
  rintro e w1 ⟨rfl, hm, hq1⟩
  have hbl := World.ownsMap.lt hm
  have hm1 := hm
  go_wp2_with (at_range; refine wpList_range_own _ rfl _ 55 rfl 9 3 law9 Try.underlying55 _ _ 20 _ (by rfl) hm ?_)
  intro w0 hrg0 hg0 hs0
  have hw0 : w1.heap.size ≤ w0.heap.size := hg0.size
  clear hs0
  go_wp2_with fail
  go_loopw [1] (fun v wr => ∃ (left : Lit → Bool) (cnt : Nat) (ss : List (List UInt8)), wr.ranges Try.prog 9 (plainElem Try.prog 3) w.heap.size w1.heap.size 20 D0 left cnt ∧ ss.length + cnt ≤ 20 ∧
      KOwn wr w1.heap.size v ss ∧ Collected D0 left ss ∧ Q w wr ∧ w1.heap.size ≤ wr.heap.size)
    (fun _ wr => wr.rangeLeft w.heap.size w1.heap.size)
  case atStart => exact ⟨_, _, [], hrg0, by rw [D0_size]; simp, GOwn.nil _ _ _ _, Collected.start D0, hq1.grown hg0 (fun j h => by cases h), hw0⟩
  case round =>
    obtain ⟨left, cnt, ss, hrg, hcs, hrow, hC, hq, hws⟩ := hrel
    go_wp2_with (at_next; refine wpList_next_ranges _ rfl _ rfl 9 law9 (plainElem Try.prog 3) encStr (Value.int .i64) (fun key kl hk => by obtain ⟨x, hx, _⟩ := Maps.keyOf_str Try.underlying9 hk; exact ⟨x, hx⟩) (fun v y hv => by obtain ⟨d, rfl, _⟩ := plainElem_int_inv Try.underlying3 hv; exact ⟨d, rfl⟩) _ _ 20 _ _ _ (by rfl) hrg ?_ ?_)
    · intro hc0 hl0
      have hperm : ss.Perm nmL := by
        have := hC.perm hm1 law9 Try.underlying9 hl0
        rwa [strKeys_D0] at this
      have hlen : ss.length = 20 := hperm.length_eq
      rcases hrow.2 with ⟨_, hn⟩ | ⟨g, cap, cur, rfl, hbase, hb, h1, h2, h3, h4⟩
      · omega
      have hH : Holds encStr wr g 0 ss.toArray := holds_of_block hb (by simpa using h4)
      have hgl : g < wr.heap.size := (Array.getElem?_eq_some_iff.1 hb).1
      have hc := sort_any g cap ss wr hH hgl (by omega)
      have hgw : w.heap.size ≤ g := by omega
      have hfin : ∀ (n : Nat) (os : Array Obj), SLst (grow (putRow encStr (Sort.ahead wr n) g 0 (ss.mergeSort fun x y => decide (x ≤ y)).toArray) os) (.slice (some ⟨g, 0, none⟩) ss.length cap) nmB := by
        intro n os
        have hr := ownsRow_sorted (ts := ss.mergeSort fun x y => decide (x ≤ y)) (w := wr) (n := n) (os := os) (by simp) hbase hb h1 h2 h3
        have hms : (ss.mergeSort fun x y => decide (x ≤ y)) = nmL := (mergeSort_of_perm hperm).trans sorted_nmL
        rw [hms] at hr ⊢
        have : SOwn (grow (putRow encStr (Sort.ahead wr n) g 0 nmL.toArray) os) w1.heap.size (.slice (some ⟨g, 0, none⟩) ss.length cap) nmB := by
          have hlen2 : nmB.length = ss.length := by rw [hlen]; rfl
          unfold SOwn GOwn
          rw [hlen2]
          exact hr
        exact this.lst
      have HF := Lib.hid hfin
      have hqs : ∀ (n : Nat) (os : Array Obj), Q w (grow (putRow encStr (Sort.ahead wr n) g 0 (ss.mergeSort fun x y => decide (x ≤ y)).toArray) os) := fun n os => hq.grown (grownBy_sorted _) (fun j h => by cases h; exact hgw)
      have HQ := Lib.hid hqs
      have HL := Lib.hid hlen
      clear hfin hqs hperm hC hcs hlen
      go_wp2_with (go_at_call 34; refine hc.mono ?_; rintro e w' ⟨rfl, nn, os, rfl⟩)
      go_ret
      exact ⟨_, rfl, HF.out nn os, HQ.out nn os⟩
    · intro x v' kl yd yp w2 cnt2 hkey hlk hv hat hrg2 hlt hg2 hs2 hen
      obtain ⟨x', ex, rfl, _⟩ := Maps.keyOf_str Try.underlying9 hkey
      obtain rfl : x = x' := encStr_inj ex
      have hrow2 : KOwn w2 w1.heap.size _ ss := World.ownsRow.kept hrow hg2 (Or.inr (row_ne_iter hrow hrg).symm)
      have hq2 : Q w w2 := hq.grown hg2 (fun j h => by cases h; exact hq1.le)
      have hws2 : w1.heap.size ≤ w2.heap.size := Nat.le_trans hws hg2.size
      have hC2 := hC.step hlk hat
      have hll : ss.length < 1099511627776 := by omega
      clear hs2 hv hkey hC
      go_wp2_with (at_builtin; refine gpush elemS (en := encStr) hrow2 rfl _ _ rfl x rfl (by rfl) (by rfl) hll hws2 ?_)
      intro u w3 hown3 hg3 hat3
      have hrg3 := hrg2.kept hg3 (row_ne_low hrow2 hbl) (row_ne_iter hrow2 hrg2)
      have hq3 : Q w w3 := hq2.grown hg3 (fun j h => by have := (hrow2.lt j h).1; omega)
      have hws3 : w1.heap.size ≤ w3.heap.size := Nat.le_trans hws2 hg3.size
      go_wp2_with fail
      exact ⟨⟨_, cnt2, ss ++ [x], hrg3, by simp; omega, hown3, hC2, hq3, hws3⟩, by rw [hrg3.left_eq, hrg.left_eq]; exact hlt⟩

set_option maxHeartbeats 1000000 in
theorem digit_any (x : ByteArray) (d : Int) (w : World) (hx : x.size ≤ maxLen) :
    Calls Try.prog 18 #[.string x, .int .i64 d] w fun e w' => e = .returned (.tuple #[.string (dgS (nz x.data.toList) d), .int .i64 (dgE (nz x.data.toList) d)]) ∧ Q w w' := by
  have hb := nz_bd x.data.toList
  by_cases hz : nz x.data.toList = -1
  · have HS : Hid (dgS (nz x.data.toList) d = ⟨#[]⟩) := Lib.hid (by unfold dgS; rw [if_pos hz])
    have HE : Hid (dgE (nz x.data.toList) d = 7) := Lib.hid (by unfold dgE; rw [if_pos hz])
    have hc := fun w => zero_none x w hx hz
    clear hz hb
    go_enter Try.func18, Try.ntmps18
    go_wp2_with (go_at_call 11; refine (hc _).mono ?_; rintro e w1 ⟨rfl, hq1⟩)
    go_ret2
    rw [HS.out, HE.out]
    exact ⟨rfl, hq1⟩
  · have hc := fun w => zero_some x w hx hz
    have hb2 : 48 ≤ nz x.data.toList ∧ nz x.data.toList ≤ 120812 := by omega
    clear hb
    generalize nz x.data.toList = z at *
    by_cases h0 : 0 ≤ d
    · by_cases h9 : d ≤ 9
      · have HS : Hid (dgS z d = Um.encB (z + d)) := Lib.hid (by unfold dgS; rw [if_neg hz, if_pos ⟨h0, h9⟩])
        have HE : Hid (dgE z d = 0) := Lib.hid (by unfold dgE; rw [if_neg hz, if_pos ⟨h0, h9⟩])
        have h10 : d < 10 := by omega
        clear hz h9
        go_enter Try.func18, Try.ntmps18
        go_wp2_with (first | (go_at_call 11; refine (hc _).mono ?_; rintro e w1 ⟨rfl, hq1⟩) | (go_at_call 35; refine (encode_any _ _).mono ?_; rintro e w' ⟨rfl, rfl⟩))
        go_ret2
        rw [HS.out, HE.out]
        exact ⟨rfl, hq1⟩
      · have HS : Hid (dgS z d = ⟨#[]⟩) := Lib.hid (by unfold dgS; rw [if_neg hz, if_neg (by omega)])
        have HE : Hid (dgE z d = 3) := Lib.hid (by unfold dgE; rw [if_neg hz, if_neg (by omega)])
        have h10 : 10 ≤ d := by omega
        clear hz h9
        go_enter Try.func18, Try.ntmps18
        go_wp2_with (go_at_call 11; refine (hc _).mono ?_; rintro e w1 ⟨rfl, hq1⟩)
        go_ret2
        rw [HS.out, HE.out]
        exact ⟨rfl, hq1⟩
    · have HS : Hid (dgS z d = ⟨#[]⟩) := Lib.hid (by unfold dgS; rw [if_neg hz, if_neg (by omega)])
      have HE : Hid (dgE z d = 3) := Lib.hid (by unfold dgE; rw [if_neg hz, if_neg (by omega)])
      have h10 : d < 0 := by omega
      clear hz h0
      go_enter Try.func18, Try.ntmps18
      go_wp2_with (go_at_call 11; refine (hc _).mono ?_; rintro e w1 ⟨rfl, hq1⟩)
      go_ret2
      rw [HS.out, HE.out]
      exact ⟨rfl, hq1⟩

set_option maxHeartbeats 1000000 in
theorem value_any (x : ByteArray) (c : Int) (w : World) (hx : x.size ≤ maxLen) :
    Calls Try.prog 20 #[.string x, .int .i64 c] w fun e w' => e = .returned (.tuple #[.int .i64 (vlV (nz x.data.toList) c), .int .i64 (vlE (nz x.data.toList) c)]) ∧ Q w w' := by
  have hb := nz_bd x.data.toList
  by_cases hz : nz x.data.toList = -1
  · have HS : Hid (vlV (nz x.data.toList) c = 0) := Lib.hid (by unfold vlV; rw [if_pos hz])
    have HE : Hid (vlE (nz x.data.toList) c = 7) := Lib.hid (by unfold vlE; rw [if_pos hz])
    have hc := fun w => zero_none x w hx hz
    clear hz hb
    go_enter Try.func20, Try.ntmps20
    go_wp2_with (go_at_call 11; refine (hc _).mono ?_; rintro e w1 ⟨rfl, hq1⟩)
    go_ret2
    rw [HS.out, HE.out]
    exact ⟨rfl, hq1⟩
  · have hc := fun w => zero_some x w hx hz
    have hb2 : 48 ≤ nz x.data.toList ∧ nz x.data.toList ≤ 120812 := by omega
    clear hb
    generalize nz x.data.toList = z at *
    by_cases hin : z ≤ c ∧ c ≤ z + 9
    · have hv : vl z c = c - z := by unfold vl; rw [if_pos hin]
      have HS : Hid (vlV z c = c - z) := Lib.hid (by unfold vlV; rw [if_neg hz, hv, if_neg (by omega)])
      have HE : Hid (vlE z c = 0) := Lib.hid (by unfold vlE; rw [if_neg hz, hv, if_neg (by omega)])
      have hw := fun w => which_yes z c w ⟨by omega, by omega⟩ hin.1 hin.2
      clear hz hin hv
      go_enter Try.func20, Try.ntmps20
      go_wp2_with (first | (go_at_call 11; refine (hc _).mono ?_; rintro e w1 ⟨rfl, hq1⟩) | (go_at_call 37; refine (hw _).mono ?_; rintro e w' ⟨rfl, rfl⟩))
      go_ret2
      rw [HS.out, HE.out]
      exact ⟨rfl, hq1⟩
    · have hv : vl z c = -1 := by unfold vl; rw [if_neg hin]
      have HS : Hid (vlV z c = 0) := Lib.hid (by unfold vlV; rw [if_neg hz, if_pos hv])
      have HE : Hid (vlE z c = 2) := Lib.hid (by unfold vlE; rw [if_neg hz, if_pos hv])
      have hw := fun w => which_no z c w ⟨by omega, by omega⟩ hin
      clear hz hin hv
      go_enter Try.func20, Try.ntmps20
      go_wp2_with (first | (go_at_call 11; refine (hc _).mono ?_; rintro e w1 ⟨rfl, hq1⟩) | (go_at_call 37; refine (hw _).mono ?_; rintro e w' ⟨rfl, rfl⟩))
      go_ret2
      rw [HS.out, HE.out]
      exact ⟨rfl, hq1⟩

end Sy
end Go.Proofs.Ytaonjhhpiihejaa
