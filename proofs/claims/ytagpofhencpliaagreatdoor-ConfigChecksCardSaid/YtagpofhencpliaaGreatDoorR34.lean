/- The program's config: what is out of bounds, what fits. (and more) -/
import Derived.Test.YtagpofhencpliaaGreatDoorR00
import Derived.Test.YtagpofhencpliaaGreatDoorR04
import Derived.Test.YtagpofhencpliaaGreatDoorR22
import Derived.Test.YtagpofhencpliaaGreatDoorR21
import Derived.Test.YtagpofhencpliaaGreatDoorR14
import Derived.Test.YtagpofhencpliaaGreatDoorR19
import Derived.Test.YtagpofhencpliaaGreatDoorR33
import Derived.Test.YtagpofhencpliaaGreatDoorR02
import Derived.Test.YtagpofhencpliaaGreatDoorR15
import Derived.Test.YtagpofhencpliaaGreatDoorR20
import Derived.Test.YtagpofhencpliaaGreatDoorR10
import Derived.Test.YtagpofhencpliaaGreatDoorR13
import Derived.Test.YtagpofhencpliaaGreatDoorR09
import Derived.Test.YtagpofhencpliaaGreatDoorR05
import Derived.Test.YtagpofhencpliaaGreatDoorR08
import Derived.Test.YtagpofhencpliaaGreatDoorR03
import Derived.Test.YtagpofhencpliaaGreatDoorRows
import Derived.Test.YtagpofhencpliaaGreatDoorR31
import Derived.Test.YtagpofhencpliaaGreatDoorR17
import Derived.Test.YtagpofhencpliaaGreatDoorR07
import Derived.Test.YtagpofhencpliaaGreatDoorR11
import Derived.Deep.Cut
import Derived.Deep.QuietTactic
import Derived.Deep.RegionWith
import Derived.Deep.RegionHeld3
import Derived.BigQuiet
import Derived.Laws.ResultCell
set_option linter.unusedVariables false
set_option linter.unusedSimpArgs false
namespace Go.Proofs.YtagpofhencpliaaGreatDoor
open Go.RowKit
namespace Kp
open Er (dv LF LF.of LF.nil LF.mono LF.q LF.put LF.shape LF.lst)
theorem out_any (n a b : Int) (w : World) : Calls Tryz.prog 20 #[.int .i64 n, .int .i64 a, .int .i64 b] w fun e w' => e = .returned (.bool (!(decide (a ≤ n) && decide (n ≤ b)))) ∧ w = w' := by
  by_cases h1 : a ≤ n
  · have h1n : ¬ n < a := by omega
    by_cases h2 : n ≤ b
    · have h2n : ¬ b < n := by omega
      rw [show (!(decide (a ≤ n) && decide (n ≤ b))) = false by rw [decide_eq_true h1, decide_eq_true h2]; rfl]
      go_enter Tryz.func20, Tryz.ntmps20
      go_wp2_with fail
      go_ret
      exact ⟨rfl, rfl⟩
    · have h2n : b < n := by omega
      rw [show (!(decide (a ≤ n) && decide (n ≤ b))) = true by rw [decide_eq_true h1, decide_eq_false h2]; rfl]
      go_enter Tryz.func20, Tryz.ntmps20
      go_wp2_with fail
      go_ret
      exact ⟨rfl, rfl⟩
  · have h1n : n < a := by omega
    rw [show (!(decide (a ≤ n) && decide (n ≤ b))) = true by rw [decide_eq_false h1]; rfl]
    go_enter Tryz.func20, Tryz.ntmps20
    go_wp2_with fail
    go_ret
    exact ⟨rfl, rfl⟩
theorem ptrim_sh (g : Bool) (v : Value) (s : Nat) (L : List Int) (w : World) (hv : Lst w v L) (hl : L.length < 1000000) (hd : Dm.okD L) (hs : s ≤ 1000) :
    Calls Tryz.prog 44 #[.agg #[.bool g, v, .int .i64 s]] w fun e w' => ∃ a c, e = .returned (.agg #[.bool (Dm.cg g (Dm.num L)), .slice a (Dm.dg (Dm.st (Dm.num L) s).1).length c, .int .i64 ((Dm.st (Dm.num L) s).2 : Nat)]) ∧ LF w' (w.heap.size + 2) (.slice a (Dm.dg (Dm.st (Dm.num L) s).1).length c) (Dm.dg (Dm.st (Dm.num L) s).1) ∧ Q w w' := by
  refine (Ep.trim_any g v s L w hv hl hd hs).mono ?_
  rintro e w' ⟨x, rfl, hx, hq⟩
  obtain ⟨a, c, rfl⟩ := hx.shape
  exact ⟨a, c, rfl, hx, hq⟩
set_option maxRecDepth 100000 in
set_option maxHeartbeats 2000000 in
theorem fits_any (n0 n1 n2 n3 n4 n5 n6 : Int) (g : Bool) (v : Value) (s : Nat) (L : List Int) (w : World) (hv : Lst w v L) (hl : L.length < 1900) (hd : Dm.okD L) (hs : s ≤ 1000) :
    Calls Tryz.prog 22 #[.agg #[.int .i64 n0, .int .i64 n1, .int .i64 n2, .int .i64 n3, .int .i64 n4, .int .i64 n5, .int .i64 n6], dv g v s] w fun e w' => e = .returned (.bool (Km.fit n0 n2 (Dm.num L) s)) ∧ Q w w' := by
  have HT := Lib.hid (fun u (q : Q w u) => ptrim_sh g v s L u (hv.q q) (by omega) hd (by omega))
  have hlen := Nat.le_trans (Dm.dg_len_le _ _ (Kr.st_fst_le (Dm.num L) s)) (Dm.dg_len L hd)
  have hsc := Dm.st_le (Dm.num L) s
  have hz2 := Dm.okD_dg (Dm.st (Dm.num L) s).1
  have HP := Lib.hid (fun a c u (h : Lst u (.slice a (Dm.dg (Dm.st (Dm.num L) s).1).length c) (Dm.dg (Dm.st (Dm.num L) s).1)) => Ep.parts_any (Dm.cg g (Dm.num L)) _ (Dm.st (Dm.num L) s).2 _ u h (by omega) hz2 (by omega))
  have hbl := Km.bhd_len (Dm.dg (Dm.st (Dm.num L) s).1) (Dm.st (Dm.num L) s).2
  have hfit : Km.fit n0 n2 (Dm.num L) s = (decide ((Km.ah (Dm.dg (Dm.st (Dm.num L) s).1) (Dm.st (Dm.num L) s).2 : Int) ≤ n0) && decide (((Dm.st (Dm.num L) s).2 : Int) ≤ n2)) := rfl
  have hah : (Dm.dg (Dm.num ((List.replicate ((Dm.st (Dm.num L) s).2 - (Dm.dg (Dm.st (Dm.num L) s).1).length) 0 ++ Dm.dg (Dm.st (Dm.num L) s).1).take ((Dm.dg (Dm.st (Dm.num L) s).1).length - (Dm.st (Dm.num L) s).2)))).length = Km.ah (Dm.dg (Dm.st (Dm.num L) s).1) (Dm.st (Dm.num L) s).2 := rfl
  rw [hfit]
  clear hfit hlen hsc hz2
  unfold dv at HP ⊢
  generalize Dm.cg g (Dm.num L) = gt at *
  generalize Dm.st (Dm.num L) s = ST at *
  obtain ⟨M, q⟩ := ST
  simp only at HT HP hbl hah ⊢
  generalize Dm.dg M = Z at *
  generalize (List.replicate (q - Z.length) 0 ++ Z).drop (Z.length - q) = Y at *
  generalize Dm.dg (Dm.num ((List.replicate (q - Z.length) 0 ++ Z).take (Z.length - q))) = X at *
  generalize Km.ah Z q = ah at *
  generalize Z.length = zl at *
  obtain ⟨B, hB⟩ : ∃ B, B = (decide ((ah : Int) ≤ n0) && decide ((q : Int) ≤ n2)) := ⟨_, rfl⟩
  rw [← hB]
  have HB := Lib.hid hB
  clear hB
  have HX := Lib.hid hah
  have HY := Lib.hid hbl
  obtain ⟨a, c, rfl⟩ := hv.shape
  generalize L.length = ll at *
  clear hv hd hs hl hah hbl
  obtain ⟨y, hy⟩ : ∃ y, y = w.alloc (.cells #[.int .i64 n0, .int .i64 n1, .int .i64 n2, .int .i64 n3, .int .i64 n4, .int .i64 n5, .int .i64 n6] 37) := ⟨_, rfl⟩
  have hQY : Q w y := by rw [hy]; exact (Q.refl w).alloc _
  have hbn : Bk y w.heap.size 37 [.int .i64 n0, .int .i64 n1, .int .i64 n2, .int .i64 n3, .int .i64 n4, .int .i64 n5, .int .i64 n6] := by rw [hy]; exact Bk.new _ _ _
  have hys : y.heap.size = w.heap.size + 1 := by rw [hy]; simp
  obtain ⟨z, hz⟩ : ∃ z, z = y.alloc (.cells #[.bool g, .slice a ll c, .int .i64 s] 36) := ⟨_, rfl⟩
  have HQZ := Lib.hid (show Q w z by rw [hz]; exact hQY.alloc _)
  have HN := Lib.hid (show Bk z w.heap.size 37 [.int .i64 n0, .int .i64 n1, .int .i64 n2, .int .i64 n3, .int .i64 n4, .int .i64 n5, .int .i64 n6] by rw [hz]; exact hbn.q ((Q.refl y).alloc _))
  have hbd : Bk z (w.heap.size + 1) 36 [.bool g, .slice a ll c, .int .i64 s] := by rw [hz, ← hys]; exact Bk.new _ _ _
  have d0 := hbd.cell 0 rfl
  have d1 := hbd.cell 1 rfl
  have d2 := hbd.cell 2 rfl
  go_enter Tryz.func22, Tryz.ntmps22
  go_upto_region 1 with fail
  first | rw [← hy, ← hz] | (rw [hy] at hz; rw [← hz])
  clear hQY hbn hz hy hys hbd
  go_wp2_with fail
  refine (HT.out _ HQZ.out).mono ?_
  rintro e w1 ⟨ta, tc, rfl, ht, hq1⟩
  have HTL := Lib.hid ht.lst
  have HQ1 := Lib.hid (HQZ.out.trans hq1)
  replace HN := Lib.hid (HN.out.q hq1)
  clear ht hq1 d0 d1 d2
  go_wp2_with fail
  refine (HP.out _ _ _ HTL.out).mono ?_
  rintro e w2 ⟨xv, yv, rfl, hx, hyy, hq2⟩
  have HQ2 := Lib.hid (HQ1.out.trans hq2)
  have hn := HN.out.q hq2
  have k0 := hn.cell 0 rfl
  have k2 := hn.cell 2 rfl
  obtain ⟨xa, xc, rfl, _, _⟩ := hx.form0 HX.out
  obtain ⟨ya, yc, rfl, _, _⟩ := hyy.form0 HY.out
  clear hn hx hyy hq2
  by_cases c1 : (ah : Int) ≤ n0
  · by_cases c2 : (q : Int) ≤ n2
    · go_wp2_with fail
      go_ret
      exact ⟨by rw [HB.out, decide_eq_true c1, decide_eq_true c2]; rfl, HQ2.out⟩
    · go_wp2_with fail
      go_ret
      exact ⟨by rw [HB.out, decide_eq_true c1, decide_eq_false (show ¬ ((q : Int) ≤ n2) by omega)]; first | rfl | (show Ending.returned (Value.bool (decide ((q : Int) ≤ n2))) = _; rw [decide_eq_false (show ¬ ((q : Int) ≤ n2) by omega)]; rfl), HQ2.out⟩
  · go_wp2_with fail
    go_ret
    exact ⟨by rw [HB.out, decide_eq_false (show ¬ ((ah : Int) ≤ n0) by omega)]; rfl, HQ2.out⟩
end Kp
end Go.Proofs.YtagpofhencpliaaGreatDoor
namespace Go.Proofs.YtagpofhencpliaaGreatDoor
open Go.RowKit
namespace Rq
open Er (dv cellV LF LF.of LF.nil LF.mono LF.q LF.put LF.shape LF.lst block_cells some_cells block_set wrapI)
open Ep (SD SD.of SD.q SD.start SD.put SD.room SD.here SD.reset ret_dv ret_dv2)
def far (m : Int) (g od : Bool) (c : Int) : Bool :=
  if m = 1 then true else if m = 2 then g else if m = 3 then !g else if m = 4 then decide (0 < c) else if m = 5 then decide (0 ≤ c) else if m = 6 then decide (0 < c) || (decide (c = 0) && od) else false
theorem far_up (g : Bool) (K r B : Nat) (m : Int) : Rm.up g K r B m = far m g (decide (K % 2 = 1)) (Dm.cmpZ (r : Int) ((B - r : Nat) : Int)) := rfl
theorem rk_code (g : Bool) (M s n : Nat) (m : Int) (h : n < (Dm.st M s).2) : Rm.rk g (Dm.st M s).1 (Dm.st M s).2 n m = (if Rm.up g (M / 10 ^ (s - n)) (M % 10 ^ (s - n)) (10 ^ (s - n)) m = true then M / 10 ^ (s - n) + 1 else M / 10 ^ (s - n)) ∧ 0 < M % 10 ^ (s - n) := by
  have hz := Dm.st_le M s
  have hl := Rm.st_last M s
  have e := Rm.st_scale M s s (Nat.le_refl _)
  have hr := Rm.rk_at g M s n s m (by omega) (Nat.le_refl _)
  have hpos : 0 < M % 10 ^ (s - n) := by
    rw [Nat.sub_self, Nat.pow_zero, Nat.mul_one] at e
    rw [← e]
    generalize (Dm.st M s).1 = A at *
    generalize (Dm.st M s).2 = sa at *
    have h3 := (Rm.at_scale (A := A) (sa := sa) (n := n) (N := s) (by omega) (by omega)).1
    have h4 := (Rm.at_scale (A := A) (sa := sa) (n := n) (N := s) (by omega) (by omega)).2
    have h5 := Rm.rs_pos (A := A) (sa := sa) (n := n) (by omega) (hl (by omega))
    have h6 := Rm.rs_lt (A := A) (sa := sa) (n := n) (by omega)
    have hp : 0 < 10 ^ (s - sa) := Nat.pow_pos (by omega)
    rw [← h3]
    generalize Rm.lo A sa n = K at *
    generalize Rm.rs A sa n = r at *
    generalize Rm.un sa n = B at *
    generalize 10 ^ (s - sa) = p at *
    generalize 10 ^ (s - n) = P at *
    have h7 : r * p < P := by rw [h4]; exact Nat.mul_lt_mul_of_pos_right h6 hp
    have h8 : 0 < r * p := Nat.mul_pos h5 hp
    have h9 : (K * P + r * p) % P = r * p := by rw [Nat.mul_comm, Nat.mul_add_mod, Nat.mod_eq_of_lt h7]
    omega
  refine ⟨?_, hpos⟩
  rw [hr, Nat.sub_self, Nat.pow_zero, Nat.mul_one]
  unfold Rm.rr
  rw [if_neg (by omega)]
theorem side_eq (L : List Int) (h : Dm.okD L) (k : Nat) : Dm.num (L.drop (L.length - (k + 1))) = Dm.num L % 10 ^ (k + 1) ∧ Dm.num (Dm.shl [5] ((k : Nat) : Int)) = 5 * 10 ^ k ∧ Dm.cmpZ ((Dm.num L % 10 ^ (k + 1) : Nat) : Int) ((5 * 10 ^ k : Nat) : Int) = Dm.cmpZ ((Dm.num L % 10 ^ (k + 1) : Nat) : Int) ((10 ^ (k + 1) - Dm.num L % 10 ^ (k + 1) : Nat) : Int) := by
  have hc := (Rm.num_cut L h (k + 1)).1
  have e : Dm.shl L (-((k + 1 : Nat) : Int)) = L.take (L.length - (k + 1)) := by
    unfold Dm.shl
    rw [show (-((k + 1 : Nat) : Int)).toNat = 0 from by omega, List.replicate_zero, List.append_nil]
    congr 1
    omega
  rw [e] at hc
  have h1 := Dm.num_append (L.take (L.length - (k + 1))) (L.drop (L.length - (k + 1)))
  rw [List.take_append_drop, hc] at h1
  have h2 := Dm.num_lt _ (Dm.okD_drop h (L.length - (k + 1)))
  have h3 : (L.drop (L.length - (k + 1))).length = min (k + 1) L.length := by rw [List.length_drop]; omega
  rw [h3] at h1 h2
  refine ⟨?_, ?_, ?_⟩
  · by_cases hk : k + 1 ≤ L.length
    · rw [show min (k + 1) L.length = k + 1 from by omega] at h1 h2
      have h4 := Nat.div_add_mod (Dm.num L) (10 ^ (k + 1))
      rw [Nat.mul_comm] at h4
      omega
    · have h4 := Dm.num_lt L h
      have h5 : 10 ^ L.length ≤ 10 ^ (k + 1) := Nat.pow_le_pow_right (by omega) (by omega)
      rw [Nat.mod_eq_of_lt (by omega), show L.length - (k + 1) = 0 from by omega, List.drop_zero]
  · rw [Dm.shl_pos, Dm.num_zeros]
    rfl
  · have h4 : Dm.num L % 10 ^ (k + 1) < 10 ^ (k + 1) := Nat.mod_lt _ (Nat.pow_pos (by omega))
    have h5 : 10 ^ (k + 1) = 10 * 10 ^ k := by rw [Nat.pow_succ, Nat.mul_comm]
    unfold Dm.cmpZ
    generalize Dm.num L % 10 ^ (k + 1) = r at *
    generalize 10 ^ (k + 1) = P at *
    generalize 10 ^ k = Q at *
    split <;> split <;> (try split) <;> (try split) <;> omega
theorem odd_eq (l : List Int) (h : Dm.okD l) : (Dm.dgt l 0 % 2 == 1) = decide (Dm.num l % 2 = 1) := by
  have h1 := Dm.dgt_even l h
  by_cases h2 : Dm.num l % 2 = 1
  · rw [decide_eq_true h2, beq_iff_eq]; omega
  · rw [decide_eq_false h2, beq_eq_false_iff_ne]; omega
theorem mayMode_any (m : Int) (w : World) (hm : -9223372036854775808 ≤ m ∧ m ≤ 9223372036854775807) :
    Calls Tryz.prog 45 #[.int .i64 m] w fun e w' => e = .returned (.bool (decide (0 ≤ m) && decide (m ≤ 6))) ∧ w = w' := by
  obtain ⟨hs1, hs2⟩ := hm
  by_cases h1 : 0 ≤ m
  · by_cases h2 : m ≤ 6
    · go_enter Tryz.func45, Tryz.ntmps45
      go_wp2_with fail
      go_ret
      exact ⟨retB (by simp [h1, h2]), rfl⟩
    · have h3 : 6 < m := by omega
      go_enter Tryz.func45, Tryz.ntmps45
      go_wp2_with fail
      go_ret
      exact ⟨retB (by simp [h1]; omega), rfl⟩
  · have h3 : m < 0 := by omega
    go_enter Tryz.func45, Tryz.ntmps45
    go_wp2_with fail
    go_ret
    exact ⟨retB (by simp; omega), rfl⟩
set_option maxHeartbeats 1600000 in
theorem farther_any (m : Int) (g od : Bool) (c : Int) (w : World) (hm : 0 ≤ m ∧ m ≤ 6) (hc : c = -1 ∨ c = 0 ∨ c = 1) :
    Calls Tryz.prog 84 #[.int .i64 m, .bool g, .bool od, .int .i64 c] w fun e w' => e = .returned (.bool (far m g od c)) ∧ w = w' := by
  rcases (show m = 0 ∨ m = 1 ∨ m = 2 ∨ m = 3 ∨ m = 4 ∨ m = 5 ∨ m = 6 from by omega) with rfl | rfl | rfl | rfl | rfl | rfl | rfl
  all_goals
    rcases hc with rfl | rfl | rfl
    all_goals
      go_enter Tryz.func84, Tryz.ntmps84
      go_wp2_with fail
      go_ret
      exact ⟨rfl, rfl⟩
end Rq
end Go.Proofs.YtagpofhencpliaaGreatDoor
