/- What the library's Grow, Concat, Index, Contains and Equal come to at lists of numbers, by a walk through each. -/
import Derived.Test.YtagpofhencpliaaRows
import Derived.Test.YtagpofhencpliaaTmM
import Derived.Test.YtagpofhencpliaaInts
import Derived.Test.YtagpofhencpliaaSto
import Derived.Deep.QuietTactic
import Derived.Deep.RegionWith
import Derived.BigQuiet
import Derived.Lib.AppendZerosOnto
set_option linter.unusedVariables false
set_option linter.unusedSimpArgs false
namespace Go.Proofs.Ytagpofhencpliaa
open Go.RowKit
namespace Tm
/-- All lists, one behind the other. -/
def cat (ls : List Sl) : List Int := (ls.map Sl.zs).flatten
theorem cat_take (ls : List Sl) (k : Nat) (s : Sl) (h : ls[k]? = some s) : cat (ls.take (k + 1)) = cat (ls.take k) ++ s.zs := by
  have hk := (List.getElem?_eq_some_iff.1 h).1
  rw [List.getElem?_eq_getElem hk] at h
  unfold cat
  rw [List.take_succ_eq_append_getElem hk, Option.some.inj h, List.map_append, List.flatten_append]
  simp
theorem cat_len (ls : List Sl) (k : Nat) (h : ∀ s ∈ ls, s.zs.length ≤ 1000000) : (cat (ls.take k)).length ≤ k * 1000000 := by
  induction k with
  | zero => simp [cat]
  | succ k ih =>
    rcases Nat.lt_or_ge k ls.length with hk | hk
    · rw [cat_take ls k _ (List.getElem?_eq_getElem hk), List.length_append]
      have := h _ (List.getElem_mem hk)
      omega
    · have e : ls.take (k + 1) = ls.take k := (List.take_of_length_le (Nat.le_succ_of_le hk)).trans (List.take_of_length_le hk).symm
      rw [e]
      exact Nat.le_trans ih (Nat.mul_le_mul_right _ (Nat.le_succ k))
theorem cat_nil (ls : List Sl) : cat (ls.take 0) = [] := rfl
/-- The first separator's place, or -1. -/
def ix (l : List Int) : Int := if has l = true then ((ahd l).length : Int) else -1
theorem ix_some {l : List Int} {k : Nat} (h : k ≤ (ahd l).length) (hk : k < l.length) (hx : l.getD k 0 = 10) : ix l = k := by
  have e := ix_hit l k h hk hx
  unfold ix
  rw [has_lt, e, decide_eq_true hk, if_pos rfl]
theorem ix_none {l : List Int} (h : l.length ≤ (ahd l).length) : ix l = -1 := by
  unfold ix
  rw [has_lt, decide_eq_false (by omega)]; rfl
theorem ix_has (l : List Int) : decide (0 ≤ ix l) = has l := by
  unfold ix
  cases h : has l with
  | true => rw [if_pos rfl]; simp
  | false => rfl
theorem ix_bd (l : List Int) : -1 ≤ ix l ∧ ix l ≤ l.length := by
  unfold ix
  have := ahd_le l
  split <;> omega
end Tm
namespace Ts

set_option maxHeartbeats 1600000 in
theorem grow_nil (n : Nat) (w : World) (hn : n < 1099511627776) :
    Calls Try.prog 61 #[.slice none 0 0, .int .i64 n] w fun e w' => ∃ u, e = .returned u ∧ Own w' w.heap.size u [] ∧ Q w w' := by
  by_cases h0 : n = 0
  · subst h0
    go_enter Try.func61, Try.ntmps61
    go_wp2_with fail
    go_ret
    exact ⟨_, rfl, Own.nil _ _, Q.refl _⟩
  · obtain ⟨i0, hi, hz0, hz1, hz2⟩ := info_parts infoInt
    have hrz := fun ty => Lib.run_append_grow_zeros w 22 3 ty 3 i0 (.int .i64 0) .i64 .i64 Try.underlying22 Try.underlying3 hi hz0 none 0 0 [] (run_firstCells_none w.drew i0.size 0 0 0) n (by omega) (by rw [hz1]; omega) (by omega) (by omega) (by rw [hz2]; omega) (by rw [hz2]; exact growslice_fits (by omega) (by omega))
    have hG := grownCap_le_maxLen w (0 + n) 0 3 (by unfold maxLen; omega)
    have hGn := grownCap_ge w (0 + n) 0 3
    rw [Nat.zero_add] at hrz hG hGn
    obtain ⟨G, hGe⟩ : ∃ G, G = grownCap w n 0 3 := ⟨_, rfl⟩
    rw [← hGe] at hrz hG hGn
    obtain ⟨cs, hcs⟩ : ∃ cs, cs = ((([] : List Value).toArray ++ Builtin.zeroCells (Value.cells (.int .i64 0)) n) ++ Builtin.zeroCells (Value.cells (.int .i64 0)) (G - n)) := ⟨_, rfl⟩
    have hsz : cs.size = G * 1 := by
      rw [hcs, Array.size_append, Array.size_append, size_zeroCells, size_zeroCells]
      simp [Value.cells]; omega
    rw [← hcs] at hrz
    have HO := Lib.hid (show Own (w.drew.alloc (.cells cs 3)) w.heap.size (.slice (some ⟨w.heap.size, 0, none⟩) 0 G) [] from World.ownsRow_made (w := w.drew) (e := 3) (size := 1) cs G (Nat.le_refl _) hG hsz)
    unfold maxLen at hG
    clear hGe hcs hsz hi hz0 hz1 hz2
    have hn1 : ¬ ((n : Int) < 0) := by omega
    have hn2 : (n : Int) > 0 := by omega
    go_enter Try.func61, Try.ntmps61
    go_wp2_with (at_builtin; refine Lib.wpList_append_run _ rfl _ _ _ _ rfl _ _ rfl rfl _ _ (hrz _) ?_)
    go_ret
    exact ⟨_, rfl, HO.out, ((Q.refl w).drew).alloc _⟩

set_option maxHeartbeats 3200000 in
theorem concat_any (v : Value) (ls : List Sl) (w : World) (hv : LL w v ls) (hl : ls.length ≤ 1000) (hls : ∀ s ∈ ls, s.n ≤ 1000000) :
    Calls Try.prog 40 #[v] w fun e w' => ∃ u, e = .returned u ∧ Own w' w.heap.size u (Tm.cat ls) ∧ Q w w' := by
  obtain ⟨N, hN⟩ : ∃ N, N = ls.length := ⟨_, rfl⟩
  obtain ⟨a, c, rfl, hnc, hcm⟩ := hv.1.form0 hN.symm
  have HL := Lib.hid (show ∀ k, k < N → ∃ (sa : Option Addr) (sn sc : Nat) (zs : List Int), ls[k]? = some ⟨sa, sn, sc, zs⟩ ∧ Lst w (.slice sa sn sc) zs ∧ zs.length = sn ∧ sn ≤ 1000000 from fun k hk => by
    have hm : ls[k]'(by omega) ∈ ls := List.getElem_mem _
    have h1 := hv.2 _ hm
    have h2 := hls _ hm
    exact ⟨_, _, _, _, List.getElem?_eq_getElem (by omega), h1.1, h1.2, h2⟩)
  have hv1 := hv.1
  have HV := Lib.hid (fun u (q : Q w u) k s (h : ls[k]? = some s) => (hv1.q q).cellOf (n := N) hN.symm h)
  have HC := Lib.hid (Tm.cat_take ls)
  have HCL := Lib.hid (fun k => Tm.cat_len ls k (fun s hs => by have h1 := (hv.2 s hs).2; have h2 := hls s hs; omega))
  have HCE := Lib.hid (show Tm.cat (ls.take N) = Tm.cat ls from by rw [hN, List.take_length])
  have HG := Lib.hid grow_nil
  rw [← hN] at hl
  unfold maxLen at hcm
  clear hv hv1 hls hN
  go_enter Try.func40, Try.ntmps40
  go_wp2_with fail
  go_loop [3, 11] (fun u t => ∃ k m : Nat, u = .int .i64 m ∧ t = .int .i64 k ∧ k ≤ N ∧ m = (Tm.cat (ls.take k)).length) (fun _ t => N - (intOf t).toNat)
  case atStart => exact ⟨0, 0, rfl, rfl, by omega, rfl⟩
  case round =>
    obtain ⟨k, m, rfl, rfl, hk, hm⟩ := hrel
    have hmb := HCL.out k
    rw [← hm] at hmb
    by_cases hlt : k < N
    · obtain ⟨sa, sn, sc, zs, hs, _, hzn, hsn⟩ := HL.out k hlt
      obtain ⟨g, off, cap, hvv, hg, _, _, c1⟩ := HV.out w (Q.refl w) k _ hs
      cases hvv
      replace c1 : w.cell? ⟨g, off + k, none⟩ = some (.slice sa sn sc) := c1
      have HN := Lib.hid (show m + sn = (Tm.cat (ls.take (k + 1))).length from by rw [HC.out k _ hs, List.length_append, hm, hzn])
      have hms : m + sn ≤ 2000000000 := by have : k * 1000000 ≤ 1000 * 1000000 := Nat.mul_le_mul_right _ (by omega); omega
      have hno : ¬ ((m : Int) + (sn : Int) < 0) := by omega
      clear hs hm hmb hzn
      go_wp2_with fail
      exact ⟨⟨k + 1, m + sn, by go_num, by go_num, by omega, HN.out⟩, by simp [intOf]; omega⟩
    · obtain rfl : k = N := by omega
      have HM := Lib.hid hm
      have hmb2 : m < 1099511627776 := by have : k * 1000000 ≤ 1000 * 1000000 := Nat.mul_le_mul_right _ (by omega); omega
      clear hm hmb
      go_wp2_with fail
      refine (HG.out m w hmb2).mono ?_
      rintro e w1 ⟨u1, rfl, ho1, hq1⟩
      have HO1 := Lib.hid ho1
      have HQ1 := Lib.hid hq1
      clear ho1 hq1
      go_wp2_with fail
      go_loopw [6, 27] (fun u t wr => ∃ j : Nat, t = .int .i64 j ∧ j ≤ k ∧ Own wr w.heap.size u (Tm.cat (ls.take j)) ∧ Q w wr) (fun _ t _ => k - (intOf t).toNat)
      case atStart => exact ⟨0, rfl, by omega, HO1.out, HQ1.out⟩
      case round =>
        obtain ⟨j, rfl, hj, ho, hq⟩ := hrel
        by_cases hlt2 : j < k
        · obtain ⟨sa, sn, sc, zs, hs, hz, hzn, hsn⟩ := HL.out j hlt2
          obtain ⟨g, off, cap, hvv, hg, _, _, c1⟩ := HV.out wr hq j _ hs
          cases hvv
          replace c1 : wr.cell? ⟨g, off + j, none⟩ = some (.slice sa sn sc) := c1
          have HZ := Lib.hid (hz.q hq)
          have HCJ := Lib.hid (HC.out j _ hs)
          have HW := Lib.hid (show (Tm.cat (ls.take j)).length + zs.length < 1099511627776 from by
            have h1 := HCL.out j
            have : j * 1000000 ≤ 1000 * 1000000 := Nat.mul_le_mul_right _ (by omega)
            omega)
          have hB : w.heap.size ≤ wr.heap.size := hq.le
          clear hs hz hzn
          go_wp2_with (at_builtin; refine push_list ho HZ.out rfl _ _ rfl (by rfl) (by rfl) HW.out hB ?_)
          intro v2 w2 ho2 hg2 hat2
          rw [← HCJ.out] at ho2
          have HO2 := Lib.hid ho2
          have HQ2 := Lib.hid (hq.grown hg2 (fun g h => (ho.lt g h).1))
          clear ho ho2 hg2 hat2
          go_wp2_with fail
          exact ⟨⟨j + 1, by go_num, by omega, HO2.out, HQ2.out⟩, by simp [intOf]; omega⟩
        · obtain rfl : j = k := by omega
          rw [HCE.out] at ho
          have HO := Lib.hid ho
          have HQ := Lib.hid hq
          clear ho hq
          go_wp2_with fail
          go_ret
          exact ⟨_, rfl, HO.out, HQ.out⟩

set_option maxHeartbeats 800000 in
theorem index_any (v : Value) (xs : List Int) (w : World) (hv : Lst w v xs) (hl : xs.length < 1099511627776) :
    Calls Try.prog 64 #[v, .int .i64 10] w fun e w' => e = .returned (.int .i64 (Tm.ix xs)) ∧ w = w' := by
  obtain ⟨n, hn⟩ : ∃ n, n = xs.length := ⟨_, rfl⟩
  obtain ⟨a, c, rfl, hnc, hcm⟩ := hv.form0 hn.symm
  have HV := Lib.hid (fun k (hk : k < n) => hv.cellOf (n := n) (k := k) hn.symm hk)
  have HS := Lib.hid (fun k h hk => Tm.ix_step xs k h (by rw [← hn]; exact hk))
  have HH := Lib.hid (fun k h hk => Tm.ix_some (l := xs) (k := k) h (by rw [← hn]; exact hk))
  have HE := Lib.hid (fun h => Tm.ix_none (l := xs) (by rw [← hn]; exact h))
  generalize Tm.ix xs = r at *
  generalize (Tm.ahd xs).length = z at *
  rw [← hn] at hl
  clear hv hn
  unfold maxLen at hcm
  go_enter Try.func64, Try.ntmps64
  go_wp2_with fail
  go_loop [8] (fun i => ∃ k : Nat, i = .int .i64 k ∧ k ≤ n ∧ k ≤ z) (fun i => n - (intOf i).toNat)
  case atStart => exact ⟨0, rfl, by omega, by omega⟩
  case round =>
    obtain ⟨k, rfl, hk, hkz⟩ := hrel
    by_cases hlt : k < n
    · obtain ⟨g, off, cap, hvv, hg, _, _, c1⟩ := HV.out k hlt
      cases hvv
      have hs := HS.out k hkz hlt
      have hh := HH.out k hkz hlt
      obtain ⟨y, hy⟩ : ∃ y, y = xs.getD k 0 := ⟨_, rfl⟩
      rw [← hy] at c1 hs hh
      clear hy
      by_cases hy0 : y = 10
      · have hr := Lib.hid (hh hy0)
        have e1 : ((10 : Int) == y) = true := by rw [hy0]; rfl
        clear hs hh hy0
        go_wp2_with fail
        go_ret
        rw [hr.out]
        exact ⟨rfl, rfl⟩
      · have h1 := hs hy0
        have e1 : ((10 : Int) == y) = false := beq_eq_false_iff_ne.2 (fun e => hy0 e.symm)
        clear hs hh hy0
        go_wp2_with fail
        exact ⟨⟨k + 1, by go_num, by omega, h1⟩, by simp [intOf]; omega⟩
    · have hr := Lib.hid (HE.out (by omega))
      go_wp2_with fail
      go_ret
      rw [hr.out]
      exact ⟨rfl, rfl⟩

theorem contains_any (v : Value) (xs : List Int) (w : World) (hv : Lst w v xs) (hl : xs.length < 1099511627776) :
    Calls Try.prog 66 #[v, .int .i64 10] w fun e w' => e = .returned (.bool (Tm.has xs)) ∧ w = w' := by
  have HI := Lib.hid (index_any v xs w hv hl)
  have HB := Lib.hid (Tm.ix_has xs)
  obtain ⟨a, c, rfl⟩ := hv.shape
  generalize Tm.ix xs = r at *
  generalize xs.length = n at *
  clear hv hl
  go_enter Try.func66, Try.ntmps66
  go_wp2_with fail
  refine HI.out.mono ?_
  rintro e w1 ⟨rfl, rfl⟩
  by_cases h : 0 ≤ r
  · have hb := HB.out
    rw [decide_eq_true h] at hb
    have HB2 := Lib.hid hb
    clear hb
    go_wp2_with fail
    go_ret
    rw [← HB2.out]
    exact ⟨by first | rfl | (simp; done) | (simp; omega), rfl⟩
  · have hb := HB.out
    rw [decide_eq_false h] at hb
    have HB2 := Lib.hid hb
    clear hb
    go_wp2_with fail
    go_ret
    rw [← HB2.out]
    exact ⟨by first | rfl | (simp; done) | (simp; omega), rfl⟩

set_option maxHeartbeats 800000 in
theorem equal_any (va vb : Value) (xs ys : List Int) (w : World) (ha : Lst w va xs) (hb : Lst w vb ys) (hx : xs.length < 1099511627776) (hy : ys.length < 1099511627776) :
    Calls Try.prog 60 #[va, vb] w fun e w' => e = .returned (.bool (decide (xs = ys))) ∧ Q w w' := by
  by_cases hl : xs.length = ys.length
  · by_cases h0 : xs.length = 0
    · have hx0 : xs = [] := List.eq_nil_of_length_eq_zero h0
      have hy0 : ys = [] := List.eq_nil_of_length_eq_zero (by omega)
      subst hx0; subst hy0
      obtain ⟨a, c, rfl⟩ := ha.shape
      obtain ⟨b, d, rfl⟩ := hb.shape
      clear ha hb hl h0 hx hy
      go_enter Try.func60, Try.ntmps60
      go_wp2
      refine wp_loop_rounds 1 ?_
      rw [rounds_succ]
      go_wp2
      go_ret
      exact ⟨rfl, Q.refl _⟩
    · rcases ha with ⟨rfl, _⟩ | ⟨g, off, cap, rfl, hg, _, _, hca⟩
      · exact absurd rfl h0
      rcases hb with ⟨rfl, _⟩ | ⟨g2, off2, cap2, rfl, hg2, _, _, hcb⟩
      · exact absurd hl h0
      have HL := Lib.hid hl
      have hle : ((xs.length : Int) == (ys.length : Int)) = true := by rw [hl]; simp
      have hne : ((xs.length : Int) != (ys.length : Int)) = false := by rw [hl]; simp
      clear hl h0
      go_enter Try.func60, Try.ntmps60
      go_wp2
      go_loopw [13] (fun i wr => ∃ k : Nat, i = .int .i64 k ∧ k ≤ xs.length ∧ Q w wr ∧ xs.take k = ys.take k) (fun i _ => xs.length - (intOf i).toNat)
      case atStart => exact ⟨0, rfl, by omega, Q.refl _, by simp⟩
      case round =>
        obtain ⟨k, rfl, hk, hq, he⟩ := hrel
        have HE := Lib.hid he
        clear he
        by_cases hlt : k < xs.length
        · have c1 : wr.cell? ⟨g, off + k, none⟩ = some (.int .i64 (xs.getD k 0)) := (World.cell?_of_block (w := w) (hq.block hg)).trans (hca k hlt)
          have c2 : wr.cell? ⟨g2, off2 + k, none⟩ = some (.int .i64 (ys.getD k 0)) := (World.cell?_of_block (w := w) (hq.block hg2)).trans (hcb k (by rw [← HL.out]; exact hlt))
          have hky : (k : Int) < (ys.length : Int) := by rw [← HL.out]; omega
          have hkx : (k : Int) < (xs.length : Int) := by omega
          generalize hgx : xs.getD k 0 = p at c1
          generalize hgy : ys.getD k 0 = q at c2
          have HX := Lib.hid hgx
          have HY := Lib.hid hgy
          clear hgx hgy
          have hsx : xs.take (k + 1) = xs.take k ++ [p] := by
            rw [List.take_succ_eq_append_getElem hlt, ← HX.out, List.getD_eq_getElem?_getD, List.getElem?_eq_getElem hlt]; rfl
          have hly : k < ys.length := by rw [← HL.out]; exact hlt
          have hsy : ys.take (k + 1) = ys.take k ++ [q] := by
            rw [List.take_succ_eq_append_getElem hly, ← HY.out, List.getD_eq_getElem?_getD, List.getElem?_eq_getElem hly]; rfl
          have HSX := Lib.hid hsx
          have HSY := Lib.hid hsy
          clear hsx hsy
          by_cases hpq : p = q
          · have ht : (p != q) = false := by rw [hpq]; simp
            have HP := Lib.hid hpq
            clear hpq
            go_wp2_with fail
            go_quiet (fail)
            go_wp2_with fail
            exact ⟨⟨k + 1, by go_num, by omega, hq.drewN _, by rw [HSX.out, HSY.out, HE.out, HP.out]⟩, by simp [intOf]; omega⟩
          · have ht : (p != q) = true := by rw [bne_iff_ne]; exact hpq
            have HF : Hid (decide (xs = ys) = false) := Lib.hid (decide_eq_false (fun h => hpq (by
              have h1 := HX.out; have h2 := HY.out
              rw [← h1, ← h2, h])))
            clear hpq
            go_wp2_with fail
            go_quiet (fail)
            go_wp2_with fail
            go_ret
            rw [HF.out]
            exact ⟨rfl, hq.drewN _⟩
        · have HF : Hid (decide (xs = ys) = true) := Lib.hid (decide_eq_true (by
            have h1 := HE.out; have h2 := HL.out
            rw [List.take_of_length_le (by omega), List.take_of_length_le (by omega)] at h1
            exact h1))
          go_wp2_with fail
          go_ret
          rw [HF.out]
          exact ⟨rfl, hq⟩
  · have hne : ((xs.length : Int) == (ys.length : Int)) = false := by rw [beq_eq_false_iff_ne]; omega
    have hne2 : ((xs.length : Int) != (ys.length : Int)) = true := by rw [bne_iff_ne]; omega
    have HF : Hid (decide (xs = ys) = false) := Lib.hid (decide_eq_false (fun h => hl (by rw [h])))
    obtain ⟨a, c, rfl⟩ := ha.shape
    obtain ⟨b, d, rfl⟩ := hb.shape
    clear ha hb hl
    go_enter Try.func60, Try.ntmps60
    go_wp2
    go_ret
    rw [HF.out]
    exact ⟨rfl, Q.refl _⟩
end Ts
end Go.Proofs.Ytagpofhencpliaa
