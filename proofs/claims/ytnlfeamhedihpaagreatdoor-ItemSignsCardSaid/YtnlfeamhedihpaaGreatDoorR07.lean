/- What the document's own answers on classes come to, by a walk through each. (and more) -/
import Derived.Test.YtnlfeamhedihpaaGreatDoorR00
import Derived.Test.YtnlfeamhedihpaaGreatDoorR02
import Derived.Test.YtnlfeamhedihpaaGreatDoorR04
import Derived.Test.YtnlfeamhedihpaaGreatDoorR01
import Derived.Test.YtnlfeamhedihpaaGreatDoorRows
import Derived.Test.YtnlfeamhedihpaaGreatDoorR03
import Derived.Deep.QuietTactic
import Derived.BigQuiet
import Derived.ArgAppend
import Derived.Lib.AppendZerosOnto
import Derived.Deep.RegionWith
set_option linter.unusedVariables false
set_option linter.unusedSimpArgs false
namespace Go.Proofs.YtnlfeamhedihpaaGreatDoor
open Go.RowKit Cm Um
namespace Cr
theorem table_run (w : World) :
    Calls Tryz.prog 141 #[] w fun e w' => e = .returned (.slice (some ⟨w.heap.size, 0, none⟩) 66 66) ∧ w' = w.alloc (.cells (flat3 tab).toArray 192) :=
  calls_runF Tryz.func141 (by rfl) (W := w.alloc (.cells (flat3 tab).toArray 192)) (v := .slice (some ⟨w.heap.size, 0, none⟩) 66 66) (by kernel_rfl) ⟨rfl, rfl⟩
theorem table_any (w : World) :
    Calls Tryz.prog 141 #[] w fun e w' => ∃ g, e = .returned (.slice (some ⟨g, 0, none⟩) 66 66) ∧ TRow w' g tab ∧ Q w w' := by
  refine (table_run w).mono ?_
  rintro e w' ⟨rfl, rfl⟩
  exact ⟨_, rfl, TRow.made w tab _ _ rfl, (Q.refl _).alloc _⟩
theorem tab_take (c : Int) (j : Nat) (h : j < 66) : (tab.take (j + 1)).any (inT c) = ((tab.take j).any (inT c) || inT c (tab.getD j (0, 0, 0))) := by
  have hl : j < tab.length := by rw [tab_len]; exact h
  rw [List.take_succ_eq_append_getElem hl, List.any_append, List.getD_eq_getElem?_getD, List.getElem?_eq_getElem hl]
  simp
set_option maxHeartbeats 800000 in
theorem of_any (c : Int) (w : World) :
    Calls Tryz.prog 109 #[.int .i64 c] w fun e w' => e = .returned (.int .i64 (cls c)) ∧ Q w w' := by
  by_cases hs : syll c
  · by_cases h0 : (c - 44032) % 28 = 0
    · have HF : Hid ((cls c : Int) = 12) := Lib.hid (by rw [cls_lv hs h0]; rfl)
      obtain ⟨h1, h2⟩ := hs
      go_enter Tryz.func109, Tryz.ntmps109
      go_wp2_with fail
      go_ret
      rw [HF.out]
      exact ⟨rfl, Q.refl _⟩
    · have HF : Hid ((cls c : Int) = 13) := Lib.hid (by rw [cls_lvt hs h0]; rfl)
      obtain ⟨h1, h2⟩ := hs
      go_enter Tryz.func109, Tryz.ntmps109
      go_wp2_with fail
      go_ret
      rw [HF.out]
      exact ⟨rfl, Q.refl _⟩
  · have HN := Lib.hid hs
    have hcase : (44032 ≤ c ∧ ¬ c ≤ 55203) ∨ ¬ 44032 ≤ c := by have : ¬ (44032 ≤ c ∧ c ≤ 55203) := hs; omega
    clear hs
    rcases hcase with ⟨h1, h2⟩ | h1
    all_goals
      go_enter Tryz.func109, Tryz.ntmps109
      go_wp2_with fail
      refine (table_any _).mono ?_
      rintro e w1 ⟨g, rfl, htab, hq1⟩
      go_wp2_with fail
      go_loopw [4] (fun i wr => ∃ j : Nat, i = .int .i64 j ∧ j ≤ 66 ∧ Q w1 wr ∧ (tab.take j).any (inT c) = false) (fun i _ => 66 - (intOf i).toNat)
      case atStart => exact ⟨0, rfl, by omega, Q.refl _, rfl⟩
      case round =>
        obtain ⟨j, rfl, hj, hq, hany⟩ := hrel
        have HA := Lib.hid hany
        clear hany
        by_cases hlt : j < 66
        · obtain ⟨c1, c2, c3⟩ := (htab.q hq).2 j (by rw [tab_len]; exact hlt)
          have HT := Lib.hid (tab_take c j hlt)
          have HC := Lib.hid (fun h => tab_at HN.out hlt HA.out h)
          obtain ⟨⟨r1, r2, r3⟩, hr⟩ : ∃ r, r = tab.getD j (0, 0, 0) := ⟨_, rfl⟩
          rw [← hr] at c1 c2 c3 HT HC
          clear hr
          simp only at c1 c2 c3
          have hcase : (r1 ≤ c ∧ c ≤ r2 ∧ Hid (inT c (r1, r2, r3) = true)) ∨ (r1 ≤ c ∧ ¬ c ≤ r2 ∧ Hid (inT c (r1, r2, r3) = false)) ∨ (¬ r1 ≤ c ∧ Hid (inT c (r1, r2, r3) = false)) := by
            by_cases h1 : r1 ≤ c
            · by_cases h2 : c ≤ r2
              · exact .inl ⟨h1, h2, Lib.hid (by simp [inT, inR, h1, h2])⟩
              · exact .inr (.inl ⟨h1, h2, Lib.hid (by simp [inT, inR, h2])⟩)
            · exact .inr (.inr ⟨h1, Lib.hid (by simp [inT, inR, h1])⟩)
          rcases hcase with ⟨g1, g2, HB⟩ | ⟨g1, g2, HB⟩ | ⟨g1, HB⟩
          · go_wp2_with fail
            go_ret
            have := HC.out HB.out
            rw [this]
            exact ⟨rfl, hq1.trans hq⟩
          all_goals
            go_wp2_with fail
            go_roundw
            case rel => exact ⟨j + 1, by go_num, by omega, hq, by rw [HT.out, HA.out, HB.out]; rfl⟩
            case measure => simp [intOf]; omega
        · have hF : (cls c : Int) = 0 := by
            have := HA.out
            rw [List.take_of_length_le (by rw [tab_len]; omega)] at this
            rw [tab_no HN.out this]; rfl
          have HF := Lib.hid hF
          clear hF
          go_wp2_with fail
          go_ret
          rw [HF.out]
          exact ⟨rfl, hq1.trans hq⟩
end Cr
end Go.Proofs.YtnlfeamhedihpaaGreatDoor
namespace Go.Proofs.YtnlfeamhedihpaaGreatDoor
open Go.RowKit
namespace It
open Im
theorem elP : El 51 38 := ⟨by kernel_rfl, by kernel_rfl⟩
theorem elR : El 75 41 := ⟨by kernel_rfl, by kernel_rfl⟩
structure Il where
  a : Option Addr
  n : Nat
  c : Nat
  zs : List E
def Il.v (s : Il) : Value := .slice s.a s.n s.c
def catI (ls : List Il) : List E := ls.flatMap fun s => s.zs
theorem catI_take (ls : List Il) (k : Nat) (s : Il) (h : ls[k]? = some s) : catI (ls.take (k + 1)) = catI (ls.take k) ++ s.zs := by
  unfold catI
  rw [List.take_add_one, h, List.flatMap_append]
  simp
theorem catI_len (ls : List Il) (k : Nat) (h : ∀ s ∈ ls, s.zs.length ≤ 1000000) : (catI (ls.take k)).length ≤ k * 1000000 := by
  induction k with
  | zero => simp [catI]
  | succ k ih =>
    rcases Nat.lt_or_ge k ls.length with hk | hk
    · rw [catI_take ls k _ (List.getElem?_eq_getElem hk), List.length_append]
      have := h _ (List.getElem_mem hk)
      omega
    · have e : ls.take (k + 1) = ls.take k := (List.take_of_length_le (Nat.le_succ_of_le hk)).trans (List.take_of_length_le hk).symm
      rw [e]
      exact Nat.le_trans ih (Nat.mul_le_mul_right _ (Nat.le_succ k))
set_option maxHeartbeats 1600000 in
theorem grow_nil (n : Nat) (w : World) (hn : n < 1073741824) :
    Calls Tryz.prog 53 #[.slice none 0 0, .int .i64 n] w fun e w' => ∃ u, e = .returned u ∧ OwnI 51 w' w.heap.size u [] ∧ Q w w' := by
  by_cases h0 : n = 0
  · subst h0
    go_enter Tryz.func53, Tryz.ntmps53
    go_wp2_with fail
    go_ret
    exact ⟨_, rfl, OwnI.nil _ _ _, Q.refl _⟩
  · obtain ⟨i0, hi, hz0, hz1, hz2⟩ := info_parts elP.info
    have hrz := fun ty => Lib.run_append_grow_zeros w 38 3 ty 51 i0 (.agg #[.int .i64 0, .string ByteArray.empty, .int .i64 0]) .i64 .i64 Tryz.underlying38 Tryz.underlying3 hi hz0 none 0 0 [] (run_firstCells_none w.drew i0.size 0 0 0) n (by omega) (by rw [hz1]; omega) (by omega) (by omega) (by rw [hz2]; omega) (by rw [hz2]; exact growslice_fits (by omega) (by omega))
    have hG := grownCap_le_maxLen w (0 + n) 0 51 (by unfold maxLen; omega)
    have hGn := grownCap_ge w (0 + n) 0 51
    rw [Nat.zero_add] at hrz hG hGn
    obtain ⟨G, hGe⟩ : ∃ G, G = grownCap w n 0 51 := ⟨_, rfl⟩
    rw [← hGe] at hrz hG hGn
    obtain ⟨cs, hcs⟩ : ∃ cs, cs = ((([] : List Value).toArray ++ Builtin.zeroCells (Value.cells (.agg #[.int .i64 0, .string ByteArray.empty, .int .i64 0])) n) ++ Builtin.zeroCells (Value.cells (.agg #[.int .i64 0, .string ByteArray.empty, .int .i64 0])) (G - n)) := ⟨_, rfl⟩
    have hsz : cs.size = G * 3 := by
      rw [hcs, Array.size_append, Array.size_append, size_zeroCells, size_zeroCells]
      simp [Value.cells]; omega
    rw [← hcs] at hrz
    have HO := Lib.hid (show OwnI 51 (w.drew.alloc (.cells cs 51)) w.heap.size (.slice (some ⟨w.heap.size, 0, none⟩) 0 G) [] from World.ownsRow_made (w := w.drew) (e := 51) (size := 3) cs G (Nat.le_refl _) hG hsz)
    unfold maxLen at hG
    clear hGe hcs hsz hi hz0 hz1 hz2
    have hn1 : ¬ ((n : Int) < 0) := by omega
    have hn2 : (n : Int) > 0 := by omega
    go_enter Tryz.func53, Tryz.ntmps53
    go_wp2_with (at_builtin; refine Lib.wpList_append_run _ rfl _ _ _ _ rfl _ _ rfl rfl _ _ (hrz _) ?_)
    go_ret
    exact ⟨_, rfl, HO.out, ((Q.refl w).drew).alloc _⟩
set_option maxHeartbeats 3200000 in
theorem concat_any (v : Value) (ls : List Il) (w : World) (hv : GLst Il.v w v ls) (hvs : ∀ s ∈ ls, LstI w s.v s.zs ∧ s.zs.length = s.n) (hl : ls.length ≤ 1000) (hls : ∀ s ∈ ls, s.n ≤ 1000000) :
    Calls Tryz.prog 28 #[v] w fun e w' => ∃ u, e = .returned u ∧ OwnI 51 w' w.heap.size u (catI ls) ∧ Q w w' := by
  obtain ⟨N, hN⟩ : ∃ N, N = ls.length := ⟨_, rfl⟩
  obtain ⟨a, c, rfl, hnc, hcm⟩ := hv.form0 hN.symm
  have HL := Lib.hid (show ∀ k, k < N → ∃ (sa : Option Addr) (sn sc : Nat) (zs : List E), ls[k]? = some ⟨sa, sn, sc, zs⟩ ∧ LstI w (.slice sa sn sc) zs ∧ zs.length = sn ∧ sn ≤ 1000000 from fun k hk => by
    have hm : ls[k]'(by omega) ∈ ls := List.getElem_mem _
    have h1 := hvs _ hm
    have h2 := hls _ hm
    exact ⟨_, _, _, _, List.getElem?_eq_getElem (by omega), h1.1, h1.2, h2⟩)
  have HV := Lib.hid (fun u (q : Q w u) k s (h : ls[k]? = some s) => (hv.q q).cellOf (n := N) hN.symm h)
  have HC := Lib.hid (catI_take ls)
  have HCL := Lib.hid (fun k => catI_len ls k (fun s hs => by have h1 := (hvs s hs).2; have h2 := hls s hs; omega))
  have HCE := Lib.hid (show catI (ls.take N) = catI ls from by rw [hN, List.take_length])
  have HG := Lib.hid grow_nil
  rw [← hN] at hl
  unfold maxLen at hcm
  clear hv hvs hls hN
  go_enter Tryz.func28, Tryz.ntmps28
  go_wp2_with fail
  go_loop [3, 11] (fun u t => ∃ k m : Nat, u = .int .i64 m ∧ t = .int .i64 k ∧ k ≤ N ∧ m = (catI (ls.take k)).length) (fun _ t => N - (intOf t).toNat)
  case atStart => exact ⟨0, 0, rfl, rfl, by omega, rfl⟩
  case round =>
    obtain ⟨k, m, rfl, rfl, hk, hm⟩ := hrel
    have hmb := HCL.out k
    rw [← hm] at hmb
    by_cases hlt : k < N
    · obtain ⟨sa, sn, sc, zs, hs, _, hzn, hsn⟩ := HL.out k hlt
      obtain ⟨g, off, cap, hvv, hg, _, _, c1⟩ := HV.out w (Q.refl w) k _ hs
      cases hvv
      replace c1 : w.cell? ⟨g, off + k, none⟩ = some (.slice sa sn sc) := c1
      have HN := Lib.hid (show m + sn = (catI (ls.take (k + 1))).length from by rw [HC.out k _ hs, List.length_append, hm, hzn])
      have hms : m + sn ≤ 2000000000 := by have : k * 1000000 ≤ 1000 * 1000000 := Nat.mul_le_mul_right _ (by omega); omega
      have hno : ¬ ((m : Int) + (sn : Int) < 0) := by omega
      clear hs hm hmb hzn
      go_wp2_with fail
      exact ⟨⟨k + 1, m + sn, by go_num, by go_num, by omega, HN.out⟩, by simp [intOf]; omega⟩
    · obtain rfl : k = N := by omega
      have HM := Lib.hid hm
      have hmb2 : m < 1073741824 := by have : k * 1000000 ≤ 1000 * 1000000 := Nat.mul_le_mul_right _ (by omega); omega
      clear hm hmb
      go_wp2_with fail
      refine (HG.out m w hmb2).mono ?_
      rintro e w1 ⟨u1, rfl, ho1, hq1⟩
      have HO1 := Lib.hid ho1
      have HQ1 := Lib.hid hq1
      clear ho1 hq1
      go_wp2_with fail
      go_loopw [6, 27] (fun u t wr => ∃ j : Nat, t = .int .i64 j ∧ j ≤ k ∧ OwnI 51 wr w.heap.size u (catI (ls.take j)) ∧ Q w wr) (fun _ t _ => k - (intOf t).toNat)
      case atStart => exact ⟨0, rfl, by omega, HO1.out, HQ1.out⟩
      case round =>
        obtain ⟨j, rfl, hj, ho, hq⟩ := hrel
        by_cases hlt2 : j < k
        · obtain ⟨sa, sn, sc, zs, hs, hz, hzn, hsn⟩ := HL.out j hlt2
          obtain ⟨g, off, cap, hvv, hg, _, _, c1⟩ := HV.out wr hq j _ hs
          cases hvv
          replace c1 : wr.cell? ⟨g, off + j, none⟩ = some (.slice sa sn sc) := c1
          have HZ := Lib.hid (hz.q hq)
          have HCJ := Lib.hid (HC.out j _ hs)
          have HW := Lib.hid (show (catI (ls.take j)).length + zs.length < 1073741824 from by
            have h1 := HCL.out j
            have : j * 1000000 ≤ 1000 * 1000000 := Nat.mul_le_mul_right _ (by omega)
            omega)
          have hB : w.heap.size ≤ wr.heap.size := hq.le
          clear hs hz hzn
          go_wp2_with (at_builtin; refine Im.pushl elP ho HZ.out rfl _ _ rfl (by rfl) (by rfl) HW.out hB ?_)
          intro v2 w2 ho2 hg2 hat2
          rw [← HCJ.out] at ho2
          have HO2 := Lib.hid ho2
          have HQ2 := Lib.hid (hq.grown hg2 (fun g h => (ho.lt g h).1))
          clear ho ho2 hg2 hat2
          go_wp2_with fail
          exact ⟨⟨j + 1, by go_num, by omega, HO2.out, HQ2.out⟩, by simp [intOf]; omega⟩
        · obtain rfl : j = k := by omega
          rw [HCE.out] at ho
          have HO := Lib.hid ho
          have HQ := Lib.hid hq
          clear ho hq
          go_wp2_with fail
          go_ret
          exact ⟨_, rfl, HO.out, HQ.out⟩
theorem concat4 (u : World) (b : Nat) (va vb vc vd : Value) (xs ys zs ts : List E) (hB : Bk u b 38 [va, vb, vc, vd]) (ha : LstI u va xs) (hb : LstI u vb ys) (hc : LstI u vc zs) (hd : LstI u vd ts) (l1 : xs.length ≤ 200000) (l2 : ys.length ≤ 200000) (l3 : zs.length ≤ 200000) (l4 : ts.length ≤ 200000) :
    Calls Tryz.prog 28 #[.slice (some ⟨b, 0, none⟩) 4 4] u fun e w' => ∃ x, e = .returned x ∧ OwnI 51 w' u.heap.size x (xs ++ ys ++ zs ++ ts) ∧ Q u w' := by
  obtain ⟨a1, c1, rfl, _, _⟩ := ha.shape2
  obtain ⟨a2, c2, rfl, _, _⟩ := hb.shape2
  obtain ⟨a3, c3, rfl, _, _⟩ := hc.shape2
  obtain ⟨a4, c4, rfl, _, _⟩ := hd.shape2
  refine (concat_any _ [⟨a1, xs.length, c1, xs⟩, ⟨a2, ys.length, c2, ys⟩, ⟨a3, zs.length, c3, zs⟩, ⟨a4, ts.length, c4, ts⟩] u ?_ ?_ (by simp) ?_).mono ?_
  · refine .inr ⟨b, 0, 4, rfl, hB.lt, Nat.le_refl _, by unfold maxLen; omega, ?_⟩
    intro i x hx
    rw [Nat.zero_add]
    exact hB.cell i (by
      match i, hx with
      | 0, hx => cases hx; rfl
      | 1, hx => cases hx; rfl
      | 2, hx => cases hx; rfl
      | 3, hx => cases hx; rfl)
  · intro s hs
    simp only [List.mem_cons, List.not_mem_nil, or_false] at hs
    rcases hs with rfl | rfl | rfl | rfl
    · exact ⟨ha, rfl⟩
    · exact ⟨hb, rfl⟩
    · exact ⟨hc, rfl⟩
    · exact ⟨hd, rfl⟩
  · intro s hs
    simp only [List.mem_cons, List.not_mem_nil, or_false] at hs
    rcases hs with rfl | rfl | rfl | rfl <;> dsimp only <;> omega
  · rintro e w' ⟨x, rfl, ho, hq⟩
    have e1 : catI [⟨a1, xs.length, c1, xs⟩, ⟨a2, ys.length, c2, ys⟩, ⟨a3, zs.length, c3, zs⟩, ⟨a4, ts.length, c4, ts⟩] = xs ++ ys ++ zs ++ ts := by simp [catI]
    rw [e1] at ho
    exact ⟨x, rfl, ho, hq⟩
end It
end Go.Proofs.YtnlfeamhedihpaaGreatDoor
namespace Go.Proofs.YtnlfeamhedihpaaGreatDoor
open Go.RowKit Go.Sort Go.Maps
namespace Sy
open Sm Um
set_option maxHeartbeats 1000000 in
theorem digit_any (x : ByteArray) (d : Int) (w : World) (hx : x.size ≤ maxLen) :
    Calls Tryz.prog 69 #[.string x, .int .i64 d] w fun e w' => e = .returned (.tuple #[.string (dgS (nz x.data.toList) d), .int .i64 (dgE (nz x.data.toList) d)]) ∧ Q w w' := by
  have hb := nz_bd x.data.toList
  by_cases hz : nz x.data.toList = -1
  · have HS : Hid (dgS (nz x.data.toList) d = ⟨#[]⟩) := Lib.hid (by unfold dgS; rw [if_pos hz])
    have HE : Hid (dgE (nz x.data.toList) d = 7) := Lib.hid (by unfold dgE; rw [if_pos hz])
    have hc := fun w => zero_none x w hx hz
    clear hz hb
    go_enter Tryz.func69, Tryz.ntmps69
    go_wp2_with (go_at_call 121; refine (hc _).mono ?_; rintro e w1 ⟨rfl, hq1⟩)
    go_ret2
    rw [HS.out, HE.out]
    exact ⟨rfl, hq1⟩
  · have hc := fun w => zero_some x w hx hz
    have hb2 : 48 ≤ nz x.data.toList ∧ nz x.data.toList ≤ 120812 := by omega
    clear hb
    generalize nz x.data.toList = z at *
    by_cases h0 : 0 ≤ d
    · by_cases h9 : d ≤ 9
      · have HS : Hid (dgS z d = Um.encB (z + d)) := Lib.hid (by unfold dgS; rw [if_neg hz, if_pos ⟨h0, h9⟩])
        have HE : Hid (dgE z d = 0) := Lib.hid (by unfold dgE; rw [if_neg hz, if_pos ⟨h0, h9⟩])
        have h10 : d < 10 := by omega
        clear hz h9
        go_enter Tryz.func69, Tryz.ntmps69
        go_wp2_with (first | (go_at_call 121; refine (hc _).mono ?_; rintro e w1 ⟨rfl, hq1⟩) | (go_at_call 122; refine (encode_any _ _).mono ?_; rintro e w' ⟨rfl, rfl⟩))
        go_ret2
        rw [HS.out, HE.out]
        exact ⟨rfl, hq1⟩
      · have HS : Hid (dgS z d = ⟨#[]⟩) := Lib.hid (by unfold dgS; rw [if_neg hz, if_neg (by omega)])
        have HE : Hid (dgE z d = 3) := Lib.hid (by unfold dgE; rw [if_neg hz, if_neg (by omega)])
        have h10 : 10 ≤ d := by omega
        clear hz h9
        go_enter Tryz.func69, Tryz.ntmps69
        go_wp2_with (go_at_call 121; refine (hc _).mono ?_; rintro e w1 ⟨rfl, hq1⟩)
        go_ret2
        rw [HS.out, HE.out]
        exact ⟨rfl, hq1⟩
    · have HS : Hid (dgS z d = ⟨#[]⟩) := Lib.hid (by unfold dgS; rw [if_neg hz, if_neg (by omega)])
      have HE : Hid (dgE z d = 3) := Lib.hid (by unfold dgE; rw [if_neg hz, if_neg (by omega)])
      have h10 : d < 0 := by omega
      clear hz h0
      go_enter Tryz.func69, Tryz.ntmps69
      go_wp2_with (go_at_call 121; refine (hc _).mono ?_; rintro e w1 ⟨rfl, hq1⟩)
      go_ret2
      rw [HS.out, HE.out]
      exact ⟨rfl, hq1⟩
end Sy
end Go.Proofs.YtnlfeamhedihpaaGreatDoor
