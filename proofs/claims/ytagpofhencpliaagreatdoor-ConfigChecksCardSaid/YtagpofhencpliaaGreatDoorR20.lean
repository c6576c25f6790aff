/- What the program's Trim of decimals comes to, and two of them brought to one scale, by a walk through each. (and more) -/
import Derived.Test.YtagpofhencpliaaGreatDoorR00
import Derived.Test.YtagpofhencpliaaGreatDoorR14
import Derived.Test.YtagpofhencpliaaGreatDoorR02
import Derived.Test.YtagpofhencpliaaGreatDoorR15
import Derived.Test.YtagpofhencpliaaGreatDoorR10
import Derived.Test.YtagpofhencpliaaGreatDoorR13
import Derived.Test.YtagpofhencpliaaGreatDoorR17
import Derived.Test.YtagpofhencpliaaGreatDoorR07
import Derived.Test.YtagpofhencpliaaGreatDoorR04
import Derived.Test.YtagpofhencpliaaGreatDoorR11
import Derived.Test.YtagpofhencpliaaGreatDoorR03
import Derived.Test.YtagpofhencpliaaGreatDoorRows
import Derived.Deep.QuietTactic
import Derived.Deep.RegionWith
import Derived.Deep.RegionHeld3
import Derived.BigQuiet
import Derived.Laws.ResultCell
set_option linter.unusedVariables false
set_option linter.unusedSimpArgs false
namespace Go.Proofs.YtagpofhencpliaaGreatDoor
open Go.RowKit
namespace Ep
open Er (dv cellV LF LF.of LF.nil LF.mono LF.q LF.put LF.shape LF.lst block_cells some_cells block_set wrapI num_shl okD_shl)
set_option maxHeartbeats 3200000 in
theorem trim_any (g : Bool) (v : Value) (s : Nat) (L : List Int) (w : World) (hv : Lst w v L) (hl : L.length < 1000000) (hd : Dm.okD L) (hs : s ≤ 1000) :
    Calls Tryz.prog 44 #[dv g v s] w fun e w' => ∃ u, e = .returned (dv (Dm.cg g (Dm.num L)) u ((Dm.st (Dm.num L) s).2 : Nat)) ∧ LF w' (w.heap.size + 2) u (Dm.dg (Dm.st (Dm.num L) s).1) ∧ Q w w' := by
  obtain ⟨a, c, rfl, hc1, hc2⟩ := hv.shape2
  have htr := Dm.trim_eq L hd
  have hok := (Dm.okB_iff L).2 hd
  have MY := Lib.hid (fun u (h : SD w g (.slice a L.length c) s u) => (by
    have e := may_any g (.slice a L.length c) s L u (hv.q h.2.2.2.2.2.2.2.2.2.2.2) (by omega) (by omega)
    rw [hok, show decide (0 ≤ (s : Int)) = true from by simp, show decide ((s : Int) ≤ 1000) = true from by simp; omega] at e
    refine e.mono ?_
    rintro e w' ⟨rfl, hq⟩
    exact ⟨rfl, h.q hq⟩ : Calls Tryz.prog 47 #[.agg #[.bool g, .slice a L.length c, .int .i64 s]] u fun e w' => e = .returned (.bool true) ∧ SD w g (.slice a L.length c) s w'))
  have T := Lib.hid (fun u (h : SD w g (.slice a L.length c) s u) => (by
    refine (Dw.trim_any _ L u (hv.q h.2.2.2.2.2.2.2.2.2.2.2) (by omega)).mono ?_
    rintro e w' ⟨x, rfl, ho, hq⟩
    rw [htr] at ho
    obtain ⟨xa, xc, rfl⟩ := ho.shape
    exact ⟨xa, xc, rfl, ho.mono h.room, h.q hq⟩ : Calls Tryz.prog 67 #[.slice a L.length c] u fun e w' => ∃ xa xc, e = .returned (.slice xa (Dm.dg (Dm.num L)).length xc) ∧ Own w' (w.heap.size + 2) (.slice xa (Dm.dg (Dm.num L)).length xc) (Dm.dg (Dm.num L)) ∧ SD w g (.slice a L.length c) s w'))
  have HS := Lib.hid (SD.start w g (.slice a L.length c) s)
  have hdl := Dm.dg_len L hd
  have PUT := Lib.hid (fun u (h : SD w g (.slice a L.length c) s u) x y z => h.put x y z)
  generalize Dm.num L = M at *
  generalize L.length = n at *
  obtain ⟨p, hp⟩ : ∃ p, p = (Dm.dg M).length := ⟨_, rfl⟩
  rw [← hp] at T hdl
  have HP := Lib.hid hp
  clear hv htr hok hp
  go_enter Tryz.func44, Tryz.ntmps44
  unfold dv
  go_wp2_with fail
  refine (MY.out _ HS.out).mono ?_
  rintro e w0 ⟨rfl, hS⟩
  have HS1 := Lib.hid hS
  clear hS
  go_wp2_with fail
  have hst := HS1.out.q ((Q.refl _).drew)
  have hst0 := HS1.out
  unfold SD at hst hst0
  go_region_held3 (fun u => u.cell? ⟨w.heap.size, 0, none⟩ = some (.bool g) ∧ (u.cell? ⟨w.heap.size, 1, none⟩ = some (.slice a n c) ∧ (u.cell? ⟨w.heap.size, 2, none⟩ = some (.int .i64 s) ∧ (u.cell? ⟨w.heap.size + 1, 0, none⟩ = some (cellV (w.heap.size + 1) 0 u) ∧ (u.cell? ⟨w.heap.size + 1, 1, none⟩ = some (cellV (w.heap.size + 1) 1 u) ∧ (u.cell? ⟨w.heap.size + 1, 2, none⟩ = some (cellV (w.heap.size + 1) 2 u) ∧ (u.frozen? ⟨w.heap.size + 1, 0, none⟩ = false ∧ (u.frozen? ⟨w.heap.size + 1, 1, none⟩ = false ∧ (u.frozen? ⟨w.heap.size + 1, 2, none⟩ = false ∧ (u.heap[w.heap.size]? = some (.cells #[.bool g, .slice a n c, .int .i64 s] 36) ∧ ((∃ x y z, u.heap[w.heap.size + 1]? = some (.cells #[x, y, z] 36)) ∧ (Q w u)))))))))))) (first | exact hst | exact hst0 | assumption) (first | (go_at_call 67; refine (T.out _ ?_).mono ?_; assumption; rintro e w1 ⟨xa, cp, rfl, ho, hS⟩; unfold SD at hS))
  clear hst hst0
  by_cases hM : M = 0
  · subst hM
    have hp0 : p = 0 := by have := HP.out; rw [Dm.dg_zero] at this; exact this
    subst hp0
    have hfin := PUT.out w1 hS (.bool false) (.slice none 0 0) (.int .i64 0)
    have HF := Lib.hid hfin.2
    have hqf : Q w _ := hfin.1.2.2.2.2.2.2.2.2.2.2.2
    have HQ := Lib.hid hqf
    obtain ⟨a0, a1, a2, b0, b1, b2, b3, b4, b5, _, _, _⟩ := hS
    have HZ := Lib.hid (Dm.st_zero s)
    clear hfin hqf ho
    go_wp2_with fail
    refine ret_dv rfl rfl HF.out rfl ⟨.slice none 0 0, ?_, ?_, HQ.out⟩
    · rw [HZ.out]; rfl
    · rw [HZ.out, Dm.dg_zero]; exact LF.nil _ _
  · have hp0 : 0 < p := by have := (Dm.dg_last M hM).1; have := HP.out; omega
    have hp := HP.out
    obtain ⟨b, cp2, hvv, hb, hbw, hpc, hpm⟩ := ho.head hp.symm hp0
    cases hvv
    have HL := Lib.hid ho.lst
    have HSD := Lib.hid (show SD w g (.slice a n c) s w1 from hS)
    have HCG := Lib.hid (Dm.cg_pos (g := g) hM)
    obtain ⟨a0, a1, a2, b0, b1, b2, b3, b4, b5, _, _, _⟩ := hS
    unfold maxLen at hpm
    have hne : ¬ p = 0 := by omega
    have hpn : p ≤ n := by omega
    clear ho hp hdl
    go_wp2_with fail
    go_loop [3, 4] (fun x t => ∃ (M' n' q : Nat), x = .slice (some ⟨b, 0, none⟩) q cp ∧ t = .int .i64 n' ∧ M' ≠ 0 ∧ q = (Dm.dg M').length ∧ q ≤ p ∧ n' ≤ s ∧ Lst w1 (.slice (some ⟨b, 0, none⟩) q cp) (Dm.dg M') ∧ Dm.st M' n' = Dm.st M s) (fun _ t => (intOf t).toNat)
    case atStart => exact ⟨M, s, p, rfl, rfl, hM, HP.out, Nat.le_refl _, Nat.le_refl _, HL.out, rfl⟩
    case round =>
      obtain ⟨M', n', q, rfl, rfl, hM', hq, hqp, hns, hl', hst⟩ := hrel
      obtain ⟨e1, e2, e3⟩ := Dm.dg_last M' hM'
      rw [← hq] at e1 e2 e3
      have hq0 : 0 < q := by omega
      obtain ⟨r, rfl⟩ : ∃ r, q = r + 1 := ⟨q - 1, by omega⟩
      rw [Nat.add_sub_cancel] at e2 e3
      obtain ⟨g2, off2, cap2, hv2, _, _, _, c1⟩ := hl'.cellOf hq.symm (Nat.lt_succ_self r)
      cases hv2
      rw [e2, Nat.zero_add] at c1
      have hqi : ((r + 1 : Nat) : Int) - 1 = (r : Int) := by omega
      have ht := hl'.take r (by rw [← hq]; omega)
      rw [e3] at ht
      have HT := Lib.hid ht
      have HQ0 := Lib.hid hq
      have HL' := Lib.hid hl'
      have HST := Lib.hid hst
      have HQ1 := Lib.hid (show r = (Dm.dg (M' / 10)).length from by omega)
      have hfin := fun x y z => PUT.out w1 HSD.out x y z
      have PF := Lib.hid hfin
      have hrc : (r : Int) ≤ (cp : Int) := by omega
      clear e1 e2 e3 hq ht hl' hst hfin
      by_cases hn0 : n' = 0
      · subst hn0
        have hfn := PF.out (.bool g) (.slice (some ⟨b, 0, none⟩) (r + 1) cp) (.int .i64 0)
        have HF := Lib.hid hfn.2
        have hqf : Q w _ := hfn.1.2.2.2.2.2.2.2.2.2.2.2
        have HQ := Lib.hid hqf
        have HLL := Lib.hid (((HL'.out.setCell (ad := ⟨w.heap.size + 1, 0, none⟩) (.bool g) (fun a n c h _ => by cases h; show b ≠ w.heap.size + 1; omega)).setCell (ad := ⟨w.heap.size + 1, 1, none⟩) (.slice (some ⟨b, 0, none⟩) (r + 1) cp) (fun a n c h _ => by cases h; show b ≠ w.heap.size + 1; omega)).setCell (ad := ⟨w.heap.size + 1, 2, none⟩) (.int .i64 0) (fun a n c h _ => by cases h; show b ≠ w.heap.size + 1; omega))
        have hs2 := HST.out
        rw [Dm.st] at hs2
        have HS2 := Lib.hid hs2
        clear hfn hqf hs2
        go_wp2_with fail
        refine ret_dv rfl rfl HF.out rfl ⟨.slice (some ⟨b, 0, none⟩) (r + 1) cp, ?_, ?_, HQ.out⟩
        · rw [HCG.out, ← HS2.out]; rfl
        · rw [← HS2.out]; exact ⟨_, _, _, rfl, HLL.out, HQ0.out, fun ad ha _ => by cases ha; exact hb⟩
      · obtain ⟨n2, rfl⟩ : ∃ n2, n' = n2 + 1 := ⟨n' - 1, by omega⟩
        by_cases hz : M' % 10 = 0
        · have hz2 : ((M' % 10 : Nat) : Int) = 0 := by omega
          rw [hz2] at c1
          have HN := Lib.hid ((Dm.st_on M' n2 hz).symm.trans HST.out)
          have hM2 : M' / 10 ≠ 0 := by omega
          clear hz hz2
          go_wp2_with fail
          exact ⟨⟨M' / 10, n2, r, by first | rfl | go_num, by go_num, hM2, HQ1.out, by omega, by omega, HT.out, HN.out⟩, by simp [intOf]⟩
        · obtain ⟨x, hx⟩ : ∃ x : Int, x = ((M' % 10 : Nat) : Int) := ⟨_, rfl⟩
          rw [← hx] at c1
          have e5 : (x == 0) = false := beq_eq_false_iff_ne.2 (by omega)
          have hfn := PF.out (.bool g) (.slice (some ⟨b, 0, none⟩) (r + 1) cp) (.int .i64 ((n2 : Int) + 1))
          have HF := Lib.hid hfn.2
          have hqf : Q w _ := hfn.1.2.2.2.2.2.2.2.2.2.2.2
          have HQ := Lib.hid hqf
          have HLL := Lib.hid (((HL'.out.setCell (ad := ⟨w.heap.size + 1, 0, none⟩) (.bool g) (fun a n c h _ => by cases h; show b ≠ w.heap.size + 1; omega)).setCell (ad := ⟨w.heap.size + 1, 1, none⟩) (.slice (some ⟨b, 0, none⟩) (r + 1) cp) (fun a n c h _ => by cases h; show b ≠ w.heap.size + 1; omega)).setCell (ad := ⟨w.heap.size + 1, 2, none⟩) (.int .i64 ((n2 : Int) + 1)) (fun a n c h _ => by cases h; show b ≠ w.heap.size + 1; omega))
          have HS2 := Lib.hid ((Dm.st_end M' n2 hz).symm.trans HST.out)
          clear hfn hqf hz hx
          go_wp2_with fail
          refine ret_dv rfl rfl HF.out rfl ⟨.slice (some ⟨b, 0, none⟩) (r + 1) cp, ?_, ?_, HQ.out⟩
          · rw [HCG.out, ← HS2.out]; rfl
          · rw [← HS2.out]; exact ⟨_, _, _, rfl, HLL.out, HQ0.out, fun ad ha _ => by cases ha; exact hb⟩
def S2 (w : World) (g : Bool) (v : Value) (s : Int) (h : Bool) (x : Value) (t : Int) (u : World) : Prop :=
  u.cell? ⟨w.heap.size, 0, none⟩ = some (.bool g) ∧ (u.cell? ⟨w.heap.size, 1, none⟩ = some v ∧ (u.cell? ⟨w.heap.size, 2, none⟩ = some (.int .i64 s) ∧ (u.cell? ⟨w.heap.size + 1, 0, none⟩ = some (.bool h) ∧ (u.cell? ⟨w.heap.size + 1, 1, none⟩ = some x ∧ (u.cell? ⟨w.heap.size + 1, 2, none⟩ = some (.int .i64 t) ∧ (u.heap[w.heap.size]? = some (.cells #[.bool g, v, .int .i64 s] 36) ∧ (u.heap[w.heap.size + 1]? = some (.cells #[.bool h, x, .int .i64 t] 36) ∧ Q w u)))))))
theorem S2.of {w u : World} {g h : Bool} {v x : Value} {s t : Int} (h0 : u.heap[w.heap.size]? = some (.cells #[.bool g, v, .int .i64 s] 36)) (h1 : u.heap[w.heap.size + 1]? = some (.cells #[.bool h, x, .int .i64 t] 36)) (hq : Q w u) : S2 w g v s h x t u := by
  obtain ⟨a0, a1, a2, _, _, _⟩ := block_cells h0
  obtain ⟨b0, b1, b2, _, _, _⟩ := block_cells h1
  exact ⟨a0, a1, a2, b0, b1, b2, h0, h1, hq⟩
theorem S2.q {w u u' : World} {g h : Bool} {v x : Value} {s t : Int} (k : S2 w g v s h x t u) (hq : Q u u') : S2 w g v s h x t u' := by
  obtain ⟨_, _, _, _, _, _, h0, h1, h2⟩ := k
  exact S2.of ((hq.block (lt_of_block h0)).trans h0) ((hq.block (lt_of_block h1)).trans h1) (h2.trans hq)
theorem S2.start (w : World) (g : Bool) (v : Value) (s : Int) (h : Bool) (x : Value) (t : Int) : S2 w g v s h x t ((w.alloc (.cells #[.bool g, v, .int .i64 s] 36)).alloc (.cells #[.bool h, x, .int .i64 t] 36)) :=
  S2.of (heap_alloc2_old _ _ _) (heap_alloc2_new _ _ _) (((Q.refl w).alloc _).alloc _)
theorem S2.here {w u : World} {g h : Bool} {v x : Value} {s t : Int} (k : S2 w g v s h x t u) : Q w u := k.2.2.2.2.2.2.2.2
set_option maxHeartbeats 3200000 in
theorem level_any (g h : Bool) (va vb : Value) (s t r : Nat) (xs ys : List Int) (w : World) (hv : Lst w va xs) (hu : Lst w vb ys) (hl : xs.length < 100000) (hl2 : ys.length < 100000) (hs : s ≤ 1000) (ht : t ≤ 1000) (hr : r = max s t) :
    Calls Tryz.prog 50 #[dv g va s, dv h vb t] w fun e w' => ∃ x y, e = .returned (.tuple #[x, y, .int .i64 (r : Int)]) ∧ Lst w' x (xs ++ List.replicate (r - s) 0) ∧ Lst w' y (ys ++ List.replicate (r - t) 0) ∧ Q w w' := by
  obtain ⟨a, c, rfl⟩ := hv.shape
  obtain ⟨b, d, rfl⟩ := hu.shape
  have LX := Lib.hid (fun u (k : S2 w g (.slice a xs.length c) s h (.slice b ys.length d) t u) => (by
    refine (lower_any g _ s r xs u (hv.q k.here) (by omega) (by omega) (by omega)).mono ?_
    rintro e w' ⟨x, rfl, ho, hq⟩
    exact ⟨x, rfl, ho.lst, k.q hq, fun v zs hl => hl.q hq⟩ : Calls Tryz.prog 71 #[.agg #[.bool g, .slice a xs.length c, .int .i64 s], .int .i64 (r : Int)] u fun e w' => ∃ x, e = .returned x ∧ Lst w' x (xs ++ List.replicate (r - s) 0) ∧ S2 w g (.slice a xs.length c) s h (.slice b ys.length d) t w' ∧ ∀ v zs, Lst u v zs → Lst w' v zs))
  have LY := Lib.hid (fun u (k : S2 w g (.slice a xs.length c) s h (.slice b ys.length d) t u) => (by
    refine (lower_any h _ t r ys u (hu.q k.here) (by omega) (by omega) (by omega)).mono ?_
    rintro e w' ⟨x, rfl, ho, hq⟩
    exact ⟨x, rfl, ho.lst, k.q hq, fun v zs hl => hl.q hq⟩ : Calls Tryz.prog 71 #[.agg #[.bool h, .slice b ys.length d, .int .i64 t], .int .i64 (r : Int)] u fun e w' => ∃ x, e = .returned x ∧ Lst w' x (ys ++ List.replicate (r - t) 0) ∧ S2 w g (.slice a xs.length c) s h (.slice b ys.length d) t w' ∧ ∀ v zs, Lst u v zs → Lst w' v zs))
  have HS := Lib.hid (S2.start w g (.slice a xs.length c) s h (.slice b ys.length d) t)
  generalize xs ++ List.replicate (r - s) 0 = X at *
  generalize ys ++ List.replicate (r - t) 0 = Y at *
  generalize xs.length = n at *
  generalize ys.length = m at *
  clear hv hu
  rcases (show s < t ∨ t ≤ s from by omega) with hm | hm
  · have hmi : (s : Int) < (t : Int) := by omega
    have hmi2 : (s : Int) ≤ (t : Int) := by omega
    obtain rfl : t = r := by omega
    clear hr hm
    go_enter Tryz.func50, Tryz.ntmps50
    unfold dv
    go_wp2_with fail
    have hst := HS.out.q ((Q.refl _).drew)
    have hst0 := HS.out
    unfold S2 at hst hst0
    go_region_held3 (fun u => u.cell? ⟨w.heap.size, 0, none⟩ = some (.bool g) ∧ (u.cell? ⟨w.heap.size, 1, none⟩ = some (.slice a n c) ∧ (u.cell? ⟨w.heap.size, 2, none⟩ = some (.int .i64 s) ∧ (u.cell? ⟨w.heap.size + 1, 0, none⟩ = some (.bool h) ∧ (u.cell? ⟨w.heap.size + 1, 1, none⟩ = some (.slice b m d) ∧ (u.cell? ⟨w.heap.size + 1, 2, none⟩ = some (.int .i64 t) ∧ (u.heap[w.heap.size]? = some (.cells #[.bool g, .slice a n c, .int .i64 s] 36) ∧ (u.heap[w.heap.size + 1]? = some (.cells #[.bool h, .slice b m d, .int .i64 t] 36) ∧ (Q w u))))))))) (first | exact hst | exact hst0 | assumption) (first | (go_at_call_of 71 (Value.slice a n c); refine (LX.out _ ?_).mono ?_; assumption; rintro e w3 ⟨px, rfl, hpx, hS3, hcar⟩; unfold S2 at hS3; try (have hpy := hcar _ _ hpy)) | (go_at_call_of 71 (Value.slice b m d); refine (LY.out _ ?_).mono ?_; assumption; rintro e w4 ⟨py, rfl, hpy, hS4, hcar⟩; unfold S2 at hS4; try (have hpx := hcar _ _ hpx)))
    have HQ := Lib.hid (show Q w _ from hS4.2.2.2.2.2.2.2.2)
    have HX := Lib.hid hpx
    have HY := Lib.hid hpy
    clear hst hst0 hS3 hS4 hpx hpy hcar
    go_wp2_with fail
    go_ret3
    exact ⟨_, _, rfl, HX.out, HY.out, HQ.out⟩
  · have hmi : (t : Int) ≤ (s : Int) := by omega
    have hmi3 : ¬ (s : Int) < (t : Int) := by omega
    obtain rfl : s = r := by omega
    clear hr hm
    go_enter Tryz.func50, Tryz.ntmps50
    unfold dv
    go_wp2_with fail
    have hst := HS.out.q ((Q.refl _).drew)
    have hst0 := HS.out
    unfold S2 at hst hst0
    go_region_held3 (fun u => u.cell? ⟨w.heap.size, 0, none⟩ = some (.bool g) ∧ (u.cell? ⟨w.heap.size, 1, none⟩ = some (.slice a n c) ∧ (u.cell? ⟨w.heap.size, 2, none⟩ = some (.int .i64 s) ∧ (u.cell? ⟨w.heap.size + 1, 0, none⟩ = some (.bool h) ∧ (u.cell? ⟨w.heap.size + 1, 1, none⟩ = some (.slice b m d) ∧ (u.cell? ⟨w.heap.size + 1, 2, none⟩ = some (.int .i64 t) ∧ (u.heap[w.heap.size]? = some (.cells #[.bool g, .slice a n c, .int .i64 s] 36) ∧ (u.heap[w.heap.size + 1]? = some (.cells #[.bool h, .slice b m d, .int .i64 t] 36) ∧ (Q w u))))))))) (first | exact hst | exact hst0 | assumption) (first | (go_at_call_of 71 (Value.slice a n c); refine (LX.out _ ?_).mono ?_; assumption; rintro e w3 ⟨px, rfl, hpx, hS3, hcar⟩; unfold S2 at hS3; try (have hpy := hcar _ _ hpy)) | (go_at_call_of 71 (Value.slice b m d); refine (LY.out _ ?_).mono ?_; assumption; rintro e w4 ⟨py, rfl, hpy, hS4, hcar⟩; unfold S2 at hS4; try (have hpx := hcar _ _ hpx)))
    have HQ := Lib.hid (show Q w _ from hS4.2.2.2.2.2.2.2.2)
    have HX := Lib.hid hpx
    have HY := Lib.hid hpy
    clear hst hst0 hS3 hS4 hpx hpy hcar
    go_wp2_with fail
    go_ret3
    exact ⟨_, _, rfl, HX.out, HY.out, HQ.out⟩
end Ep
end Go.Proofs.YtagpofhencpliaaGreatDoor
