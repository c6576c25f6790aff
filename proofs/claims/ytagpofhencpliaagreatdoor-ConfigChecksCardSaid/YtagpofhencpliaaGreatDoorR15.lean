/- What the program's small functions on decimals come to, by a walk through each: which may be, digits in a list of their own, the sign. (and more) -/
import Derived.Test.YtagpofhencpliaaGreatDoorR00
import Derived.Test.YtagpofhencpliaaGreatDoorR02
import Derived.Test.YtagpofhencpliaaGreatDoorR10
import Derived.Test.YtagpofhencpliaaGreatDoorR13
import Derived.Test.YtagpofhencpliaaGreatDoorR07
import Derived.Test.YtagpofhencpliaaGreatDoorR04
import Derived.Test.YtagpofhencpliaaGreatDoorR03
import Derived.Test.YtagpofhencpliaaGreatDoorRows
import Derived.Deep.QuietTactic
import Derived.Deep.RegionWith
import Derived.Deep.RegionHeld3
import Derived.BigQuiet
import Derived.Laws.ResultCell
set_option linter.unusedVariables false
set_option linter.unusedSimpArgs false
namespace Go.Proofs.YtagpofhencpliaaGreatDoor
open Go.RowKit
theorem copy_behind {w : World} {B g n z : Nat} {zs xs : List Int} {u : Value} (hown : Own w B (.slice (some ⟨g, 0, none⟩) n n) zs) (hn : zs.length = n) (hu : Lst w u xs) {ops : Array Oper} {rest : List Oper} {o : Oper} {a : Act} {R : Exit → Act → World → Prop} (hgd : o.guard = none) (d s : Operand)
    (ho : o.op = .call { callee := .builtin .copy, args := #[d, s], argTypes := #[26, 26] }) (dp : Option Addr) (m dc : Nat) (hd : a.eval d = .slice dp m dc) (hs : a.eval s = u)
    (hdp : 0 < xs.length → dp = some ⟨g, z, none⟩) (hm : xs.length ≤ m) (hz : z + m = n) (Z : List Int) (hZ : zs.take z ++ xs ++ zs.drop (z + xs.length) = Z)
    (h : ∀ w' v, Own w' B (.slice (some ⟨g, 0, none⟩) n n) Z → Below B w w' → wpList Tryz.prog ops R rest (a.put o.dst v) w') :
    wpList Tryz.prog ops R (o :: rest) a w := by
  subst hZ
  obtain ⟨hh, hB, hmx⟩ := hown.full hn
  obtain ⟨sp, sc, rfl, hnc, hcm⟩ := hu.shape2
  have hcl : (xs.map (Value.int .i64)).length = xs.length := by simp
  refine wpList_copy_splice hgd d s _ _ ho 3 Tryz.underlying26 sizeInt dp sp m dc xs.length sc hd hs g z (zs.map (Value.int .i64)) 3 hh (xs.map (Value.int .i64)) (by rw [hcl]; exact (Nat.min_eq_left hm).symm) ?_ (by rw [hcl, List.length_map]; omega) ?_ B w (Below.refl _ _) hB ?_
  · intro hpos
    rw [hcl] at hpos
    refine ⟨hdp hpos, ?_⟩
    rcases hu with ⟨rfl, _⟩ | ⟨g2, off, cap, hv, hg, h1, h2, hc⟩
    · simp at hpos
    · cases hv
      refine ⟨_, rfl, fun j v hj => ?_⟩
      have hjl := (List.getElem?_eq_some_iff.1 hj).1
      rw [hcl] at hjl
      have hadd : (⟨g2, off, none⟩ : Addr).add j = ⟨g2, off + j, none⟩ := by unfold Addr.add; split <;> simp_all
      rw [hadd, hc j (by omega)]
      rw [List.getElem?_map, List.getElem?_eq_getElem hjl] at hj
      rw [List.getD_eq_getElem?_getD, List.getElem?_eq_getElem hjl]
      simpa using hj
  · intro v hv
    obtain ⟨_, _, rfl⟩ := List.mem_map.1 hv
    rfl
  · intro w' hw' hb'
    have hw := hw'.out
    refine h w' _ (Own.ofFull ?_ ?_ hB hmx) hb'
    · rw [hw]
      unfold splice
      rw [hcl, List.map_append, List.map_append, List.map_drop, List.map_take, List.append_assoc]
    · rw [List.length_append, List.length_append, List.length_take, List.length_drop, hn]; omega
namespace Ep
open Er hiding infoD ret_dv SD SD.of SD.q SD.start SD.put SD.room ret_dv2 may_any trim_any
theorem infoD : (Tryz.prog.info? 36).map (·.size) = some 3 := by kernel_rfl
theorem ret_dv {fn : Func} {p : Tmp} (h : fn.results = #[.cell p 36]) {R : Ending → World → Prop} {a : Act} {w : World} {g : Nat} {b : Bool} {v : Value} {s : Int} {T : TypeId} {fr : Nat × Nat}
    (hp : a.tmps.getD p undef = .pointer (some ⟨g, 0, none⟩)) (hg : w.heap[g]? = some (.cells #[.bool b, v, .int .i64 s] T fr)) (hd : a.defers = []) (hR : R (.returned (dv b v s)) w) : bodyPost Tryz.prog fn R .ret a w :=
  bodyPost_ret (results_cell_row h a.tmps w g T #[.bool b, v, .int .i64 s] fr _ hp hg Tryz.underlying36 rfl infoD) hd hR
def SD (w : World) (g : Bool) (v : Value) (s : Int) (u : World) : Prop :=
  u.cell? ⟨w.heap.size, 0, none⟩ = some (.bool g) ∧ (u.cell? ⟨w.heap.size, 1, none⟩ = some (v) ∧ (u.cell? ⟨w.heap.size, 2, none⟩ = some (.int .i64 s) ∧ (u.cell? ⟨w.heap.size + 1, 0, none⟩ = some (cellV (w.heap.size + 1) 0 u) ∧ (u.cell? ⟨w.heap.size + 1, 1, none⟩ = some (cellV (w.heap.size + 1) 1 u) ∧ (u.cell? ⟨w.heap.size + 1, 2, none⟩ = some (cellV (w.heap.size + 1) 2 u) ∧ (u.frozen? ⟨w.heap.size + 1, 0, none⟩ = false ∧ (u.frozen? ⟨w.heap.size + 1, 1, none⟩ = false ∧ (u.frozen? ⟨w.heap.size + 1, 2, none⟩ = false ∧ (u.heap[w.heap.size]? = some (.cells #[.bool g, v, .int .i64 s] 36) ∧ ((∃ x y z, u.heap[w.heap.size + 1]? = some (.cells #[x, y, z] 36)) ∧ Q w u))))))))))
theorem SD.of {w u : World} {g : Bool} {v : Value} {s : Int} (h0 : u.heap[w.heap.size]? = some (.cells #[.bool g, v, .int .i64 s] 36)) (h1 : ∃ x y z, u.heap[w.heap.size + 1]? = some (.cells #[x, y, z] 36)) (hq : Q w u) : SD w g v s u := by
  obtain ⟨a0, a1, a2, a3, a4, a5⟩ := block_cells h0
  obtain ⟨x, y, z, h1⟩ := h1
  obtain ⟨b0, b1, b2, b3, b4, b5⟩ := some_cells h1
  exact ⟨a0, a1, a2, b0, b1, b2, b3, b4, b5, h0, ⟨x, y, z, h1⟩, hq⟩
theorem SD.q {w u u' : World} {g : Bool} {v : Value} {s : Int} (h : SD w g v s u) (hq : Q u u') : SD w g v s u' := by
  obtain ⟨_, _, _, _, _, _, _, _, _, h0, ⟨x, y, z, h1⟩, h2⟩ := h
  exact SD.of ((hq.block (lt_of_block h0)).trans h0) ⟨x, y, z, (hq.block (lt_of_block h1)).trans h1⟩ (h2.trans hq)
theorem SD.start (w : World) (g : Bool) (v : Value) (s : Int) : SD w g v s ((w.alloc (.cells #[.bool g, v, .int .i64 s] 36)).alloc (.cells #[.bool false, .slice none 0 0, .int .i64 0] 36)) :=
  SD.of (heap_alloc2_old _ _ _) ⟨_, _, _, heap_alloc2_new _ _ _⟩ (((Q.refl w).alloc _).alloc _)
theorem SD.put {w u : World} {g : Bool} {v : Value} {s : Int} (h : SD w g v s u) (x y z : Value) : SD w g v s (((u.setCell ⟨w.heap.size + 1, 0, none⟩ x).setCell ⟨w.heap.size + 1, 1, none⟩ y).setCell ⟨w.heap.size + 1, 2, none⟩ z) ∧
    (((u.setCell ⟨w.heap.size + 1, 0, none⟩ x).setCell ⟨w.heap.size + 1, 1, none⟩ y).setCell ⟨w.heap.size + 1, 2, none⟩ z).heap[w.heap.size + 1]? = some (.cells #[x, y, z] 36) := by
  obtain ⟨_, _, _, _, _, _, _, _, _, h0, ⟨x0, y0, z0, h1⟩, h2⟩ := h
  have hb := block_set (x' := x) (y' := y) (z' := z) h1
  refine ⟨SD.of ?_ ⟨x, y, z, hb⟩ (((h2.setCell (ad := ⟨w.heap.size + 1, 0, none⟩) (Nat.le_succ _) x).setCell (ad := ⟨w.heap.size + 1, 1, none⟩) (Nat.le_succ _) y).setCell (ad := ⟨w.heap.size + 1, 2, none⟩) (Nat.le_succ _) z), hb⟩
  rw [heap_setCell_other _ ⟨w.heap.size + 1, 2, none⟩ _ z (by simp), heap_setCell_other _ ⟨w.heap.size + 1, 1, none⟩ _ y (by simp), heap_setCell_other _ ⟨w.heap.size + 1, 0, none⟩ _ x (by simp)]
  exact h0
theorem SD.room {w u : World} {g : Bool} {v : Value} {s : Int} (h : SD w g v s u) : w.heap.size + 2 ≤ u.heap.size := by
  obtain ⟨_, _, _, _, _, _, _, _, _, _, ⟨x, y, z, h1⟩, _⟩ := h
  exact lt_of_block h1
theorem ret_dv2 {fn : Func} {p q : Tmp} (h : fn.results = #[.cell p 36, .tmp q]) {R : Ending → World → Prop} {a : Act} {w : World} {g : Nat} {b : Bool} {v : Value} {s : Int} {T : TypeId} {fr : Nat × Nat} {x : Value}
    (hp : a.tmps.getD p undef = .pointer (some ⟨g, 0, none⟩)) (hq : a.tmps.getD q undef = x) (hg : w.heap[g]? = some (.cells #[.bool b, v, .int .i64 s] T fr)) (hd : a.defers = []) (hR : R (.returned (.tuple #[dv b v s, x])) w) : bodyPost Tryz.prog fn R .ret a w := by
  refine bodyPost_ret (v := .tuple #[dv b v s, x]) ?_ hd hR
  rw [results_cell_tmp h, hp, hq]
  simp [asAddr, Result.andThen, run_loadVar_row w g T 36 #[.bool b, v, .int .i64 s] fr _ hg Tryz.underlying36 rfl infoD, dv]
theorem mayScale_any (s : Int) (w : World) (hs : -9223372036854775808 ≤ s ∧ s ≤ 9223372036854775807) :
    Calls Tryz.prog 66 #[.int .i64 s] w fun e w' => e = .returned (.bool (decide (0 ≤ s) && decide (s ≤ 1000))) ∧ w = w' := by
  obtain ⟨hs1, hs2⟩ := hs
  by_cases h1 : 0 ≤ s
  · by_cases h2 : s ≤ 1000
    · go_enter Tryz.func66, Tryz.ntmps66
      go_wp2_with fail
      go_ret
      exact ⟨retB (by simp [h1, h2]), rfl⟩
    · have h3 : 1000 < s := by omega
      go_enter Tryz.func66, Tryz.ntmps66
      go_wp2_with fail
      go_ret
      exact ⟨retB (by simp [h1]; omega), rfl⟩
  · have h3 : s < 0 := by omega
    go_enter Tryz.func66, Tryz.ntmps66
    go_wp2_with fail
    go_ret
    exact ⟨retB (by simp; omega), rfl⟩
set_option maxHeartbeats 1600000 in
theorem may_any (g : Bool) (v : Value) (s : Int) (L : List Int) (w : World) (hv : Lst w v L) (hl : L.length < 1000000) (hs : -9223372036854775808 ≤ s ∧ s ≤ 9223372036854775807) :
    Calls Tryz.prog 47 #[dv g v s] w fun e w' => e = .returned (.bool (Dm.okB L && decide (0 ≤ s) && decide (s ≤ 1000))) ∧ Q w w' := by
  obtain ⟨a, c, rfl⟩ := hv.shape
  have M := Lib.hid (fun w' (q : Q w w') => Dw.may_any _ L w' (hv.q q) (by omega))
  have HSC := Lib.hid (fun w' => mayScale_any s w' hs)
  generalize L.length = n at *
  generalize Dm.okB L = r at *
  have HRB := Lib.hid (show (r && decide (0 ≤ s) && decide (s ≤ 1000)) = (decide (0 ≤ s) && decide (s ≤ 1000) && r) from by cases r <;> simp)
  rw [HRB.out]
  generalize (decide (0 ≤ s) && decide (s ≤ 1000)) = t at *
  clear hv hl hs HRB
  go_enter Tryz.func47, Tryz.ntmps47
  unfold dv
  go_wp2_with fail
  refine (HSC.out _).mono ?_
  rintro e w1 ⟨rfl, rfl⟩
  cases t
  · go_wp2_with fail
    go_ret
    exact ⟨rfl, (Q.refl w).alloc _⟩
  · go_wp2_with fail
    refine (M.out _ ((Q.refl w).alloc _)).mono ?_
    rintro e w2 ⟨rfl, rfl⟩
    go_wp2_with fail
    go_ret
    exact ⟨rfl, (Q.refl w).alloc _⟩
set_option maxHeartbeats 1600000 in
theorem spread_any (v : Value) (L : List Int) (p q : Nat) (w : World) (hv : Lst w v L) (hl : L.length < 1000000) (hp : p < 1000000) (hq : q < 1000000) :
    Calls Tryz.prog 82 #[v, .int .i64 p, .int .i64 q] w fun e w' => ∃ u, e = .returned u ∧ Own w' w.heap.size u (List.replicate p 0 ++ L ++ List.replicate q 0) ∧ Q w w' := by
  obtain ⟨a, c, rfl⟩ := hv.shape
  obtain ⟨n, hn⟩ : ∃ n, n = L.length := ⟨_, rfl⟩
  rw [← hn] at hv hl ⊢
  have HV := Lib.hid (fun u (q : Q w u) => hv.q q)
  have HN := Lib.hid hn
  obtain ⟨N, hN⟩ : ∃ N : Nat, N = p + n + q := ⟨_, rfl⟩
  have HNI := Lib.hid (show (p : Int) + (n : Int) + (q : Int) = ((N : Nat) : Int) from by omega)
  have hpN : p ≤ N := by omega
  have hNb : N < 1099511627776 := by omega
  obtain ⟨Z, hZ⟩ : ∃ Z, Z = List.replicate p 0 ++ L ++ List.replicate q 0 := ⟨_, rfl⟩
  rw [← hZ]
  have HZ0 := Lib.hid hZ
  clear hZ
  have HNE := Lib.hid hN
  clear hv hn hN
  go_enter Tryz.func82, Tryz.ntmps82
  go_wp2_with (at_make; refine make_ints (B := w.heap.size) (by rfl) _ _ rfl N _ rfl rfl HNI.out hNb (Nat.le_refl _) ?_)
  intro w1 ho hq1 hlt
  have hN := HNE.out
  have HL1 := Lib.hid (HV.out w1 hq1)
  have hpNi : (p : Int) ≤ (N : Int) := by omega
  have HW := Lib.hid (show (List.replicate N (0 : Int)).take p ++ L ++ (List.replicate N (0 : Int)).drop (p + L.length) = Z from by
    rw [HZ0.out, List.take_replicate, List.drop_replicate, ← HN.out, Nat.min_eq_left hpN, show N - (p + n) = q from by omega])
  have HM := Lib.hid (show n ≤ N - p from by omega)
  have HZ := Lib.hid (show p + (N - p) = N from by omega)
  have HRL := Lib.hid (show (List.replicate N (0 : Int)).length = N from List.length_replicate ..)
  have HO := Lib.hid ho
  have HQ1 := Lib.hid hq1
  have HZE := Lib.hid (show p = N → n = 0 from by intro h; omega)
  clear ho hq1 hN hlt
  rcases (show p < N ∨ p = N from by omega) with hc | hc
  · have hci : (p : Int) < (N : Int) := by omega
    go_wp2_with (refine copy_behind HO.out HRL.out HL1.out (by rfl) _ _ (by rfl) (some ⟨w.heap.size, p, none⟩) (N - p) (N - p) (by first | rfl | simp) rfl (fun _ => rfl) (by rw [← HN.out]; exact HM.out) HZ.out Z HW.out ?_)
    intro w2 v2 ho2 hb2
    have HO2 := Lib.hid ho2
    have HQ2 := Lib.hid (HQ1.out.below.trans hb2)
    clear ho2 hb2
    go_wp2_with fail
    go_ret
    exact ⟨_, rfl, HO2.out, HQ2.out⟩
  · have HX := Lib.hid (show L.length = 0 from by rw [← HN.out]; exact HZE.out hc)
    subst hc
    go_wp2_with (refine copy_behind (z := p) HO.out HRL.out HL1.out (by rfl) _ _ (by rfl) _ 0 _ (by first | rfl | simp) rfl (fun h => absurd h (by rw [HX.out]; omega)) (by rw [HX.out]; exact Nat.le_refl _) (by have := HZ.out; omega) Z HW.out ?_)
    intro w2 v2 ho2 hb2
    have HO2 := Lib.hid ho2
    have HQ2 := Lib.hid (HQ1.out.below.trans hb2)
    clear ho2 hb2
    go_wp2_with fail
    go_ret
    exact ⟨_, rfl, HO2.out, HQ2.out⟩
set_option maxHeartbeats 800000 in
theorem widen_any (v : Value) (L : List Int) (k : Nat) (w : World) (hv : Lst w v L) (hl : L.length < 1000000) (hk : k < 1000000) :
    Calls Tryz.prog 64 #[v, .int .i64 k] w fun e w' => ∃ u, e = .returned u ∧ Own w' w.heap.size u (List.replicate (k - L.length) 0 ++ L) ∧ Q w w' := by
  obtain ⟨a, c, rfl⟩ := hv.shape
  obtain ⟨p, hp⟩ : ∃ p : Nat, p = k - L.length := ⟨_, rfl⟩
  have SP := Lib.hid (spread_any _ L p 0 w hv hl (by omega) (by omega))
  rw [← hp]
  rw [List.replicate_zero, List.append_nil] at SP
  generalize List.replicate p 0 ++ L = Z at *
  generalize L.length = n at *
  clear hv
  by_cases hkn : n < k
  · have hi : (0 : Int) < (k : Int) - (n : Int) := by omega
    have hi1 : (0 : Int) ≤ (k : Int) - (n : Int) := by omega
    have hpi : (k : Int) - (n : Int) = (p : Int) := by omega
    have HPI := Lib.hid hpi
    clear hpi hp
    go_enter Tryz.func64, Tryz.ntmps64
    go_wp2_with fail
    rw [HPI.out]
    refine SP.out.mono ?_
    rintro e w1 ⟨u, rfl, ho, hq⟩
    have HO := Lib.hid ho
    have HQ := Lib.hid hq
    clear ho hq
    go_wp2_with fail
    go_ret
    exact ⟨_, rfl, HO.out, HQ.out⟩
  · obtain rfl : p = 0 := by omega
    rcases (show k = n ∨ k < n from by omega) with rfl | hk2
    · have HPZ := Lib.hid hp
      clear hp
      go_enter Tryz.func64, Tryz.ntmps64
      go_wp2_with fail
      refine SP.out.mono ?_
      rintro e w1 ⟨u, rfl, ho, hq⟩
      have HO := Lib.hid ho
      have HQ := Lib.hid hq
      clear ho hq
      go_wp2_with fail
      go_ret
      exact ⟨_, rfl, HO.out, HQ.out⟩
    · have hi3 : (k : Int) - (n : Int) < (0 : Int) := by omega
      clear hp hk2
      go_enter Tryz.func64, Tryz.ntmps64
      go_wp2_with fail
      refine SP.out.mono ?_
      rintro e w1 ⟨u, rfl, ho, hq⟩
      have HO := Lib.hid ho
      have HQ := Lib.hid hq
      clear ho hq
      go_wp2_with fail
      go_ret
      exact ⟨_, rfl, HO.out, HQ.out⟩
set_option maxHeartbeats 800000 in
theorem lower_any (g : Bool) (v : Value) (s k : Nat) (L : List Int) (w : World) (hv : Lst w v L) (hl : L.length < 1000000) (hs : s ≤ k) (hk : k < 1000000) :
    Calls Tryz.prog 71 #[dv g v s, .int .i64 k] w fun e w' => ∃ u, e = .returned u ∧ Own w' w.heap.size u (L ++ List.replicate (k - s) 0) ∧ Q w w' := by
  obtain ⟨a, c, rfl⟩ := hv.shape
  obtain ⟨p, hp⟩ : ∃ p : Nat, p = k - s := ⟨_, rfl⟩
  have SP := Lib.hid (fun u (q : Q w u) => spread_any _ L 0 p u (hv.q q) hl (by omega) (by omega))
  rw [← hp]
  simp only [List.replicate_zero, List.nil_append] at SP
  generalize L ++ List.replicate p 0 = Z at *
  generalize L.length = n at *
  have hpi : (k : Int) - (s : Int) = (p : Int) := by omega
  have HPI := Lib.hid hpi
  clear hpi hp hv
  go_enter Tryz.func71, Tryz.ntmps71
  unfold dv
  go_wp2_with fail
  rw [HPI.out]
  refine (SP.out _ ((Q.refl w).alloc _)).mono ?_
  rintro e w1 ⟨u, rfl, ho, hq⟩
  have HO := Lib.hid (ho.mono (B' := w.heap.size) (by rw [World.size_alloc]; omega))
  have HQ := Lib.hid (((Q.refl w).alloc _).trans hq)
  clear ho hq
  go_wp2_with fail
  go_ret
  exact ⟨_, rfl, HO.out, HQ.out⟩
def sg (g : Bool) (M : Nat) : Int := if M = 0 then 0 else if g = true then -1 else 1
theorem zer_all (L : List Int) (h : Dm.okD L) : Dm.zer L = L.length ↔ Dm.num L = 0 := by
  have h1 := Dm.trim_len L
  have h2 := Dm.trim_eq L h
  have h3 := Dm.zer_le L
  constructor
  · intro e
    have : (Dm.trimL L).length = 0 := by omega
    have h4 := List.eq_nil_of_length_eq_zero this
    rw [h4] at h2
    exact (Dm.dg_nil _).1 h2.symm
  · intro e
    rw [e, Dm.dg_zero] at h2
    rw [h2] at h1
    simp at h1
    omega
set_option maxHeartbeats 800000 in
theorem sign_any (g : Bool) (v : Value) (s : Int) (L : List Int) (w : World) (hv : Lst w v L) (hl : L.length < 1000000) (hd : Dm.okD L) :
    Calls Tryz.prog 48 #[dv g v s] w fun e w' => e = .returned (.int .i64 (sg g (Dm.num L))) ∧ Q w w' := by
  obtain ⟨a, c, rfl⟩ := hv.shape
  have Z := Lib.hid (fun u (q : Q w u) => Dw.zeros_any _ L u (hv.q q) (by omega))
  have hz := zer_all L hd
  have hzl := Dm.zer_le L
  generalize Dm.zer L = z at *
  generalize L.length = n at *
  by_cases hM : Dm.num L = 0
  · have HE := Lib.hid (show sg g (Dm.num L) = 0 from by unfold sg; rw [if_pos hM])
    rw [HE.out]
    obtain rfl : z = n := hz.2 hM
    clear hv hz hzl HE hM
    go_enter Tryz.func48, Tryz.ntmps48
    unfold dv
    go_wp2_with fail
    go_quiet (first | (go_at_call 69; exact Calls.quiet_of_same ((Z.out _ (by first | exact (Q.refl w).alloc _ | exact ((Q.refl w).alloc _).drewN _)).mono fun _ _ h => ⟨h.1, h.2.symm⟩)) | fail)
    go_wp2_with fail
    go_ret
    exact ⟨rfl, ((Q.refl w).alloc _).drewN _⟩
  · have hzn : z < n := by
      rcases Nat.lt_or_ge z n with h | h
      · exact h
      · exact absurd (hz.1 (by omega)) hM
    have HE := Lib.hid (show sg g (Dm.num L) = if g = true then -1 else 1 from by unfold sg; rw [if_neg hM])
    rw [HE.out]
    have hne : ((z : Int) == (n : Int)) = false := beq_eq_false_iff_ne.2 (by omega)
    clear hv hz hzl HE hM
    cases g
    all_goals
      go_enter Tryz.func48, Tryz.ntmps48
      unfold dv
      go_wp2_with fail
      go_quiet (first | (go_at_call 69; exact Calls.quiet_of_same ((Z.out _ (by first | exact (Q.refl w).alloc _ | exact ((Q.refl w).alloc _).drewN _)).mono fun _ _ h => ⟨h.1, h.2.symm⟩)) | fail)
      go_wp2_with fail
      go_ret
      exact ⟨rfl, ((Q.refl w).alloc _).drewN _⟩
end Ep
end Go.Proofs.YtagpofhencpliaaGreatDoor
