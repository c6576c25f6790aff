/- What the document's own Add of decimals comes to, by a walk through it. (and more) -/
import Derived.Test.YtagpofhencpliaaGreatDoorR00
import Derived.Test.YtagpofhencpliaaGreatDoorR14
import Derived.Test.YtagpofhencpliaaGreatDoorR02
import Derived.Test.YtagpofhencpliaaGreatDoorR10
import Derived.Test.YtagpofhencpliaaGreatDoorR13
import Derived.Test.YtagpofhencpliaaGreatDoorR09
import Derived.Test.YtagpofhencpliaaGreatDoorR05
import Derived.Test.YtagpofhencpliaaGreatDoorR08
import Derived.Test.YtagpofhencpliaaGreatDoorR03
import Derived.Test.YtagpofhencpliaaGreatDoorRows
import Derived.Deep.QuietTactic
import Derived.Deep.RegionWith
import Derived.Deep.RegionHeld3
import Derived.BigQuiet
import Derived.Laws.ResultCell
set_option linter.unusedVariables false
set_option linter.unusedSimpArgs false
namespace Go.Proofs.YtagpofhencpliaaGreatDoor
open Go.RowKit
namespace Dm
def adG (g : Bool) (X : Nat) (h : Bool) (Y : Nat) : Bool := if g = h then g else if X < Y then h else g
def adM (g : Bool) (X : Nat) (h : Bool) (Y : Nat) : Nat := if g = h then X + Y else if X < Y then Y - X else X - Y
theorem ad_le (g : Bool) (X : Nat) (h : Bool) (Y : Nat) : adM g X h Y ≤ X + Y := by unfold adM; split <;> (try split) <;> omega
theorem ad_cases (g : Bool) (X : Nat) (h : Bool) (Y : Nat) : (g = true ∧ h = true ∧ true = adG g X h Y ∧ X + Y = adM g X h Y) ∨ (g = false ∧ h = false ∧ false = adG g X h Y ∧ X + Y = adM g X h Y) ∨
    (g = true ∧ h = false ∧ X < Y ∧ false = adG g X h Y ∧ Y - X = adM g X h Y) ∨ (g = false ∧ h = true ∧ X < Y ∧ true = adG g X h Y ∧ Y - X = adM g X h Y) ∨
    (g = true ∧ h = false ∧ Y ≤ X ∧ true = adG g X h Y ∧ X - Y = adM g X h Y) ∨ (g = false ∧ h = true ∧ Y ≤ X ∧ false = adG g X h Y ∧ X - Y = adM g X h Y) := by
  unfold adG adM
  by_cases hl : X < Y
  · have : ¬ Y ≤ X := by omega
    cases g <;> cases h <;> simp [hl]
  · have : Y ≤ X := by omega
    cases g <;> cases h <;> simp [hl, this]
end Dm
namespace Er
def SE (w : World) (g : Bool) (v : Value) (s : Int) (h : Bool) (x : Value) (t : Int) (u : World) : Prop :=
  u.cell? ⟨w.heap.size, 0, none⟩ = some (.bool g) ∧ (u.cell? ⟨w.heap.size, 1, none⟩ = some (v) ∧ (u.cell? ⟨w.heap.size, 2, none⟩ = some (.int .i64 s) ∧ (u.cell? ⟨w.heap.size + 1, 0, none⟩ = some (.bool h) ∧ (u.cell? ⟨w.heap.size + 1, 1, none⟩ = some (x) ∧ (u.cell? ⟨w.heap.size + 1, 2, none⟩ = some (.int .i64 t) ∧ (u.cell? ⟨w.heap.size + 2, 0, none⟩ = some (cellV (w.heap.size + 2) 0 u) ∧ (u.cell? ⟨w.heap.size + 2, 1, none⟩ = some (cellV (w.heap.size + 2) 1 u) ∧ (u.cell? ⟨w.heap.size + 2, 2, none⟩ = some (cellV (w.heap.size + 2) 2 u) ∧ (u.frozen? ⟨w.heap.size + 2, 0, none⟩ = false ∧ (u.frozen? ⟨w.heap.size + 2, 1, none⟩ = false ∧ (u.frozen? ⟨w.heap.size + 2, 2, none⟩ = false ∧ (u.heap[w.heap.size]? = some (.cells #[.bool g, v, .int .i64 s] 28) ∧ (u.heap[w.heap.size + 1]? = some (.cells #[.bool h, x, .int .i64 t] 28) ∧ ((∃ x y z, u.heap[w.heap.size + 2]? = some (.cells #[x, y, z] 28)) ∧ Q w u))))))))))))))
theorem SE.of {w u : World} {g h : Bool} {v x : Value} {s t : Int} (h0 : u.heap[w.heap.size]? = some (.cells #[.bool g, v, .int .i64 s] 28)) (h1 : u.heap[w.heap.size + 1]? = some (.cells #[.bool h, x, .int .i64 t] 28)) (h2 : ∃ x y z, u.heap[w.heap.size + 2]? = some (.cells #[x, y, z] 28)) (hq : Q w u) : SE w g v s h x t u := by
  obtain ⟨a0, a1, a2, _, _, _⟩ := block_cells h0
  obtain ⟨b0, b1, b2, _, _, _⟩ := block_cells h1
  obtain ⟨p, q, r, h2⟩ := h2
  obtain ⟨c0, c1, c2, c3, c4, c5⟩ := some_cells h2
  exact ⟨a0, a1, a2, b0, b1, b2, c0, c1, c2, c3, c4, c5, h0, h1, ⟨p, q, r, h2⟩, hq⟩
theorem SE.q {w u u' : World} {g h : Bool} {v x : Value} {s t : Int} (k : SE w g v s h x t u) (hq : Q u u') : SE w g v s h x t u' := by
  obtain ⟨_, _, _, _, _, _, _, _, _, _, _, _, h0, h1, ⟨p, q, r, h2⟩, h3⟩ := k
  exact SE.of ((hq.block (lt_of_block h0)).trans h0) ((hq.block (lt_of_block h1)).trans h1) ⟨p, q, r, (hq.block (lt_of_block h2)).trans h2⟩ (h3.trans hq)
theorem SE.start (w : World) (g : Bool) (v : Value) (s : Int) (h : Bool) (x : Value) (t : Int) : SE w g v s h x t (((w.alloc (.cells #[.bool g, v, .int .i64 s] 28)).alloc (.cells #[.bool h, x, .int .i64 t] 28)).alloc (.cells #[.bool false, .slice none 0 0, .int .i64 0] 28)) := by
  have e : ((w.alloc (.cells #[.bool g, v, .int .i64 s] 28)).alloc (.cells #[.bool h, x, .int .i64 t] 28)).heap.size = w.heap.size + 2 := by simp
  refine SE.of ?_ ?_ ⟨.bool false, .slice none 0 0, .int .i64 0, ?_⟩ ((((Q.refl w).alloc _).alloc _).alloc _)
  · exact (heap_alloc_old _ _ (by rw [e]; omega)).trans (heap_alloc2_old _ _ _)
  · exact (heap_alloc_old _ _ (by rw [e]; omega)).trans (heap_alloc2_new _ _ _)
  · have := heap_alloc_new ((w.alloc (.cells #[.bool g, v, .int .i64 s] 28)).alloc (.cells #[.bool h, x, .int .i64 t] 28)) (.cells #[.bool false, .slice none 0 0, .int .i64 0] 28)
    rwa [e] at this
theorem SE.room {w u : World} {g h : Bool} {v x : Value} {s t : Int} (k : SE w g v s h x t u) : w.heap.size + 3 ≤ u.heap.size := by
  obtain ⟨_, _, _, _, _, _, _, _, _, _, _, _, _, _, ⟨p, q, r, h2⟩, _⟩ := k
  exact lt_of_block h2
theorem SE.put {w u : World} {g h : Bool} {v x : Value} {s t : Int} (k : SE w g v s h x t u) (p q r : Value) : SE w g v s h x t (((u.setCell ⟨w.heap.size + 2, 0, none⟩ p).setCell ⟨w.heap.size + 2, 1, none⟩ q).setCell ⟨w.heap.size + 2, 2, none⟩ r) ∧
    (((u.setCell ⟨w.heap.size + 2, 0, none⟩ p).setCell ⟨w.heap.size + 2, 1, none⟩ q).setCell ⟨w.heap.size + 2, 2, none⟩ r).heap[w.heap.size + 2]? = some (.cells #[p, q, r] 28) := by
  obtain ⟨_, _, _, _, _, _, _, _, _, _, _, _, h0, h1, ⟨p0, q0, r0, h2⟩, h3⟩ := k
  have hb := block_set (x' := p) (y' := q) (z' := r) h2
  refine ⟨SE.of ?_ ?_ ⟨p, q, r, hb⟩ (((h3.setCell (ad := ⟨w.heap.size + 2, 0, none⟩) (by show w.heap.size ≤ w.heap.size + 2; omega) p).setCell (ad := ⟨w.heap.size + 2, 1, none⟩) (by show w.heap.size ≤ w.heap.size + 2; omega) q).setCell (ad := ⟨w.heap.size + 2, 2, none⟩) (by show w.heap.size ≤ w.heap.size + 2; omega) r), hb⟩
  · rw [heap_setCell_other _ ⟨w.heap.size + 2, 2, none⟩ _ r (by simp), heap_setCell_other _ ⟨w.heap.size + 2, 1, none⟩ _ q (by simp), heap_setCell_other _ ⟨w.heap.size + 2, 0, none⟩ _ p (by simp)]
    exact h0
  · rw [heap_setCell_other _ ⟨w.heap.size + 2, 2, none⟩ _ r (by simp), heap_setCell_other _ ⟨w.heap.size + 2, 1, none⟩ _ q (by simp), heap_setCell_other _ ⟨w.heap.size + 2, 0, none⟩ _ p (by simp)]
    exact h1
end Er
end Go.Proofs.YtagpofhencpliaaGreatDoor
namespace Go.Proofs.YtagpofhencpliaaGreatDoor
open Go.RowKit
namespace Er
set_option maxHeartbeats 3200000 in
theorem parts_any (g : Bool) (v : Value) (s : Nat) (L : List Int) (w : World) (hv : Lst w v L) (hl : L.length < 10000) (hd : Dm.okD L) (hs : s ≤ 1000) :
    Calls Tryz.prog 52 #[dv g v s] w fun e w' => ∃ x y, e = .returned (.tuple #[x, y]) ∧ Lst w' x (Dm.dg (Dm.num ((List.replicate (s - L.length) 0 ++ L).take (L.length - s)))) ∧ Lst w' y ((List.replicate (s - L.length) 0 ++ L).drop (L.length - s)) ∧ Q w w' := by
  obtain ⟨n, hn⟩ : ∃ n, n = L.length := ⟨_, rfl⟩
  obtain ⟨a, c, rfl⟩ := hv.shape
  rw [← hn] at hv hl ⊢
  have HV := Lib.hid (fun u (q : Q w u) => hv.q q)
  have HK := Lib.hid (fun u (q : Q (w.alloc (.cells #[.bool g, .slice a n c, .int .i64 s] 28)) u) => block_cells ((q.block (lt_of_block (heap_alloc_new w _))).trans (heap_alloc_new w _)))
  have HXL := Lib.hid hn
  have HD := Lib.hid hd
  have hol := Own.nil (w.alloc (.cells #[.bool g, .slice a n c, .int .i64 s] 28)) (w.heap.size + 1)
  have HOL := Lib.hid hol
  clear hv hn hd hol
  go_enter Tryz.func52, Tryz.ntmps52
  unfold dv
  go_wp2_with fail
  go_loopw [4, 5] (fun u t wr => ∃ j : Nat, t = .int .i64 (n + j : Nat) ∧ (j = 0 ∨ n + j ≤ s) ∧ Own wr (w.heap.size + 1) u (List.replicate j 0) ∧ Q (w.alloc (.cells #[.bool g, .slice a n c, .int .i64 s] 28)) wr) (fun _ t _ => s - (intOf t).toNat)
  case atStart => exact ⟨0, rfl, .inl rfl, by rw [List.replicate_zero]; exact HOL.out, Q.refl _⟩
  case round =>
    obtain ⟨j, rfl, hj, ho, hq⟩ := hrel
    obtain ⟨k0, k1, k2, _, _, _⟩ := HK.out wr hq
    by_cases hlt : n + j < s
    · have hB : w.heap.size + 1 ≤ wr.heap.size := by have := hq.le; rw [World.size_alloc] at this; omega
      have hlt2 : (n : Int) + (j : Int) < (s : Int) := by omega
      have HWL := Lib.hid (show (List.replicate j (0 : Int)).length < 1099511627776 from by rw [List.length_replicate]; omega)
      have HRS := Lib.hid (show List.replicate j (0 : Int) ++ [(0 : Int)] = List.replicate (j + 1) 0 from by rw [← List.replicate_succ'])
      go_wp2_with (at_builtin; refine push_int ho rfl _ _ rfl _ (by rfl) (by rfl) HWL.out hB ?_)
      intro v2 w3 ho2 hg3 hat3
      rw [HRS.out] at ho2
      have HO2 := Lib.hid ho2
      have HQ3 := Lib.hid (hq.grown hg3 (fun g h => (by rw [World.size_alloc]; exact (ho.lt g h).1)))
      clear ho ho2 hg3 hat3
      go_wp2_with fail
      exact ⟨⟨j + 1, by go_num, by omega, HO2.out, HQ3.out⟩, by simp [intOf]; omega⟩
    · have hj2 : s - n = j := by omega
      have hlt2 : (s : Int) ≤ (n : Int) + (j : Int) := by omega
      have hB : w.heap.size + 1 ≤ wr.heap.size := by have := hq.le; rw [World.size_alloc] at this; omega
      have HWL := Lib.hid (show (List.replicate j (0 : Int)).length + L.length < 1099511627776 from by rw [List.length_replicate, ← HXL.out]; omega)
      have HL := Lib.hid (HV.out wr (((Q.refl w).alloc _).trans hq))
      go_wp2_with (at_builtin; refine push_list ho HL.out rfl _ _ rfl (by rfl) (by rfl) HWL.out hB ?_)
      intro v2 w3 ho2 hg3 hat3
      have HQ3 := Lib.hid (hq.grown hg3 (fun g h => (by rw [World.size_alloc]; exact (ho.lt g h).1)))
      have hpl : (List.replicate j (0 : Int) ++ L).length = j + n := by rw [List.length_append, List.length_replicate, ← HXL.out]
      have hok : Dm.okD (List.replicate j (0 : Int) ++ L) := by
        rw [Dm.okD_append]
        refine ⟨fun d hd => ?_, HD.out⟩
        have := List.eq_of_mem_replicate hd
        omega
      obtain ⟨p, hp⟩ : ∃ p, p = j + n := ⟨_, rfl⟩
      rw [← hp] at hpl
      have hlst := ho2.lst
      obtain ⟨f, cc, rfl, hca, hcb⟩ := hlst.form0 hpl
      have HO := Lib.hid hlst
      unfold maxLen at hcb
      clear hlst
      obtain ⟨q, hqe⟩ : ∃ q, q = n - s := ⟨_, rfl⟩
      have hq1 : (p : Int) - (s : Int) = (q : Int) := by omega
      have hqp : q ≤ p := by omega
      have HE := Lib.hid (show s - n = j ∧ n - s = q from ⟨hj2, hqe.symm⟩)
      generalize hPe : List.replicate j (0 : Int) ++ L = P at *
      have HP := Lib.hid hPe
      clear hPe
      have TR := Lib.hid (fun u (h : Q w3 u ∧ True) => (by
        have ht := (HO.out.q h.1).take q (by omega)
        have hok2 : Dm.okD (P.take q) := fun d hd => hok d (List.mem_of_mem_take hd)
        have htr := Dm.trim_eq (P.take q) hok2
        refine (Dr.trim_any _ _ u ht (by rw [List.length_take]; omega)).mono ?_
        rintro e w' ⟨x, rfl, ho, hq⟩
        rw [htr] at ho
        obtain ⟨e1, e2, rfl⟩ := ho.shape
        exact ⟨e1, e2, rfl, ho.lst, h.1.trans hq, trivial⟩ : Calls Tryz.prog 53 #[.slice f q cc] u fun e w' => ∃ e1 e2, e = .returned (.slice e1 (Dm.dg (Dm.num (P.take q))).length e2) ∧ Lst w' (.slice e1 (Dm.dg (Dm.num (P.take q))).length e2) (Dm.dg (Dm.num (P.take q))) ∧ (Q w3 w' ∧ True)))
      obtain ⟨k0, k1, k2, _, _, _⟩ := HK.out w3 HQ3.out
      have HR := Lib.hid (HO.out.rest hpl hqp)
      have HRU := Lib.hid (fun u (h : Q w3 u) => (HO.out.q h).rest hpl hqp)
      generalize hYe : Dm.dg (Dm.num (P.take q)) = Y at *
      have HY := Lib.hid hYe
      clear hYe
      generalize Y.length = r at *
      clear ho ho2 hg3 hat3 hq hj hj2 hlt hlt2 hp hpl hok hqe
      have hst : Q w3 w3.drew ∧ True := ⟨(Q.refl _).drew, trivial⟩
      have hst0 : Q w3 w3 ∧ True := ⟨Q.refl _, trivial⟩
      have hcq : (q : Int) ≤ (cc : Int) := by omega
      have hcp : (p : Int) ≤ (cc : Int) := by omega
      rcases HR.out with ⟨gg, off, rfl, hz, hnc, hcm, hrl⟩ | ⟨rfl, rfl, hrl⟩ | ⟨ad, rfl, rfl, hnc, hcm, hrl⟩
      · go_wp2_with fail
        go_region_held3 (fun u => Q w3 u ∧ True) (first | exact hst | exact hst0 | assumption) (first | (go_at_call 53; refine (TR.out _ ?_).mono ?_; assumption; rintro e z4 ⟨x1, x2, rfl, hlt4, hS⟩))
        have HQ4 := Lib.hid ((((Q.refl w).alloc _).trans HQ3.out).trans hS.1)
        have HL4 := Lib.hid hlt4
        have hq4 := hS.1
        have HR4 := Lib.hid (hrl.q hq4)
        clear hst hst0 hq4 hlt4 hS
        go_wp2_with fail
        go_ret2
        rw [HE.out.1, HE.out.2, HP.out, HY.out]
        exact ⟨_, _, rfl, HL4.out, HR4.out, HQ4.out⟩
      · go_wp2_with fail
        go_region_held3 (fun u => Q w3 u ∧ True) (first | exact hst | exact hst0 | assumption) (first | (go_at_call 53; refine (TR.out _ ?_).mono ?_; assumption; rintro e z4 ⟨x1, x2, rfl, hlt4, hS⟩))
        have HQ4 := Lib.hid ((((Q.refl w).alloc _).trans HQ3.out).trans hS.1)
        have HL4 := Lib.hid hlt4
        have hq4 := hS.1
        have HR4 := Lib.hid hrl
        clear hst hst0 hq4 hlt4 hS
        go_wp2_with fail
        go_ret2
        rw [HE.out.1, HE.out.2, HP.out, HY.out]
        exact ⟨_, _, rfl, HL4.out, by rw [HR4.out]; exact .nil _ _ _ (by unfold maxLen; omega) (by intro h; omega), HQ4.out⟩
      · go_wp2_with fail
        go_region_held3 (fun u => Q w3 u ∧ True) (first | exact hst | exact hst0 | assumption) (first | (go_at_call 53; refine (TR.out _ ?_).mono ?_; assumption; rintro e z4 ⟨x1, x2, rfl, hlt4, hS⟩))
        have HQ4 := Lib.hid ((((Q.refl w).alloc _).trans HQ3.out).trans hS.1)
        have HL4 := Lib.hid hlt4
        have hq4 := hS.1
        have HR4 := Lib.hid hrl
        clear hst hst0 hq4 hlt4 hS
        go_wp2_with fail
        go_ret2
        rw [HE.out.1, HE.out.2, HP.out, HY.out]
        exact ⟨_, _, rfl, HL4.out, by rw [HR4.out]; exact .nil _ _ _ (by unfold maxLen; omega) (by intro h; cases h), HQ4.out⟩
end Er
end Go.Proofs.YtagpofhencpliaaGreatDoor
namespace Go.Proofs.YtagpofhencpliaaGreatDoor
open Go.RowKit
namespace Er
def SA (w : World) (T : Nat) (g : Bool) (v : Value) (s : Int) (u : World) : Prop :=
  u.cell? ⟨T, 0, none⟩ = some (.bool g) ∧ (u.cell? ⟨T, 1, none⟩ = some (v) ∧ (u.cell? ⟨T, 2, none⟩ = some (.int .i64 s) ∧ (u.cell? ⟨w.heap.size + 1, 0, none⟩ = some (cellV (w.heap.size + 1) 0 u) ∧ (u.cell? ⟨w.heap.size + 1, 1, none⟩ = some (cellV (w.heap.size + 1) 1 u) ∧ (u.cell? ⟨w.heap.size + 1, 2, none⟩ = some (cellV (w.heap.size + 1) 2 u) ∧ (u.frozen? ⟨w.heap.size + 1, 0, none⟩ = false ∧ (u.frozen? ⟨w.heap.size + 1, 1, none⟩ = false ∧ (u.frozen? ⟨w.heap.size + 1, 2, none⟩ = false ∧ (u.heap[T]? = some (.cells #[.bool g, v, .int .i64 s] 28) ∧ ((∃ x y z, u.heap[w.heap.size + 1]? = some (.cells #[x, y, z] 28)) ∧ (w.heap.size + 2 ≤ T ∧ Q w u)))))))))))
theorem SA.of {w u : World} {T : Nat} {g : Bool} {v : Value} {s : Int} (h0 : u.heap[T]? = some (.cells #[.bool g, v, .int .i64 s] 28)) (h1 : ∃ x y z, u.heap[w.heap.size + 1]? = some (.cells #[x, y, z] 28)) (hT : w.heap.size + 2 ≤ T) (hq : Q w u) : SA w T g v s u := by
  obtain ⟨a0, a1, a2, _, _, _⟩ := block_cells h0
  obtain ⟨x, y, z, h1⟩ := h1
  obtain ⟨b0, b1, b2, b3, b4, b5⟩ := some_cells h1
  exact ⟨a0, a1, a2, b0, b1, b2, b3, b4, b5, h0, ⟨x, y, z, h1⟩, hT, hq⟩
theorem SA.q {w u u' : World} {T : Nat} {g : Bool} {v : Value} {s : Int} (h : SA w T g v s u) (hq : Q u u') : SA w T g v s u' := by
  obtain ⟨_, _, _, _, _, _, _, _, _, h0, ⟨x, y, z, h1⟩, hT, h2⟩ := h
  exact SA.of ((hq.block (lt_of_block h0)).trans h0) ⟨x, y, z, (hq.block (lt_of_block h1)).trans h1⟩ hT (h2.trans hq)
theorem SA.start {w z : World} {g0 : Bool} {v0 : Value} {s0 : Int} (h : SD w g0 v0 s0 z) (g : Bool) (v : Value) (s : Int) : SA w z.heap.size g v s (z.alloc (.cells #[.bool g, v, .int .i64 s] 28)) := by
  have hr := h.room
  have h' := h.q ((Q.refl z).alloc (.cells #[.bool g, v, .int .i64 s] 28))
  obtain ⟨_, _, _, _, _, _, _, _, _, _, h1, h2⟩ := h'
  exact SA.of (heap_alloc_new z _) h1 hr h2
theorem SA.room {w u : World} {T : Nat} {g : Bool} {v : Value} {s : Int} (h : SA w T g v s u) : w.heap.size + 2 ≤ u.heap.size := by
  obtain ⟨_, _, _, _, _, _, _, _, _, _, ⟨x, y, z, h1⟩, _⟩ := h
  exact lt_of_block h1
theorem SA.put {w u : World} {T : Nat} {g : Bool} {v : Value} {s : Int} (h : SA w T g v s u) (x y z : Value) : SA w T g v s (((u.setCell ⟨w.heap.size + 1, 0, none⟩ x).setCell ⟨w.heap.size + 1, 1, none⟩ y).setCell ⟨w.heap.size + 1, 2, none⟩ z) ∧
    (((u.setCell ⟨w.heap.size + 1, 0, none⟩ x).setCell ⟨w.heap.size + 1, 1, none⟩ y).setCell ⟨w.heap.size + 1, 2, none⟩ z).heap[w.heap.size + 1]? = some (.cells #[x, y, z] 28) := by
  obtain ⟨_, _, _, _, _, _, _, _, _, h0, ⟨x0, y0, z0, h1⟩, hT, h2⟩ := h
  have hb := block_set (x' := x) (y' := y) (z' := z) h1
  refine ⟨SA.of ?_ ⟨x, y, z, hb⟩ hT (((h2.setCell (ad := ⟨w.heap.size + 1, 0, none⟩) (Nat.le_succ _) x).setCell (ad := ⟨w.heap.size + 1, 1, none⟩) (Nat.le_succ _) y).setCell (ad := ⟨w.heap.size + 1, 2, none⟩) (Nat.le_succ _) z), hb⟩
  rw [heap_setCell_other _ ⟨w.heap.size + 1, 2, none⟩ _ z (by show T ≠ w.heap.size + 1; omega), heap_setCell_other _ ⟨w.heap.size + 1, 1, none⟩ _ y (by show T ≠ w.heap.size + 1; omega), heap_setCell_other _ ⟨w.heap.size + 1, 0, none⟩ _ x (by show T ≠ w.heap.size + 1; omega)]
  exact h0
end Er
end Go.Proofs.YtagpofhencpliaaGreatDoor
namespace Go.Proofs.YtagpofhencpliaaGreatDoor
open Go.RowKit
namespace Rr
open Er (dv cellV LF LF.of LF.nil LF.mono LF.q LF.put LF.shape LF.lst block_cells some_cells block_set wrapI SD SD.q SD.put SD.start ret_dv ret_dv2 trim_sh)
theorem heap_three (w : World) (p q r : Obj) : (((w.alloc p).alloc q).alloc r).heap[w.heap.size]? = some p ∧ (((w.alloc p).alloc q).alloc r).heap[w.heap.size + 1]? = some q ∧ (((w.alloc p).alloc q).alloc r).heap[w.heap.size + 1 + 1]? = some r := by
  have e : ((w.alloc p).alloc q).heap.size = w.heap.size + 1 + 1 := by simp
  refine ⟨(heap_alloc_old _ _ (by rw [e]; omega)).trans (heap_alloc2_old _ _ _), (heap_alloc_old _ _ (by rw [e]; omega)).trans (heap_alloc2_new _ _ _), ?_⟩
  have := heap_alloc_new ((w.alloc p).alloc q) r
  rwa [e] at this
theorem heap_four (w : World) (p q r o : Obj) : ((((w.alloc p).alloc q).alloc r).alloc o).heap[w.heap.size]? = some p ∧ ((((w.alloc p).alloc q).alloc r).alloc o).heap[w.heap.size + 1]? = some q ∧ ((((w.alloc p).alloc q).alloc r).alloc o).heap[w.heap.size + 1 + 1]? = some r ∧ ((((w.alloc p).alloc q).alloc r).alloc o).heap[w.heap.size + 1 + 1 + 1]? = some o := by
  have e : (((w.alloc p).alloc q).alloc r).heap.size = w.heap.size + 1 + 1 + 1 := by simp
  have h := heap_three w p q r
  refine ⟨(heap_alloc_old _ _ (by rw [e]; omega)).trans h.1, (heap_alloc_old _ _ (by rw [e]; omega)).trans h.2.1, (heap_alloc_old _ _ (by rw [e]; omega)).trans h.2.2, ?_⟩
  have := heap_alloc_new (((w.alloc p).alloc q).alloc r) o
  rwa [e] at this
end Rr
end Go.Proofs.YtagpofhencpliaaGreatDoor
