/- What the program's Add of decimals comes to, by a walk through it. (and more) -/
import Derived.Test.YtagpofhencpliaaGreatDoorR00
import Derived.Test.YtagpofhencpliaaGreatDoorR19
import Derived.Test.YtagpofhencpliaaGreatDoorR14
import Derived.Test.YtagpofhencpliaaGreatDoorR02
import Derived.Test.YtagpofhencpliaaGreatDoorR15
import Derived.Test.YtagpofhencpliaaGreatDoorR20
import Derived.Test.YtagpofhencpliaaGreatDoorR10
import Derived.Test.YtagpofhencpliaaGreatDoorR13
import Derived.Test.YtagpofhencpliaaGreatDoorR17
import Derived.Test.YtagpofhencpliaaGreatDoorR07
import Derived.Test.YtagpofhencpliaaGreatDoorR04
import Derived.Test.YtagpofhencpliaaGreatDoorR11
import Derived.Test.YtagpofhencpliaaGreatDoorR03
import Derived.Test.YtagpofhencpliaaGreatDoorRows
import Derived.Deep.QuietTactic
import Derived.Deep.RegionWith
import Derived.Deep.RegionHeld3
import Derived.BigQuiet
import Derived.Laws.ResultCell
set_option linter.unusedVariables false
set_option linter.unusedSimpArgs false
namespace Go.Proofs.YtagpofhencpliaaGreatDoor
open Go.RowKit
namespace Ep
open Er (dv cellV LF LF.of LF.nil LF.mono LF.q LF.put LF.shape LF.lst block_cells some_cells block_set wrapI num_shl okD_shl)
def SE (w : World) (g : Bool) (v : Value) (s : Int) (h : Bool) (x : Value) (t : Int) (u : World) : Prop :=
  u.cell? ⟨w.heap.size, 0, none⟩ = some (.bool g) ∧ (u.cell? ⟨w.heap.size, 1, none⟩ = some (v) ∧ (u.cell? ⟨w.heap.size, 2, none⟩ = some (.int .i64 s) ∧ (u.cell? ⟨w.heap.size + 1, 0, none⟩ = some (.bool h) ∧ (u.cell? ⟨w.heap.size + 1, 1, none⟩ = some (x) ∧ (u.cell? ⟨w.heap.size + 1, 2, none⟩ = some (.int .i64 t) ∧ (u.cell? ⟨w.heap.size + 2, 0, none⟩ = some (cellV (w.heap.size + 2) 0 u) ∧ (u.cell? ⟨w.heap.size + 2, 1, none⟩ = some (cellV (w.heap.size + 2) 1 u) ∧ (u.cell? ⟨w.heap.size + 2, 2, none⟩ = some (cellV (w.heap.size + 2) 2 u) ∧ (u.frozen? ⟨w.heap.size + 2, 0, none⟩ = false ∧ (u.frozen? ⟨w.heap.size + 2, 1, none⟩ = false ∧ (u.frozen? ⟨w.heap.size + 2, 2, none⟩ = false ∧ (u.heap[w.heap.size]? = some (.cells #[.bool g, v, .int .i64 s] 36) ∧ (u.heap[w.heap.size + 1]? = some (.cells #[.bool h, x, .int .i64 t] 36) ∧ ((∃ x y z, u.heap[w.heap.size + 2]? = some (.cells #[x, y, z] 36)) ∧ Q w u))))))))))))))
theorem SE.of {w u : World} {g h : Bool} {v x : Value} {s t : Int} (h0 : u.heap[w.heap.size]? = some (.cells #[.bool g, v, .int .i64 s] 36)) (h1 : u.heap[w.heap.size + 1]? = some (.cells #[.bool h, x, .int .i64 t] 36)) (h2 : ∃ x y z, u.heap[w.heap.size + 2]? = some (.cells #[x, y, z] 36)) (hq : Q w u) : SE w g v s h x t u := by
  obtain ⟨a0, a1, a2, _, _, _⟩ := block_cells h0
  obtain ⟨b0, b1, b2, _, _, _⟩ := block_cells h1
  obtain ⟨p, q, r, h2⟩ := h2
  obtain ⟨c0, c1, c2, c3, c4, c5⟩ := some_cells h2
  exact ⟨a0, a1, a2, b0, b1, b2, c0, c1, c2, c3, c4, c5, h0, h1, ⟨p, q, r, h2⟩, hq⟩
theorem SE.q {w u u' : World} {g h : Bool} {v x : Value} {s t : Int} (k : SE w g v s h x t u) (hq : Q u u') : SE w g v s h x t u' := by
  obtain ⟨_, _, _, _, _, _, _, _, _, _, _, _, h0, h1, ⟨p, q, r, h2⟩, h3⟩ := k
  exact SE.of ((hq.block (lt_of_block h0)).trans h0) ((hq.block (lt_of_block h1)).trans h1) ⟨p, q, r, (hq.block (lt_of_block h2)).trans h2⟩ (h3.trans hq)
theorem SE.start (w : World) (g : Bool) (v : Value) (s : Int) (h : Bool) (x : Value) (t : Int) : SE w g v s h x t (((w.alloc (.cells #[.bool g, v, .int .i64 s] 36)).alloc (.cells #[.bool h, x, .int .i64 t] 36)).alloc (.cells #[.bool false, .slice none 0 0, .int .i64 0] 36)) := by
  have e : ((w.alloc (.cells #[.bool g, v, .int .i64 s] 36)).alloc (.cells #[.bool h, x, .int .i64 t] 36)).heap.size = w.heap.size + 2 := by simp
  refine SE.of ?_ ?_ ⟨.bool false, .slice none 0 0, .int .i64 0, ?_⟩ ((((Q.refl w).alloc _).alloc _).alloc _)
  · exact (heap_alloc_old _ _ (by rw [e]; omega)).trans (heap_alloc2_old _ _ _)
  · exact (heap_alloc_old _ _ (by rw [e]; omega)).trans (heap_alloc2_new _ _ _)
  · have := heap_alloc_new ((w.alloc (.cells #[.bool g, v, .int .i64 s] 36)).alloc (.cells #[.bool h, x, .int .i64 t] 36)) (.cells #[.bool false, .slice none 0 0, .int .i64 0] 36)
    rwa [e] at this
theorem SE.room {w u : World} {g h : Bool} {v x : Value} {s t : Int} (k : SE w g v s h x t u) : w.heap.size + 3 ≤ u.heap.size := by
  obtain ⟨_, _, _, _, _, _, _, _, _, _, _, _, _, _, ⟨p, q, r, h2⟩, _⟩ := k
  exact lt_of_block h2
theorem SE.put {w u : World} {g h : Bool} {v x : Value} {s t : Int} (k : SE w g v s h x t u) (p q r : Value) : SE w g v s h x t (((u.setCell ⟨w.heap.size + 2, 0, none⟩ p).setCell ⟨w.heap.size + 2, 1, none⟩ q).setCell ⟨w.heap.size + 2, 2, none⟩ r) ∧
    (((u.setCell ⟨w.heap.size + 2, 0, none⟩ p).setCell ⟨w.heap.size + 2, 1, none⟩ q).setCell ⟨w.heap.size + 2, 2, none⟩ r).heap[w.heap.size + 2]? = some (.cells #[p, q, r] 36) := by
  obtain ⟨_, _, _, _, _, _, _, _, _, _, _, _, h0, h1, ⟨p0, q0, r0, h2⟩, h3⟩ := k
  have hb := block_set (x' := p) (y' := q) (z' := r) h2
  refine ⟨SE.of ?_ ?_ ⟨p, q, r, hb⟩ (((h3.setCell (ad := ⟨w.heap.size + 2, 0, none⟩) (by show w.heap.size ≤ w.heap.size + 2; omega) p).setCell (ad := ⟨w.heap.size + 2, 1, none⟩) (by show w.heap.size ≤ w.heap.size + 2; omega) q).setCell (ad := ⟨w.heap.size + 2, 2, none⟩) (by show w.heap.size ≤ w.heap.size + 2; omega) r), hb⟩
  · rw [heap_setCell_other _ ⟨w.heap.size + 2, 2, none⟩ _ r (by simp), heap_setCell_other _ ⟨w.heap.size + 2, 1, none⟩ _ q (by simp), heap_setCell_other _ ⟨w.heap.size + 2, 0, none⟩ _ p (by simp)]
    exact h0
  · rw [heap_setCell_other _ ⟨w.heap.size + 2, 2, none⟩ _ r (by simp), heap_setCell_other _ ⟨w.heap.size + 2, 1, none⟩ _ q (by simp), heap_setCell_other _ ⟨w.heap.size + 2, 0, none⟩ _ p (by simp)]
    exact h1
theorem SE.here {w u : World} {g h : Bool} {v x : Value} {s t : Int} (k : SE w g v s h x t u) : Q w u := by
  obtain ⟨_, _, _, _, _, _, _, _, _, _, _, _, _, _, _, hq⟩ := k
  exact hq
set_option maxHeartbeats 6400000 in
theorem add_at (g h : Bool) (va vb : Value) (s t r : Nat) (xs ys : List Int) (w : World) (hv : Lst w va xs) (hu : Lst w vb ys) (hl : xs.length < 10000) (hl2 : ys.length < 10000) (hx : Dm.okD xs) (hy : Dm.okD ys) (hs : s ≤ 1000) (ht : t ≤ 1000) (hr : r = max s t) :
    Calls Tryz.prog 62 #[dv g va s, dv h vb t] w fun e w' => ∃ u, e = .returned (.tuple #[dv (Dm.cg (Dm.adG g (Dm.num xs * 10 ^ (r - s)) h (Dm.num ys * 10 ^ (r - t))) (Dm.adM g (Dm.num xs * 10 ^ (r - s)) h (Dm.num ys * 10 ^ (r - t)))) u ((Dm.st (Dm.adM g (Dm.num xs * 10 ^ (r - s)) h (Dm.num ys * 10 ^ (r - t))) r).2 : Nat), .int .i64 0]) ∧ LF w' (w.heap.size + 3) u (Dm.dg (Dm.st (Dm.adM g (Dm.num xs * 10 ^ (r - s)) h (Dm.num ys * 10 ^ (r - t))) r).1) ∧ Q w w' := by
  obtain ⟨a, c, rfl⟩ := hv.shape
  obtain ⟨b, d, rfl⟩ := hu.shape
  have hokx := (Dm.okB_iff xs).2 hx
  have hoky := (Dm.okB_iff ys).2 hy
  have MA := Lib.hid (fun u (k : SE w g (.slice a xs.length c) s h (.slice b ys.length d) t u) => (by
    have e := may_any g (.slice a xs.length c) s xs u (hv.q k.here) (by omega) (by omega)
    rw [hokx, show decide (0 ≤ (s : Int)) = true from by simp, show decide ((s : Int) ≤ 1000) = true from by simp; omega] at e
    refine e.mono ?_
    rintro e w' ⟨rfl, hq⟩
    exact ⟨rfl, k.q hq⟩ : Calls Tryz.prog 47 #[.agg #[.bool g, .slice a xs.length c, .int .i64 s]] u fun e w' => e = .returned (.bool true) ∧ SE w g (.slice a xs.length c) s h (.slice b ys.length d) t w'))
  have MB := Lib.hid (fun u (k : SE w g (.slice a xs.length c) s h (.slice b ys.length d) t u) => (by
    have e := may_any h (.slice b ys.length d) t ys u (hu.q k.here) (by omega) (by omega)
    rw [hoky, show decide (0 ≤ (t : Int)) = true from by simp, show decide ((t : Int) ≤ 1000) = true from by simp; omega] at e
    refine e.mono ?_
    rintro e w' ⟨rfl, hq⟩
    exact ⟨rfl, k.q hq⟩ : Calls Tryz.prog 47 #[.agg #[.bool h, .slice b ys.length d, .int .i64 t]] u fun e w' => e = .returned (.bool true) ∧ SE w g (.slice a xs.length c) s h (.slice b ys.length d) t w'))
  have LV := Lib.hid (fun u (k : SE w g (.slice a xs.length c) s h (.slice b ys.length d) t u) => (by
    refine (level_any g h _ _ s t r xs ys u (hv.q k.here) (hu.q k.here) (by omega) (by omega) hs ht hr).mono ?_
    rintro e w' ⟨x, y, rfl, h1, h2, hq⟩
    exact ⟨x, y, rfl, h1, h2, k.q hq⟩ : Calls Tryz.prog 50 #[.agg #[.bool g, .slice a xs.length c, .int .i64 s], .agg #[.bool h, .slice b ys.length d, .int .i64 t]] u fun e w' => ∃ x y, e = .returned (.tuple #[x, y, .int .i64 (r : Int)]) ∧ Lst w' x (xs ++ List.replicate (r - s) 0) ∧ Lst w' y (ys ++ List.replicate (r - t) 0) ∧ SE w g (.slice a xs.length c) s h (.slice b ys.length d) t w'))
  have hX : (xs ++ List.replicate (r - s) 0).length < 20000 := by rw [List.length_append, List.length_replicate]; omega
  have hY : (ys ++ List.replicate (r - t) 0).length < 20000 := by rw [List.length_append, List.length_replicate]; omega
  have kX : Dm.okD (xs ++ List.replicate (r - s) 0) := by rw [Dm.okD_append]; exact ⟨hx, fun d hd => by have := List.eq_of_mem_replicate hd; omega⟩
  have kY : Dm.okD (ys ++ List.replicate (r - t) 0) := by rw [Dm.okD_append]; exact ⟨hy, fun d hd => by have := List.eq_of_mem_replicate hd; omega⟩
  have nX := Dm.num_zeros xs (r - s)
  have nY := Dm.num_zeros ys (r - t)
  generalize Dm.num xs * 10 ^ (r - s) = A at *
  generalize Dm.num ys * 10 ^ (r - t) = B at *
  generalize xs ++ List.replicate (r - s) 0 = X at *
  generalize ys ++ List.replicate (r - t) 0 = Y at *
  obtain ⟨E, hE⟩ : ∃ E, E = 20000 := ⟨_, rfl⟩
  have hAB : A < 10 ^ E ∧ B < 10 ^ E := by
    have h1 := Dm.num_lt _ kX
    have h2 := Dm.num_lt _ kY
    rw [nX] at h1
    rw [nY] at h2
    exact ⟨Nat.lt_of_lt_of_le h1 (Nat.pow_le_pow_right (by omega) (by omega)), Nat.lt_of_lt_of_le h2 (Nat.pow_le_pow_right (by omega) (by omega))⟩
  have hdl : ∀ M, M ≤ A + B → (Dm.dg M).length < 1000000 := by
    intro M hM
    have h1 : M < 10 ^ (E + 1) := by
      rw [Nat.pow_succ]
      generalize 10 ^ E = P at *
      omega
    have := Dm.dg_len_lt M (E + 1) h1
    omega
  clear hAB
  have SM := Lib.hid (fun u x y (h1 : Lst u x X) (h2 : Lst u y Y) (k : SE w g (.slice a xs.length c) s h (.slice b ys.length d) t u) => (by
    have e := Dw.sum_two h1 h2 (by omega) (by omega) kX kY
    rw [nX, nY] at e
    refine e.mono ?_
    rintro e w' ⟨z, rfl, hz, hq⟩
    exact ⟨z, rfl, hz, k.q hq⟩ : Calls Tryz.prog 80 #[.slice (some ⟨u.heap.size, 0, none⟩) 2 2] (u.alloc (.cells #[x, y] 26)) fun e w' => ∃ z, e = .returned (.tuple #[z, .int .i64 0]) ∧ Lst w' z (Dm.dg (A + B)) ∧ SE w g (.slice a xs.length c) s h (.slice b ys.length d) t w'))
  have CC := Lib.hid (fun u x y (h1 : Lst u x X) (h2 : Lst u y Y) (k : SE w g (.slice a xs.length c) s h (.slice b ys.length d) t u) => (by
    have e := Dw.compare_any x y _ _ u h1 h2 (by omega) (by omega) kX kY
    rw [nX, nY] at e
    refine e.mono ?_
    rintro e w' ⟨rfl, hq⟩
    exact ⟨rfl, h1.q hq, h2.q hq, k.q hq⟩ : Calls Tryz.prog 51 #[x, y] u fun e w' => e = .returned (.int .i64 (Dm.cmpZ (A : Int) (B : Int))) ∧ Lst w' x X ∧ Lst w' y Y ∧ SE w g (.slice a xs.length c) s h (.slice b ys.length d) t w'))
  have SUL := Lib.hid (fun u x y (h1 : Lst u x X) (h2 : Lst u y Y) (hle : A ≤ B) (k : SE w g (.slice a xs.length c) s h (.slice b ys.length d) t u) => (by
    have e := Dw.sub_any y x _ _ u h2 h1 (by omega) (by omega) kY kX (by rw [nX, nY]; exact hle)
    rw [nX, nY] at e
    refine e.mono ?_
    rintro e w' ⟨z, rfl, hz, hq⟩
    exact ⟨z, rfl, hz, k.q hq⟩ : Calls Tryz.prog 81 #[y, x] u fun e w' => ∃ z, e = .returned (.tuple #[z, .int .i64 0]) ∧ Lst w' z (Dm.dg (B - A)) ∧ SE w g (.slice a xs.length c) s h (.slice b ys.length d) t w'))
  have SUG := Lib.hid (fun u x y (h1 : Lst u x X) (h2 : Lst u y Y) (hle : B ≤ A) (k : SE w g (.slice a xs.length c) s h (.slice b ys.length d) t u) => (by
    have e := Dw.sub_any x y _ _ u h1 h2 (by omega) (by omega) kX kY (by rw [nX, nY]; exact hle)
    rw [nX, nY] at e
    refine e.mono ?_
    rintro e w' ⟨z, rfl, hz, hq⟩
    exact ⟨z, rfl, hz, k.q hq⟩ : Calls Tryz.prog 81 #[x, y] u fun e w' => ∃ z, e = .returned (.tuple #[z, .int .i64 0]) ∧ Lst w' z (Dm.dg (A - B)) ∧ SE w g (.slice a xs.length c) s h (.slice b ys.length d) t w'))
  have hca := Dm.ad_cases g A h B
  have hle := Dm.ad_le g A h B
  generalize Dm.adG g A h B = G at *
  generalize Dm.adM g A h B = M at *
  have TR := Lib.hid (fun u v (h1 : Lst u v (Dm.dg M)) (k : SE w g (.slice a xs.length c) s h (.slice b ys.length d) t u) => (by
    have e := trim_any G v r (Dm.dg M) u h1 (by have := hdl M hle; omega) (Dm.okD_dg _) (by omega)
    rw [Dm.num_dg] at e
    refine e.mono ?_
    rintro e w' ⟨x, rfl, ho, hq⟩
    obtain ⟨ya, yc, rfl⟩ := ho.shape
    exact ⟨ya, yc, rfl, ho.mono (by have := k.room; omega), k.q hq⟩ : Calls Tryz.prog 44 #[.agg #[.bool G, v, .int .i64 (r : Int)]] u fun e w' => ∃ ya yc, e = .returned (.agg #[.bool (Dm.cg G M), .slice ya (Dm.dg (Dm.st M r).1).length yc, .int .i64 ((Dm.st M r).2 : Nat)]) ∧ LF w' (w.heap.size + 3) (.slice ya (Dm.dg (Dm.st M r).1).length yc) (Dm.dg (Dm.st M r).1) ∧ SE w g (.slice a xs.length c) s h (.slice b ys.length d) t w'))
  have HS := Lib.hid (SE.start w g (.slice a xs.length c) s h (.slice b ys.length d) t)
  have PUT := Lib.hid (fun u (k : SE w g (.slice a xs.length c) s h (.slice b ys.length d) t u) x y z => k.put x y z)
  generalize Dm.cg G M = cs at *
  generalize Dm.dg (Dm.st M r).1 = Z at *
  generalize (Dm.st M r).2 = zs at *
  generalize Z.length = p at *
  generalize xs.length = n at *
  generalize ys.length = m at *
  clear hv hu hokx hoky hX hY kX kY nX nY hr hx hy hdl hle
  go_enter Tryz.func62, Tryz.ntmps62
  unfold dv
  go_wp2_with fail
  refine (MA.out _ HS.out).mono ?_
  rintro e w1 ⟨rfl, hS⟩
  have HS1 := Lib.hid hS
  unfold SE at hS
  obtain ⟨a0, a1, a2, b0, b1, b2, c0, c1, c2, c3, c4, c5, _, _, _, _⟩ := hS
  go_wp2_with fail
  refine (MB.out _ HS1.out).mono ?_
  rintro e w2 ⟨rfl, hS⟩
  have HS2 := Lib.hid hS
  clear a0 a1 a2 b0 b1 b2 c0 c1 c2 c3 c4 c5
  unfold SE at hS
  obtain ⟨a0, a1, a2, b0, b1, b2, c0, c1, c2, c3, c4, c5, _, _, _, _⟩ := hS
  go_wp2_with fail
  refine (LV.out _ HS2.out).mono ?_
  rintro e w3 ⟨x, y, rfl, hx, hy, hS⟩
  obtain ⟨xa, xc, rfl⟩ := hx.shape
  obtain ⟨ya0, yc0, rfl⟩ := hy.shape
  generalize X.length = lx at *
  generalize Y.length = ly at *
  have HX := Lib.hid hx
  have HY := Lib.hid hy
  have HS3 := Lib.hid hS
  clear a0 a1 a2 b0 b1 b2 c0 c1 c2 c3 c4 c5 hx hy
  unfold SE at hS
  obtain ⟨a0, a1, a2, b0, b1, b2, c0, c1, c2, c3, c4, c5, _, _, _, _⟩ := hS
  rcases hca with ⟨rfl, rfl, rfl, rfl⟩ | ⟨rfl, rfl, rfl, rfl⟩ | ⟨rfl, rfl, hlt, rfl, rfl⟩ | ⟨rfl, rfl, hlt, rfl, rfl⟩ | ⟨rfl, rfl, hlt, rfl, rfl⟩ | ⟨rfl, rfl, hlt, rfl, rfl⟩
  · go_wp2_with fail
    refine (SM.out _ _ _ HX.out HY.out HS3.out).mono ?_
    clear a0 a1 a2 b0 b1 b2 c0 c1 c2 c3 c4 c5
    rintro e w5 ⟨z, rfl, hz, hS⟩
    obtain ⟨za, zc, rfl⟩ := hz.shape
    generalize List.length _ = zl at *
    have HZ := Lib.hid hz
    have HS5 := Lib.hid hS
    clear hz
    unfold SE at hS
    obtain ⟨a0, a1, a2, b0, b1, b2, c0, c1, c2, c3, c4, c5, _, _, _, _⟩ := hS
    go_wp2_with fail
    refine (TR.out _ _ HZ.out HS5.out).mono ?_
    rintro e w6 ⟨ya, yc, rfl, hlf, hS⟩
    have hfin := PUT.out w6 hS (.bool cs) (.slice ya p yc) (.int .i64 zs)
    have hlf2 := hlf.put (r := w.heap.size + 2) (Nat.lt_succ_self _) (.bool cs) (.slice ya p yc) (.int .i64 zs)
    have HF := Lib.hid hfin.2
    have HO := Lib.hid hlf2
    have HQ := Lib.hid hfin.1.here
    clear hfin hlf2 hlf a0 a1 a2 b0 b1 b2 c0 c1 c2 c3 c4 c5
    unfold SE at hS
    obtain ⟨a0, a1, a2, b0, b1, b2, c0, c1, c2, c3, c4, c5, _, _, _, _⟩ := hS
    go_wp2_with fail
    exact ret_dv2 rfl rfl rfl HF.out rfl ⟨_, rfl, HO.out, HQ.out⟩
  · go_wp2_with fail
    refine (SM.out _ _ _ HX.out HY.out HS3.out).mono ?_
    clear a0 a1 a2 b0 b1 b2 c0 c1 c2 c3 c4 c5
    rintro e w5 ⟨z, rfl, hz, hS⟩
    obtain ⟨za, zc, rfl⟩ := hz.shape
    generalize List.length _ = zl at *
    have HZ := Lib.hid hz
    have HS5 := Lib.hid hS
    clear hz
    unfold SE at hS
    obtain ⟨a0, a1, a2, b0, b1, b2, c0, c1, c2, c3, c4, c5, _, _, _, _⟩ := hS
    go_wp2_with fail
    refine (TR.out _ _ HZ.out HS5.out).mono ?_
    rintro e w6 ⟨ya, yc, rfl, hlf, hS⟩
    have hfin := PUT.out w6 hS (.bool cs) (.slice ya p yc) (.int .i64 zs)
    have hlf2 := hlf.put (r := w.heap.size + 2) (Nat.lt_succ_self _) (.bool cs) (.slice ya p yc) (.int .i64 zs)
    have HF := Lib.hid hfin.2
    have HO := Lib.hid hlf2
    have HQ := Lib.hid hfin.1.here
    clear hfin hlf2 hlf a0 a1 a2 b0 b1 b2 c0 c1 c2 c3 c4 c5
    unfold SE at hS
    obtain ⟨a0, a1, a2, b0, b1, b2, c0, c1, c2, c3, c4, c5, _, _, _, _⟩ := hS
    go_wp2_with fail
    exact ret_dv2 rfl rfl rfl HF.out rfl ⟨_, rfl, HO.out, HQ.out⟩
  · have hcv : Dm.cmpZ (A : Int) (B : Int) < 0 := by rw [Dm.cmpZ_neg1]; omega
    go_wp2_with fail
    refine (CC.out _ _ _ HX.out HY.out HS3.out).mono ?_
    rintro e w4 ⟨rfl, hx, hy, hS⟩
    have HX4 := Lib.hid hx
    have HY4 := Lib.hid hy
    have HS4 := Lib.hid hS
    generalize Dm.cmpZ (A : Int) (B : Int) = cc at *
    clear a0 a1 a2 b0 b1 b2 c0 c1 c2 c3 c4 c5 hx hy
    unfold SE at hS
    obtain ⟨a0, a1, a2, b0, b1, b2, c0, c1, c2, c3, c4, c5, _, _, _, _⟩ := hS
    go_wp2_with fail
    refine (SUL.out _ _ _ HX4.out HY4.out (by omega) HS4.out).mono ?_
    clear a0 a1 a2 b0 b1 b2 c0 c1 c2 c3 c4 c5
    rintro e w5 ⟨z, rfl, hz, hS⟩
    obtain ⟨za, zc, rfl⟩ := hz.shape
    generalize List.length _ = zl at *
    have HZ := Lib.hid hz
    have HS5 := Lib.hid hS
    clear hz
    unfold SE at hS
    obtain ⟨a0, a1, a2, b0, b1, b2, c0, c1, c2, c3, c4, c5, _, _, _, _⟩ := hS
    go_wp2_with fail
    refine (TR.out _ _ HZ.out HS5.out).mono ?_
    rintro e w6 ⟨ya, yc, rfl, hlf, hS⟩
    have hfin := PUT.out w6 hS (.bool cs) (.slice ya p yc) (.int .i64 zs)
    have hlf2 := hlf.put (r := w.heap.size + 2) (Nat.lt_succ_self _) (.bool cs) (.slice ya p yc) (.int .i64 zs)
    have HF := Lib.hid hfin.2
    have HO := Lib.hid hlf2
    have HQ := Lib.hid hfin.1.here
    clear hfin hlf2 hlf a0 a1 a2 b0 b1 b2 c0 c1 c2 c3 c4 c5
    unfold SE at hS
    obtain ⟨a0, a1, a2, b0, b1, b2, c0, c1, c2, c3, c4, c5, _, _, _, _⟩ := hS
    go_wp2_with fail
    exact ret_dv2 rfl rfl rfl HF.out rfl ⟨_, rfl, HO.out, HQ.out⟩
  · have hcv : Dm.cmpZ (A : Int) (B : Int) < 0 := by rw [Dm.cmpZ_neg1]; omega
    go_wp2_with fail
    refine (CC.out _ _ _ HX.out HY.out HS3.out).mono ?_
    rintro e w4 ⟨rfl, hx, hy, hS⟩
    have HX4 := Lib.hid hx
    have HY4 := Lib.hid hy
    have HS4 := Lib.hid hS
    generalize Dm.cmpZ (A : Int) (B : Int) = cc at *
    clear a0 a1 a2 b0 b1 b2 c0 c1 c2 c3 c4 c5 hx hy
    unfold SE at hS
    obtain ⟨a0, a1, a2, b0, b1, b2, c0, c1, c2, c3, c4, c5, _, _, _, _⟩ := hS
    go_wp2_with fail
    refine (SUL.out _ _ _ HX4.out HY4.out (by omega) HS4.out).mono ?_
    clear a0 a1 a2 b0 b1 b2 c0 c1 c2 c3 c4 c5
    rintro e w5 ⟨z, rfl, hz, hS⟩
    obtain ⟨za, zc, rfl⟩ := hz.shape
    generalize List.length _ = zl at *
    have HZ := Lib.hid hz
    have HS5 := Lib.hid hS
    clear hz
    unfold SE at hS
    obtain ⟨a0, a1, a2, b0, b1, b2, c0, c1, c2, c3, c4, c5, _, _, _, _⟩ := hS
    go_wp2_with fail
    refine (TR.out _ _ HZ.out HS5.out).mono ?_
    rintro e w6 ⟨ya, yc, rfl, hlf, hS⟩
    have hfin := PUT.out w6 hS (.bool cs) (.slice ya p yc) (.int .i64 zs)
    have hlf2 := hlf.put (r := w.heap.size + 2) (Nat.lt_succ_self _) (.bool cs) (.slice ya p yc) (.int .i64 zs)
    have HF := Lib.hid hfin.2
    have HO := Lib.hid hlf2
    have HQ := Lib.hid hfin.1.here
    clear hfin hlf2 hlf a0 a1 a2 b0 b1 b2 c0 c1 c2 c3 c4 c5
    unfold SE at hS
    obtain ⟨a0, a1, a2, b0, b1, b2, c0, c1, c2, c3, c4, c5, _, _, _, _⟩ := hS
    go_wp2_with fail
    exact ret_dv2 rfl rfl rfl HF.out rfl ⟨_, rfl, HO.out, HQ.out⟩
  · have hcv : Dm.cmpZ (A : Int) (B : Int) ≥ 0 := by have := Dm.cmpZ_neg1 (A : Int) (B : Int); omega
    go_wp2_with fail
    refine (CC.out _ _ _ HX.out HY.out HS3.out).mono ?_
    rintro e w4 ⟨rfl, hx, hy, hS⟩
    have HX4 := Lib.hid hx
    have HY4 := Lib.hid hy
    have HS4 := Lib.hid hS
    generalize Dm.cmpZ (A : Int) (B : Int) = cc at *
    clear a0 a1 a2 b0 b1 b2 c0 c1 c2 c3 c4 c5 hx hy
    unfold SE at hS
    obtain ⟨a0, a1, a2, b0, b1, b2, c0, c1, c2, c3, c4, c5, _, _, _, _⟩ := hS
    go_wp2_with fail
    refine (SUG.out _ _ _ HX4.out HY4.out (by omega) HS4.out).mono ?_
    clear a0 a1 a2 b0 b1 b2 c0 c1 c2 c3 c4 c5
    rintro e w5 ⟨z, rfl, hz, hS⟩
    obtain ⟨za, zc, rfl⟩ := hz.shape
    generalize List.length _ = zl at *
    have HZ := Lib.hid hz
    have HS5 := Lib.hid hS
    clear hz
    unfold SE at hS
    obtain ⟨a0, a1, a2, b0, b1, b2, c0, c1, c2, c3, c4, c5, _, _, _, _⟩ := hS
    go_wp2_with fail
    refine (TR.out _ _ HZ.out HS5.out).mono ?_
    rintro e w6 ⟨ya, yc, rfl, hlf, hS⟩
    have hfin := PUT.out w6 hS (.bool cs) (.slice ya p yc) (.int .i64 zs)
    have hlf2 := hlf.put (r := w.heap.size + 2) (Nat.lt_succ_self _) (.bool cs) (.slice ya p yc) (.int .i64 zs)
    have HF := Lib.hid hfin.2
    have HO := Lib.hid hlf2
    have HQ := Lib.hid hfin.1.here
    clear hfin hlf2 hlf a0 a1 a2 b0 b1 b2 c0 c1 c2 c3 c4 c5
    unfold SE at hS
    obtain ⟨a0, a1, a2, b0, b1, b2, c0, c1, c2, c3, c4, c5, _, _, _, _⟩ := hS
    go_wp2_with fail
    exact ret_dv2 rfl rfl rfl HF.out rfl ⟨_, rfl, HO.out, HQ.out⟩
  · have hcv : Dm.cmpZ (A : Int) (B : Int) ≥ 0 := by have := Dm.cmpZ_neg1 (A : Int) (B : Int); omega
    go_wp2_with fail
    refine (CC.out _ _ _ HX.out HY.out HS3.out).mono ?_
    rintro e w4 ⟨rfl, hx, hy, hS⟩
    have HX4 := Lib.hid hx
    have HY4 := Lib.hid hy
    have HS4 := Lib.hid hS
    generalize Dm.cmpZ (A : Int) (B : Int) = cc at *
    clear a0 a1 a2 b0 b1 b2 c0 c1 c2 c3 c4 c5 hx hy
    unfold SE at hS
    obtain ⟨a0, a1, a2, b0, b1, b2, c0, c1, c2, c3, c4, c5, _, _, _, _⟩ := hS
    go_wp2_with fail
    refine (SUG.out _ _ _ HX4.out HY4.out (by omega) HS4.out).mono ?_
    clear a0 a1 a2 b0 b1 b2 c0 c1 c2 c3 c4 c5
    rintro e w5 ⟨z, rfl, hz, hS⟩
    obtain ⟨za, zc, rfl⟩ := hz.shape
    generalize List.length _ = zl at *
    have HZ := Lib.hid hz
    have HS5 := Lib.hid hS
    clear hz
    unfold SE at hS
    obtain ⟨a0, a1, a2, b0, b1, b2, c0, c1, c2, c3, c4, c5, _, _, _, _⟩ := hS
    go_wp2_with fail
    refine (TR.out _ _ HZ.out HS5.out).mono ?_
    rintro e w6 ⟨ya, yc, rfl, hlf, hS⟩
    have hfin := PUT.out w6 hS (.bool cs) (.slice ya p yc) (.int .i64 zs)
    have hlf2 := hlf.put (r := w.heap.size + 2) (Nat.lt_succ_self _) (.bool cs) (.slice ya p yc) (.int .i64 zs)
    have HF := Lib.hid hfin.2
    have HO := Lib.hid hlf2
    have HQ := Lib.hid hfin.1.here
    clear hfin hlf2 hlf a0 a1 a2 b0 b1 b2 c0 c1 c2 c3 c4 c5
    unfold SE at hS
    obtain ⟨a0, a1, a2, b0, b1, b2, c0, c1, c2, c3, c4, c5, _, _, _, _⟩ := hS
    go_wp2_with fail
    exact ret_dv2 rfl rfl rfl HF.out rfl ⟨_, rfl, HO.out, HQ.out⟩
theorem add_any (g h : Bool) (va vb : Value) (s t : Nat) (xs ys : List Int) (w : World) (hv : Lst w va xs) (hu : Lst w vb ys) (hl : xs.length < 10000) (hl2 : ys.length < 10000) (hx : Dm.okD xs) (hy : Dm.okD ys) (hs : s ≤ 1000) (ht : t ≤ 1000) :
    Calls Tryz.prog 62 #[dv g va s, dv h vb t] w fun e w' => ∃ u, e = .returned (.tuple #[dv (Dm.cg (Dm.adG g (Dm.num xs * 10 ^ (max s t - s)) h (Dm.num ys * 10 ^ (max s t - t))) (Dm.adM g (Dm.num xs * 10 ^ (max s t - s)) h (Dm.num ys * 10 ^ (max s t - t)))) u ((Dm.st (Dm.adM g (Dm.num xs * 10 ^ (max s t - s)) h (Dm.num ys * 10 ^ (max s t - t))) (max s t)).2 : Nat), .int .i64 0]) ∧ LF w' (w.heap.size + 3) u (Dm.dg (Dm.st (Dm.adM g (Dm.num xs * 10 ^ (max s t - s)) h (Dm.num ys * 10 ^ (max s t - t))) (max s t)).1) ∧ Q w w' := add_at g h va vb s t (max s t) xs ys w hv hu hl hl2 hx hy hs ht rfl
end Ep
end Go.Proofs.YtagpofhencpliaaGreatDoor
