/- What the document's own Add of decimals comes to, by a walk through it. (and more) -/
import Derived.Test.YteljedefbomlgaaR00
import Derived.Test.YteljedefbomlgaaR12
import Derived.Test.YteljedefbomlgaaR01
import Derived.Test.YteljedefbomlgaaR08
import Derived.Test.YteljedefbomlgaaR10
import Derived.Test.YteljedefbomlgaaR06
import Derived.Test.YteljedefbomlgaaR03
import Derived.Test.YteljedefbomlgaaR05
import Derived.Test.YteljedefbomlgaaRows
import Derived.Deep.QuietTactic
import Derived.Deep.RegionWith
import Derived.Deep.RegionHeld3
import Derived.BigQuiet
set_option linter.unusedVariables false
set_option linter.unusedSimpArgs false
namespace Go.Proofs.Yteljedefbomlgaa
open Go.RowKit
namespace Dm
def adG (g : Bool) (X : Nat) (h : Bool) (Y : Nat) : Bool := if g = h then g else if X < Y then h else g
def adM (g : Bool) (X : Nat) (h : Bool) (Y : Nat) : Nat := if g = h then X + Y else if X < Y then Y - X else X - Y
theorem ad_le (g : Bool) (X : Nat) (h : Bool) (Y : Nat) : adM g X h Y ≤ X + Y := by unfold adM; split <;> (try split) <;> omega
theorem ad_cases (g : Bool) (X : Nat) (h : Bool) (Y : Nat) : (g = true ∧ h = true ∧ true = adG g X h Y ∧ X + Y = adM g X h Y) ∨ (g = false ∧ h = false ∧ false = adG g X h Y ∧ X + Y = adM g X h Y) ∨
    (g = true ∧ h = false ∧ X < Y ∧ false = adG g X h Y ∧ Y - X = adM g X h Y) ∨ (g = false ∧ h = true ∧ X < Y ∧ true = adG g X h Y ∧ Y - X = adM g X h Y) ∨
    (g = true ∧ h = false ∧ Y ≤ X ∧ true = adG g X h Y ∧ X - Y = adM g X h Y) ∨ (g = false ∧ h = true ∧ Y ≤ X ∧ false = adG g X h Y ∧ X - Y = adM g X h Y) := by
  unfold adG adM
  by_cases hl : X < Y
  · have : ¬ Y ≤ X := by omega
    cases g <;> cases h <;> simp [hl]
  · have : Y ≤ X := by omega
    cases g <;> cases h <;> simp [hl, this]
end Dm
namespace Er
def SE (w : World) (g : Bool) (v : Value) (s : Int) (h : Bool) (x : Value) (t : Int) (u : World) : Prop :=
  u.cell? ⟨w.heap.size, 0, none⟩ = some (.bool g) ∧ (u.cell? ⟨w.heap.size, 1, none⟩ = some (v) ∧ (u.cell? ⟨w.heap.size, 2, none⟩ = some (.int .i64 s) ∧ (u.cell? ⟨w.heap.size + 1, 0, none⟩ = some (.bool h) ∧ (u.cell? ⟨w.heap.size + 1, 1, none⟩ = some (x) ∧ (u.cell? ⟨w.heap.size + 1, 2, none⟩ = some (.int .i64 t) ∧ (u.cell? ⟨w.heap.size + 2, 0, none⟩ = some (cellV (w.heap.size + 2) 0 u) ∧ (u.cell? ⟨w.heap.size + 2, 1, none⟩ = some (cellV (w.heap.size + 2) 1 u) ∧ (u.cell? ⟨w.heap.size + 2, 2, none⟩ = some (cellV (w.heap.size + 2) 2 u) ∧ (u.frozen? ⟨w.heap.size + 2, 0, none⟩ = false ∧ (u.frozen? ⟨w.heap.size + 2, 1, none⟩ = false ∧ (u.frozen? ⟨w.heap.size + 2, 2, none⟩ = false ∧ (u.heap[w.heap.size]? = some (.cells #[.bool g, v, .int .i64 s] 24) ∧ (u.heap[w.heap.size + 1]? = some (.cells #[.bool h, x, .int .i64 t] 24) ∧ ((∃ x y z, u.heap[w.heap.size + 2]? = some (.cells #[x, y, z] 24)) ∧ Q w u))))))))))))))
theorem SE.of {w u : World} {g h : Bool} {v x : Value} {s t : Int} (h0 : u.heap[w.heap.size]? = some (.cells #[.bool g, v, .int .i64 s] 24)) (h1 : u.heap[w.heap.size + 1]? = some (.cells #[.bool h, x, .int .i64 t] 24)) (h2 : ∃ x y z, u.heap[w.heap.size + 2]? = some (.cells #[x, y, z] 24)) (hq : Q w u) : SE w g v s h x t u := by
  obtain ⟨a0, a1, a2, _, _, _⟩ := block_cells h0
  obtain ⟨b0, b1, b2, _, _, _⟩ := block_cells h1
  obtain ⟨p, q, r, h2⟩ := h2
  obtain ⟨c0, c1, c2, c3, c4, c5⟩ := some_cells h2
  exact ⟨a0, a1, a2, b0, b1, b2, c0, c1, c2, c3, c4, c5, h0, h1, ⟨p, q, r, h2⟩, hq⟩
theorem SE.q {w u u' : World} {g h : Bool} {v x : Value} {s t : Int} (k : SE w g v s h x t u) (hq : Q u u') : SE w g v s h x t u' := by
  obtain ⟨_, _, _, _, _, _, _, _, _, _, _, _, h0, h1, ⟨p, q, r, h2⟩, h3⟩ := k
  exact SE.of ((hq.block (lt_of_block h0)).trans h0) ((hq.block (lt_of_block h1)).trans h1) ⟨p, q, r, (hq.block (lt_of_block h2)).trans h2⟩ (h3.trans hq)
theorem SE.start (w : World) (g : Bool) (v : Value) (s : Int) (h : Bool) (x : Value) (t : Int) : SE w g v s h x t (((w.alloc (.cells #[.bool g, v, .int .i64 s] 24)).alloc (.cells #[.bool h, x, .int .i64 t] 24)).alloc (.cells #[.bool false, .slice none 0 0, .int .i64 0] 24)) := by
  have e : ((w.alloc (.cells #[.bool g, v, .int .i64 s] 24)).alloc (.cells #[.bool h, x, .int .i64 t] 24)).heap.size = w.heap.size + 2 := by simp
  refine SE.of ?_ ?_ ⟨.bool false, .slice none 0 0, .int .i64 0, ?_⟩ ((((Q.refl w).alloc _).alloc _).alloc _)
  · exact (heap_alloc_old _ _ (by rw [e]; omega)).trans (heap_alloc2_old _ _ _)
  · exact (heap_alloc_old _ _ (by rw [e]; omega)).trans (heap_alloc2_new _ _ _)
  · have := heap_alloc_new ((w.alloc (.cells #[.bool g, v, .int .i64 s] 24)).alloc (.cells #[.bool h, x, .int .i64 t] 24)) (.cells #[.bool false, .slice none 0 0, .int .i64 0] 24)
    rwa [e] at this
theorem SE.room {w u : World} {g h : Bool} {v x : Value} {s t : Int} (k : SE w g v s h x t u) : w.heap.size + 3 ≤ u.heap.size := by
  obtain ⟨_, _, _, _, _, _, _, _, _, _, _, _, _, _, ⟨p, q, r, h2⟩, _⟩ := k
  exact lt_of_block h2
theorem SE.put {w u : World} {g h : Bool} {v x : Value} {s t : Int} (k : SE w g v s h x t u) (p q r : Value) : SE w g v s h x t (((u.setCell ⟨w.heap.size + 2, 0, none⟩ p).setCell ⟨w.heap.size + 2, 1, none⟩ q).setCell ⟨w.heap.size + 2, 2, none⟩ r) ∧
    (((u.setCell ⟨w.heap.size + 2, 0, none⟩ p).setCell ⟨w.heap.size + 2, 1, none⟩ q).setCell ⟨w.heap.size + 2, 2, none⟩ r).heap[w.heap.size + 2]? = some (.cells #[p, q, r] 24) := by
  obtain ⟨_, _, _, _, _, _, _, _, _, _, _, _, h0, h1, ⟨p0, q0, r0, h2⟩, h3⟩ := k
  have hb := block_set (x' := p) (y' := q) (z' := r) h2
  refine ⟨SE.of ?_ ?_ ⟨p, q, r, hb⟩ (((h3.setCell (ad := ⟨w.heap.size + 2, 0, none⟩) (by show w.heap.size ≤ w.heap.size + 2; omega) p).setCell (ad := ⟨w.heap.size + 2, 1, none⟩) (by show w.heap.size ≤ w.heap.size + 2; omega) q).setCell (ad := ⟨w.heap.size + 2, 2, none⟩) (by show w.heap.size ≤ w.heap.size + 2; omega) r), hb⟩
  · rw [heap_setCell_other _ ⟨w.heap.size + 2, 2, none⟩ _ r (by simp), heap_setCell_other _ ⟨w.heap.size + 2, 1, none⟩ _ q (by simp), heap_setCell_other _ ⟨w.heap.size + 2, 0, none⟩ _ p (by simp)]
    exact h0
  · rw [heap_setCell_other _ ⟨w.heap.size + 2, 2, none⟩ _ r (by simp), heap_setCell_other _ ⟨w.heap.size + 2, 1, none⟩ _ q (by simp), heap_setCell_other _ ⟨w.heap.size + 2, 0, none⟩ _ p (by simp)]
    exact h1
set_option maxHeartbeats 6400000 in
theorem add_lt (g h : Bool) (va vb : Value) (s t : Nat) (xs ys : List Int) (w : World) (hv : Lst w va xs) (hu : Lst w vb ys) (hl : xs.length < 10000) (hl2 : ys.length < 10000) (hx : Dm.okD xs) (hy : Dm.okD ys) (hs : s ≤ 1000) (ht : t ≤ 1000) (hlt : s < t) :
    Calls Try.prog 48 #[dv g va s, dv h vb t] w fun e w' => ∃ u, e = .returned (.tuple #[dv (Dm.cg (Dm.adG g (Dm.num xs * 10 ^ (max s t - s)) h (Dm.num ys * 10 ^ (max s t - t))) (Dm.adM g (Dm.num xs * 10 ^ (max s t - s)) h (Dm.num ys * 10 ^ (max s t - t)))) u ((Dm.st (Dm.adM g (Dm.num xs * 10 ^ (max s t - s)) h (Dm.num ys * 10 ^ (max s t - t))) (max s t)).2 : Nat), .int .i64 0]) ∧
      LF w' (w.heap.size + 3) u (Dm.dg (Dm.st (Dm.adM g (Dm.num xs * 10 ^ (max s t - s)) h (Dm.num ys * 10 ^ (max s t - t))) (max s t)).1) ∧ Q w w' := by
  obtain ⟨a, c, rfl⟩ := hv.shape
  obtain ⟨b, d, rfl⟩ := hu.shape
  have hox := (Dm.okB_iff xs).2 hx
  have hoy := (Dm.okB_iff ys).2 hy
  obtain ⟨kx, hkx⟩ : ∃ kx, kx = max s t - s := ⟨_, rfl⟩
  obtain ⟨ky, hky⟩ : ∃ ky, ky = max s t - t := ⟨_, rfl⟩
  obtain ⟨N, hN⟩ : ∃ N, N = max s t := ⟨_, rfl⟩
  rw [← hkx, ← hky, ← hN]
  have SX := Lib.hid (fun u (q : Q w u) => Dr.shift_any _ xs (kx : Int) u (hv.q q) (by omega) (by omega))
  have SY := Lib.hid (fun u (q : Q w u) => Dr.shift_any _ ys (ky : Int) u (hu.q q) (by omega) (by omega))
  have M1 := Lib.hid (fun u (q : Q w u) => (by
    have e := may_any g (.slice a xs.length c) s xs u (hv.q q) (by omega) (by omega)
    rw [hox, show decide (0 ≤ (s : Int)) = true from by simp, show decide ((s : Int) ≤ 1000) = true from by simp; omega] at e
    exact e : Calls Try.prog 24 #[.agg #[.bool g, .slice a xs.length c, .int .i64 s]] u fun e w' => e = .returned (.bool true) ∧ Q u w'))
  have M2 := Lib.hid (fun u (q : Q w u) => (by
    have e := may_any h (.slice b ys.length d) t ys u (hu.q q) (by omega) (by omega)
    rw [hoy, show decide (0 ≤ (t : Int)) = true from by simp, show decide ((t : Int) ≤ 1000) = true from by simp; omega] at e
    exact e : Calls Try.prog 24 #[.agg #[.bool h, .slice b ys.length d, .int .i64 t]] u fun e w' => e = .returned (.bool true) ∧ Q u w'))
  have hlx := Dm.shl_len xs kx
  have hly := Dm.shl_len ys ky
  have kX := okD_shl xs kx hx
  have kY := okD_shl ys ky hy
  have nX := num_shl xs kx
  have nY := num_shl ys ky
  generalize Dm.num xs * 10 ^ kx = A at *
  generalize Dm.num ys * 10 ^ ky = B at *
  have HS := Lib.hid (SE.start w g (.slice a xs.length c) s h (.slice b ys.length d) t)
  have hca := Dm.ad_cases g A h B
  have hle := Dm.ad_le g A h B
  generalize Dm.adG g A h B = G at *
  generalize Dm.adM g A h B = M at *
  obtain ⟨E, hE⟩ : ∃ E, E = 20000 := ⟨_, rfl⟩
  have hlx2 : (Dm.shl xs kx).length ≤ E := by omega
  have hly2 : (Dm.shl ys ky).length ≤ E := by omega
  have hAB : A < 10 ^ E ∧ B < 10 ^ E := by
    have h1 := Dm.num_lt _ kX
    have h2 := Dm.num_lt _ kY
    rw [nX] at h1
    rw [nY] at h2
    exact ⟨Nat.lt_of_lt_of_le h1 (Nat.pow_le_pow_right (by omega) hlx2), Nat.lt_of_lt_of_le h2 (Nat.pow_le_pow_right (by omega) hly2)⟩
  have hdl : ∀ M, M ≤ A + B → (Dm.dg M).length < 1000000 := by
    intro M hM
    have h1 : M < 10 ^ (E + 1) := by
      rw [Nat.pow_succ]
      generalize 10 ^ E = P at *
      omega
    have := Dm.dg_len_lt M (E + 1) h1
    omega
  clear hAB
  have AD := Lib.hid (fun va vb u h1 h2 (hM : A + B = M) (k : SE w g (.slice a xs.length c) s h (.slice b ys.length d) t u) => (by
    refine (Dr.add_any va vb (Dm.shl xs kx) (Dm.shl ys ky) u h1 h2 (by omega) (by omega) kX kY).mono ?_
    rintro e w' ⟨x, rfl, ho, hq⟩
    rw [nX, nY, hM] at ho
    obtain ⟨xa, xc, rfl⟩ := ho.shape
    exact ⟨xa, xc, rfl, ho.lst, k.q hq⟩ : Calls Try.prog 80 #[va, vb] u fun e w' => ∃ xa xc, e = .returned (.slice xa (Dm.dg M).length xc) ∧ Lst w' (.slice xa (Dm.dg M).length xc) (Dm.dg M) ∧ SE w g (.slice a xs.length c) s h (.slice b ys.length d) t w'))
  have CP := Lib.hid (fun va vb u h1 h2 (k : SE w g (.slice a xs.length c) s h (.slice b ys.length d) t u) => (by
    refine (Dr.compare_any va vb (Dm.shl xs kx) (Dm.shl ys ky) u h1 h2 (by omega) (by omega) kX kY).mono ?_
    rintro e w' ⟨rfl, hq⟩
    rw [nX, nY]
    exact ⟨rfl, k.q hq, fun v zs hl => hl.q hq⟩ : Calls Try.prog 52 #[va, vb] u fun e w' => e = .returned (.int .i64 (Dm.cmpZ A B)) ∧ SE w g (.slice a xs.length c) s h (.slice b ys.length d) t w' ∧ ∀ v zs, Lst u v zs → Lst w' v zs))
  have L1 := Lib.hid (fun va vb u h1 h2 (hge : B ≤ A) (hM : A - B = M) (k : SE w g (.slice a xs.length c) s h (.slice b ys.length d) t u) => (by
    refine (Dr.less_any va vb (Dm.shl xs kx) (Dm.shl ys ky) u h1 h2 (by omega) (by omega) kX kY (by omega)).mono ?_
    rintro e w' ⟨x, rfl, ho, hq⟩
    rw [nX, nY, hM] at ho
    obtain ⟨xa, xc, rfl⟩ := ho.shape
    exact ⟨xa, xc, rfl, ho.lst, k.q hq⟩ : Calls Try.prog 81 #[va, vb] u fun e w' => ∃ xa xc, e = .returned (.slice xa (Dm.dg M).length xc) ∧ Lst w' (.slice xa (Dm.dg M).length xc) (Dm.dg M) ∧ SE w g (.slice a xs.length c) s h (.slice b ys.length d) t w'))
  have L2 := Lib.hid (fun va vb u h1 h2 (hge : A ≤ B) (hM : B - A = M) (k : SE w g (.slice a xs.length c) s h (.slice b ys.length d) t u) => (by
    refine (Dr.less_any va vb (Dm.shl ys ky) (Dm.shl xs kx) u h1 h2 (by omega) (by omega) kY kX (by omega)).mono ?_
    rintro e w' ⟨x, rfl, ho, hq⟩
    rw [nX, nY, hM] at ho
    obtain ⟨xa, xc, rfl⟩ := ho.shape
    exact ⟨xa, xc, rfl, ho.lst, k.q hq⟩ : Calls Try.prog 81 #[va, vb] u fun e w' => ∃ xa xc, e = .returned (.slice xa (Dm.dg M).length xc) ∧ Lst w' (.slice xa (Dm.dg M).length xc) (Dm.dg M) ∧ SE w g (.slice a xs.length c) s h (.slice b ys.length d) t w'))
  have TR := Lib.hid (fun gg v u (hg : gg = G) (hv : Lst u v (Dm.dg M)) (k : SE w g (.slice a xs.length c) s h (.slice b ys.length d) t u) => (by
    have e := trim_sh gg v N (Dm.dg M) u hv (hdl M hle) (Dm.okD_dg M) (by omega)
    rw [Dm.num_dg, hg] at e
    rw [hg]
    refine e.mono ?_
    rintro e w' ⟨xa, xc, rfl, ho, hq⟩
    exact ⟨xa, xc, rfl, ho.mono (by have := k.room; omega), k.q hq⟩ : Calls Try.prog 51 #[.agg #[.bool gg, v, .int .i64 N]] u fun e w' => ∃ za zc, e = .returned (.agg #[.bool (Dm.cg G M), .slice za (Dm.dg (Dm.st M N).1).length zc, .int .i64 ((Dm.st M N).2 : Nat)]) ∧ LF w' (w.heap.size + 3) (.slice za (Dm.dg (Dm.st M N).1).length zc) (Dm.dg (Dm.st M N).1) ∧ SE w g (.slice a xs.length c) s h (.slice b ys.length d) t w'))
  have hcc : (A < B → Dm.cmpZ A B = -1) ∧ (B ≤ A → 0 ≤ Dm.cmpZ A B ∧ Dm.cmpZ A B ≤ 1) := by
    unfold Dm.cmpZ
    refine ⟨fun h => ?_, fun h => ?_⟩
    · split <;> omega
    · split <;> (try split) <;> omega
  generalize Dm.cmpZ A B = cc at *
  generalize Dm.cg G M = cs at *
  generalize Dm.dg (Dm.st M N).1 = Z at *
  generalize (Dm.st M N).2 = zs at *
  generalize Dm.dg M = Y at *
  generalize Y.length = p at *
  generalize Z.length = r at *
  generalize Dm.shl xs kx = PX at *
  generalize Dm.shl ys ky = PY at *
  generalize xs.length = n at *
  generalize ys.length = m at *
  obtain ⟨lx, hlxe⟩ : ∃ lx, PX.length = lx := ⟨_, rfl⟩
  obtain ⟨ly, hlye⟩ : ∃ ly, PY.length = ly := ⟨_, rfl⟩
  have HPX := Lib.hid hlxe
  have HPY := Lib.hid hlye
  clear hlxe hlye
  clear hv hu hx hy hox hoy hlx hly kX kY nX nY hdl hlx2 hly2 hle hE
  have HCA := Lib.hid hca
  have HCC := Lib.hid hcc
  clear hca hcc
  have PUT := Lib.hid (fun u (k : SE w g (.slice a n c) s h (.slice b m d) t u) x y z => k.put x y z)
  have SQ := Lib.hid (fun u u' (k : SE w g (.slice a n c) s h (.slice b m d) t u) (q : Q u u') => k.q q)
  have SR := Lib.hid (fun u (k : SE w g (.slice a n c) s h (.slice b m d) t u) => k.room)
  go_enter Try.func48, Try.ntmps48
  unfold dv
  go_wp2_with fail
  refine (M1.out _ HS.out.2.2.2.2.2.2.2.2.2.2.2.2.2.2.2).mono ?_
  rintro e z1 ⟨rfl, hq⟩
  have HS1 := Lib.hid (SQ.out _ _ HS.out hq)
  have hS := HS1.out
  unfold SE at hS
  obtain ⟨a0, a1, a2, b0, b1, b2, _⟩ := hS
  clear hq
  go_wp2_with fail
  refine (M2.out _ HS1.out.2.2.2.2.2.2.2.2.2.2.2.2.2.2.2).mono ?_
  rintro e z2 ⟨rfl, hq⟩
  have HS2 := Lib.hid (SQ.out _ _ HS1.out hq)
  have hS := HS2.out
  clear hq a0 a1 a2 b0 b1 b2
  unfold SE at hS
  obtain ⟨a0, a1, a2, b0, b1, b2, _⟩ := hS
  clear HS HS1 M1 M2
  have HR := Lib.hid (show w.heap.size + 3 ≤ z2.heap.size from SR.out _ HS2.out)
  obtain ⟨hm, hNe, hz, hk, hk2⟩ := (show (s < t ∧ N = t ∧ ky = 0 ∧ (t : Int) - (s : Int) = (kx : Int) ∧ kx ≤ 1000) from by omega)
  have hmi : (s : Int) < (t : Int) := by omega
  have hmi2 : (s : Int) ≤ (t : Int) := by omega
  subst hNe
  subst hz
  clear hkx hky hN
  have hw1 : IntKind.i64.wrap ((N : Int) - (s : Int)) = (kx : Int) := by rw [wrapI (by omega) (by omega)]; omega
  have SXE := Lib.hid (fun u (k : SE w g (.slice a n c) s h (.slice b m d) N u) => (by
    refine (SX.out u k.2.2.2.2.2.2.2.2.2.2.2.2.2.2.2).mono ?_
    rintro e w' ⟨x, rfl, ho, hq⟩
    obtain ⟨e1, e2, rfl⟩ := ho.shape
    rw [HPX.out] at ho ⊢
    exact ⟨e1, e2, rfl, ho.lst, k.q hq⟩ : Calls Try.prog 53 #[.slice a n c, .int .i64 (kx : Int)] u fun e w' => ∃ e1 e2, e = .returned (.slice e1 lx e2) ∧ Lst w' (.slice e1 lx e2) PX ∧ SE w g (.slice a n c) s h (.slice b m d) N w'))
  have SYE := Lib.hid (fun u (k : SE w g (.slice a n c) s h (.slice b m d) N u) => (by
    refine (SY.out u k.2.2.2.2.2.2.2.2.2.2.2.2.2.2.2).mono ?_
    rintro e w' ⟨x, rfl, ho, hq⟩
    obtain ⟨e1, e2, rfl⟩ := ho.shape
    rw [HPY.out] at ho ⊢
    exact ⟨e1, e2, rfl, ho.lst, k.q hq, fun v zs hl => hl.q hq⟩ : Calls Try.prog 53 #[.slice b m d, .int .i64 0] u fun e w' => ∃ e1 e2, e = .returned (.slice e1 ly e2) ∧ Lst w' (.slice e1 ly e2) PY ∧ SE w g (.slice a n c) s h (.slice b m d) N w' ∧ ∀ v zs, Lst u v zs → Lst w' v zs))
  clear SX SY
  go_wp2_with fail
  refine (SXE.out _ HS2.out).mono ?_
  rintro e z3 ⟨pa, pc, rfl, hpx, hS3⟩
  unfold SE at hS3
  have HS3 : Hid (SE w g (.slice a n c) s h (.slice b m d) N z3) := Lib.hid hS3
  have HPX3 := Lib.hid hpx
  clear hpx a0 a1 a2 b0 b1 b2
  obtain ⟨a0, a1, a2, b0, b1, b2, _⟩ := hS3
  go_wp2_with fail
  refine (SYE.out _ HS3.out).mono ?_
  rintro e z4 ⟨qa, qc, rfl, hpy, hS4, hcar⟩
  unfold SE at hS4
  have HS4 : Hid (SE w g (.slice a n c) s h (.slice b m d) N z4) := Lib.hid hS4
  have HPX4 := Lib.hid (hcar _ _ HPX3.out)
  have HPY4 := Lib.hid hpy
  clear hpy hcar a0 a1 a2 b0 b1 b2
  obtain ⟨a0, a1, a2, b0, b1, b2, _⟩ := hS4
  rcases HCA.out with ⟨rfl, rfl, hG, hM⟩ | ⟨rfl, rfl, hG, hM⟩ | ⟨rfl, rfl, hl, hG, hM⟩ | ⟨rfl, rfl, hl, hG, hM⟩ | ⟨rfl, rfl, hl, hG, hM⟩ | ⟨rfl, rfl, hl, hG, hM⟩
  · have HG := Lib.hid hG
    have HM := Lib.hid hM
    clear hG hM
    go_wp2_with fail
    have hst := HS4.out.q ((Q.refl _).drew)
    have hst0 := HS4.out
    unfold SE at hst hst0
    have hpx := HPX4.out
    have hpy := HPY4.out
    have hpxd := HPX4.out.q ((Q.refl _).drew)
    have hpyd := HPY4.out.q ((Q.refl _).drew)
    go_region_held3 (fun u => u.cell? ⟨w.heap.size, 0, none⟩ = some (.bool true) ∧ (u.cell? ⟨w.heap.size, 1, none⟩ = some (.slice a n c) ∧ (u.cell? ⟨w.heap.size, 2, none⟩ = some (.int .i64 s) ∧ (u.cell? ⟨w.heap.size + 1, 0, none⟩ = some (.bool true) ∧ (u.cell? ⟨w.heap.size + 1, 1, none⟩ = some (.slice b m d) ∧ (u.cell? ⟨w.heap.size + 1, 2, none⟩ = some (.int .i64 N) ∧ (u.cell? ⟨w.heap.size + 2, 0, none⟩ = some (cellV (w.heap.size + 2) 0 u) ∧ (u.cell? ⟨w.heap.size + 2, 1, none⟩ = some (cellV (w.heap.size + 2) 1 u) ∧ (u.cell? ⟨w.heap.size + 2, 2, none⟩ = some (cellV (w.heap.size + 2) 2 u) ∧ (u.frozen? ⟨w.heap.size + 2, 0, none⟩ = false ∧ (u.frozen? ⟨w.heap.size + 2, 1, none⟩ = false ∧ (u.frozen? ⟨w.heap.size + 2, 2, none⟩ = false ∧ (u.heap[w.heap.size]? = some (.cells #[.bool true, .slice a n c, .int .i64 s] 24) ∧ (u.heap[w.heap.size + 1]? = some (.cells #[.bool true, .slice b m d, .int .i64 N] 24) ∧ ((∃ x y z, u.heap[w.heap.size + 2]? = some (.cells #[x, y, z] 24)) ∧ Q w u))))))))))))))) (first | exact hst | exact hst0 | assumption | exact (PUT.out _ (by assumption) _ _ _).1) (first | (go_at_call 80; refine (AD.out _ _ _ ?_ ?_ HM.out ?_).mono ?_; assumption; assumption; assumption; rintro e z5 ⟨xa, xc, rfl, hlst, hS⟩; unfold SE at hS) | (go_at_call 51; refine (TR.out _ _ _ HG.out ?_ ?_).mono ?_; assumption; assumption; rintro e z6 ⟨ya, yc, rfl, hlf, hS3⟩; unfold SE at hS3))
    have hfin := PUT.out z6 hS3 (.bool cs) (.slice ya r yc) (.int .i64 zs)
    have hlf2 := hlf.put (r := w.heap.size + 2) (Nat.lt_succ_self _) (.bool cs) (.slice ya r yc) (.int .i64 zs)
    have hqf : Q w _ := hfin.1.2.2.2.2.2.2.2.2.2.2.2.2.2.2.2
    have HF := Lib.hid hfin.2
    have HO := Lib.hid hlf2
    have HQ := Lib.hid hqf
    clear hfin hlf2 hqf hst hst0 hlf hpx hpy hpxd hpyd
    go_wp2_with fail
    exact ret_dv2 rfl rfl rfl HF.out rfl ⟨_, rfl, HO.out, HQ.out⟩
  · have HG := Lib.hid hG
    have HM := Lib.hid hM
    clear hG hM
    go_wp2_with fail
    have hst := HS4.out.q ((Q.refl _).drew)
    have hst0 := HS4.out
    unfold SE at hst hst0
    have hpx := HPX4.out
    have hpy := HPY4.out
    have hpxd := HPX4.out.q ((Q.refl _).drew)
    have hpyd := HPY4.out.q ((Q.refl _).drew)
    go_region_held3 (fun u => u.cell? ⟨w.heap.size, 0, none⟩ = some (.bool false) ∧ (u.cell? ⟨w.heap.size, 1, none⟩ = some (.slice a n c) ∧ (u.cell? ⟨w.heap.size, 2, none⟩ = some (.int .i64 s) ∧ (u.cell? ⟨w.heap.size + 1, 0, none⟩ = some (.bool false) ∧ (u.cell? ⟨w.heap.size + 1, 1, none⟩ = some (.slice b m d) ∧ (u.cell? ⟨w.heap.size + 1, 2, none⟩ = some (.int .i64 N) ∧ (u.cell? ⟨w.heap.size + 2, 0, none⟩ = some (cellV (w.heap.size + 2) 0 u) ∧ (u.cell? ⟨w.heap.size + 2, 1, none⟩ = some (cellV (w.heap.size + 2) 1 u) ∧ (u.cell? ⟨w.heap.size + 2, 2, none⟩ = some (cellV (w.heap.size + 2) 2 u) ∧ (u.frozen? ⟨w.heap.size + 2, 0, none⟩ = false ∧ (u.frozen? ⟨w.heap.size + 2, 1, none⟩ = false ∧ (u.frozen? ⟨w.heap.size + 2, 2, none⟩ = false ∧ (u.heap[w.heap.size]? = some (.cells #[.bool false, .slice a n c, .int .i64 s] 24) ∧ (u.heap[w.heap.size + 1]? = some (.cells #[.bool false, .slice b m d, .int .i64 N] 24) ∧ ((∃ x y z, u.heap[w.heap.size + 2]? = some (.cells #[x, y, z] 24)) ∧ Q w u))))))))))))))) (first | exact hst | exact hst0 | assumption | exact (PUT.out _ (by assumption) _ _ _).1) (first | (go_at_call 80; refine (AD.out _ _ _ ?_ ?_ HM.out ?_).mono ?_; assumption; assumption; assumption; rintro e z5 ⟨xa, xc, rfl, hlst, hS⟩; unfold SE at hS) | (go_at_call 51; refine (TR.out _ _ _ HG.out ?_ ?_).mono ?_; assumption; assumption; rintro e z6 ⟨ya, yc, rfl, hlf, hS3⟩; unfold SE at hS3))
    have hfin := PUT.out z6 hS3 (.bool cs) (.slice ya r yc) (.int .i64 zs)
    have hlf2 := hlf.put (r := w.heap.size + 2) (Nat.lt_succ_self _) (.bool cs) (.slice ya r yc) (.int .i64 zs)
    have hqf : Q w _ := hfin.1.2.2.2.2.2.2.2.2.2.2.2.2.2.2.2
    have HF := Lib.hid hfin.2
    have HO := Lib.hid hlf2
    have HQ := Lib.hid hqf
    clear hfin hlf2 hqf hst hst0 hlf hpx hpy hpxd hpyd
    go_wp2_with fail
    exact ret_dv2 rfl rfl rfl HF.out rfl ⟨_, rfl, HO.out, HQ.out⟩
  · have HG := Lib.hid hG
    have HM := Lib.hid hM
    clear hG hM
    have HL := Lib.hid hl
    have hcc := HCC.out.1 hl
    subst hcc
    clear hl
    go_wp2_with fail
    refine (CP.out _ _ _ HPX4.out HPY4.out HS4.out).mono ?_
    rintro e z7 ⟨rfl, hS7, hcar⟩
    unfold SE at hS7
    have HS5 : Hid (SE w true (.slice a n c) s false (.slice b m d) N z7) := Lib.hid hS7
    have HPX5 := Lib.hid (hcar _ _ HPX4.out)
    have HPY5 := Lib.hid (hcar _ _ HPY4.out)
    clear hcar a0 a1 a2 b0 b1 b2
    obtain ⟨a0, a1, a2, b0, b1, b2, _⟩ := hS7
    go_wp2_with fail
    have hst := HS5.out.q ((Q.refl _).drew)
    have hst0 := HS5.out
    unfold SE at hst hst0
    have hpx := HPX5.out
    have hpy := HPY5.out
    have hpxd := HPX5.out.q ((Q.refl _).drew)
    have hpyd := HPY5.out.q ((Q.refl _).drew)
    go_region_held3 (fun u => u.cell? ⟨w.heap.size, 0, none⟩ = some (.bool true) ∧ (u.cell? ⟨w.heap.size, 1, none⟩ = some (.slice a n c) ∧ (u.cell? ⟨w.heap.size, 2, none⟩ = some (.int .i64 s) ∧ (u.cell? ⟨w.heap.size + 1, 0, none⟩ = some (.bool false) ∧ (u.cell? ⟨w.heap.size + 1, 1, none⟩ = some (.slice b m d) ∧ (u.cell? ⟨w.heap.size + 1, 2, none⟩ = some (.int .i64 N) ∧ (u.cell? ⟨w.heap.size + 2, 0, none⟩ = some (cellV (w.heap.size + 2) 0 u) ∧ (u.cell? ⟨w.heap.size + 2, 1, none⟩ = some (cellV (w.heap.size + 2) 1 u) ∧ (u.cell? ⟨w.heap.size + 2, 2, none⟩ = some (cellV (w.heap.size + 2) 2 u) ∧ (u.frozen? ⟨w.heap.size + 2, 0, none⟩ = false ∧ (u.frozen? ⟨w.heap.size + 2, 1, none⟩ = false ∧ (u.frozen? ⟨w.heap.size + 2, 2, none⟩ = false ∧ (u.heap[w.heap.size]? = some (.cells #[.bool true, .slice a n c, .int .i64 s] 24) ∧ (u.heap[w.heap.size + 1]? = some (.cells #[.bool false, .slice b m d, .int .i64 N] 24) ∧ ((∃ x y z, u.heap[w.heap.size + 2]? = some (.cells #[x, y, z] 24)) ∧ Q w u))))))))))))))) (first | exact hst | exact hst0 | assumption | exact (PUT.out _ (by assumption) _ _ _).1) (first | (go_at_call 81; refine (L2.out _ _ _ ?_ ?_ (Nat.le_of_lt HL.out) HM.out ?_).mono ?_; assumption; assumption; assumption; rintro e z5 ⟨xa, xc, rfl, hlst, hS⟩; unfold SE at hS) | (go_at_call 51; refine (TR.out _ _ _ HG.out ?_ ?_).mono ?_; assumption; assumption; rintro e z6 ⟨ya, yc, rfl, hlf, hS3⟩; unfold SE at hS3))
    have hfin := PUT.out z6 hS3 (.bool cs) (.slice ya r yc) (.int .i64 zs)
    have hlf2 := hlf.put (r := w.heap.size + 2) (Nat.lt_succ_self _) (.bool cs) (.slice ya r yc) (.int .i64 zs)
    have hqf : Q w _ := hfin.1.2.2.2.2.2.2.2.2.2.2.2.2.2.2.2
    have HF := Lib.hid hfin.2
    have HO := Lib.hid hlf2
    have HQ := Lib.hid hqf
    clear hfin hlf2 hqf hst hst0 hlf hpx hpy hpxd hpyd
    go_wp2_with fail
    exact ret_dv2 rfl rfl rfl HF.out rfl ⟨_, rfl, HO.out, HQ.out⟩
  · have HG := Lib.hid hG
    have HM := Lib.hid hM
    clear hG hM
    have HL := Lib.hid hl
    have hcc := HCC.out.1 hl
    subst hcc
    clear hl
    go_wp2_with fail
    refine (CP.out _ _ _ HPX4.out HPY4.out HS4.out).mono ?_
    rintro e z7 ⟨rfl, hS7, hcar⟩
    unfold SE at hS7
    have HS5 : Hid (SE w false (.slice a n c) s true (.slice b m d) N z7) := Lib.hid hS7
    have HPX5 := Lib.hid (hcar _ _ HPX4.out)
    have HPY5 := Lib.hid (hcar _ _ HPY4.out)
    clear hcar a0 a1 a2 b0 b1 b2
    obtain ⟨a0, a1, a2, b0, b1, b2, _⟩ := hS7
    go_wp2_with fail
    have hst := HS5.out.q ((Q.refl _).drew)
    have hst0 := HS5.out
    unfold SE at hst hst0
    have hpx := HPX5.out
    have hpy := HPY5.out
    have hpxd := HPX5.out.q ((Q.refl _).drew)
    have hpyd := HPY5.out.q ((Q.refl _).drew)
    go_region_held3 (fun u => u.cell? ⟨w.heap.size, 0, none⟩ = some (.bool false) ∧ (u.cell? ⟨w.heap.size, 1, none⟩ = some (.slice a n c) ∧ (u.cell? ⟨w.heap.size, 2, none⟩ = some (.int .i64 s) ∧ (u.cell? ⟨w.heap.size + 1, 0, none⟩ = some (.bool true) ∧ (u.cell? ⟨w.heap.size + 1, 1, none⟩ = some (.slice b m d) ∧ (u.cell? ⟨w.heap.size + 1, 2, none⟩ = some (.int .i64 N) ∧ (u.cell? ⟨w.heap.size + 2, 0, none⟩ = some (cellV (w.heap.size + 2) 0 u) ∧ (u.cell? ⟨w.heap.size + 2, 1, none⟩ = some (cellV (w.heap.size + 2) 1 u) ∧ (u.cell? ⟨w.heap.size + 2, 2, none⟩ = some (cellV (w.heap.size + 2) 2 u) ∧ (u.frozen? ⟨w.heap.size + 2, 0, none⟩ = false ∧ (u.frozen? ⟨w.heap.size + 2, 1, none⟩ = false ∧ (u.frozen? ⟨w.heap.size + 2, 2, none⟩ = false ∧ (u.heap[w.heap.size]? = some (.cells #[.bool false, .slice a n c, .int .i64 s] 24) ∧ (u.heap[w.heap.size + 1]? = some (.cells #[.bool true, .slice b m d, .int .i64 N] 24) ∧ ((∃ x y z, u.heap[w.heap.size + 2]? = some (.cells #[x, y, z] 24)) ∧ Q w u))))))))))))))) (first | exact hst | exact hst0 | assumption | exact (PUT.out _ (by assumption) _ _ _).1) (first | (go_at_call 81; refine (L2.out _ _ _ ?_ ?_ (Nat.le_of_lt HL.out) HM.out ?_).mono ?_; assumption; assumption; assumption; rintro e z5 ⟨xa, xc, rfl, hlst, hS⟩; unfold SE at hS) | (go_at_call 51; refine (TR.out _ _ _ HG.out ?_ ?_).mono ?_; assumption; assumption; rintro e z6 ⟨ya, yc, rfl, hlf, hS3⟩; unfold SE at hS3))
    have hfin := PUT.out z6 hS3 (.bool cs) (.slice ya r yc) (.int .i64 zs)
    have hlf2 := hlf.put (r := w.heap.size + 2) (Nat.lt_succ_self _) (.bool cs) (.slice ya r yc) (.int .i64 zs)
    have hqf : Q w _ := hfin.1.2.2.2.2.2.2.2.2.2.2.2.2.2.2.2
    have HF := Lib.hid hfin.2
    have HO := Lib.hid hlf2
    have HQ := Lib.hid hqf
    clear hfin hlf2 hqf hst hst0 hlf hpx hpy hpxd hpyd
    go_wp2_with fail
    exact ret_dv2 rfl rfl rfl HF.out rfl ⟨_, rfl, HO.out, HQ.out⟩
  · have HG := Lib.hid hG
    have HM := Lib.hid hM
    clear hG hM
    have HL := Lib.hid hl
    have hcc := (HCC.out.2 hl).1
    have hcc2 := (HCC.out.2 hl).2
    have hcc3 : ¬ cc < 0 := by omega
    clear hl
    go_wp2_with fail
    refine (CP.out _ _ _ HPX4.out HPY4.out HS4.out).mono ?_
    rintro e z7 ⟨rfl, hS7, hcar⟩
    unfold SE at hS7
    have HS5 : Hid (SE w true (.slice a n c) s false (.slice b m d) N z7) := Lib.hid hS7
    have HPX5 := Lib.hid (hcar _ _ HPX4.out)
    have HPY5 := Lib.hid (hcar _ _ HPY4.out)
    clear hcar a0 a1 a2 b0 b1 b2
    obtain ⟨a0, a1, a2, b0, b1, b2, _⟩ := hS7
    go_wp2_with fail
    have hst := HS5.out.q ((Q.refl _).drew)
    have hst0 := HS5.out
    unfold SE at hst hst0
    have hpx := HPX5.out
    have hpy := HPY5.out
    have hpxd := HPX5.out.q ((Q.refl _).drew)
    have hpyd := HPY5.out.q ((Q.refl _).drew)
    go_region_held3 (fun u => u.cell? ⟨w.heap.size, 0, none⟩ = some (.bool true) ∧ (u.cell? ⟨w.heap.size, 1, none⟩ = some (.slice a n c) ∧ (u.cell? ⟨w.heap.size, 2, none⟩ = some (.int .i64 s) ∧ (u.cell? ⟨w.heap.size + 1, 0, none⟩ = some (.bool false) ∧ (u.cell? ⟨w.heap.size + 1, 1, none⟩ = some (.slice b m d) ∧ (u.cell? ⟨w.heap.size + 1, 2, none⟩ = some (.int .i64 N) ∧ (u.cell? ⟨w.heap.size + 2, 0, none⟩ = some (cellV (w.heap.size + 2) 0 u) ∧ (u.cell? ⟨w.heap.size + 2, 1, none⟩ = some (cellV (w.heap.size + 2) 1 u) ∧ (u.cell? ⟨w.heap.size + 2, 2, none⟩ = some (cellV (w.heap.size + 2) 2 u) ∧ (u.frozen? ⟨w.heap.size + 2, 0, none⟩ = false ∧ (u.frozen? ⟨w.heap.size + 2, 1, none⟩ = false ∧ (u.frozen? ⟨w.heap.size + 2, 2, none⟩ = false ∧ (u.heap[w.heap.size]? = some (.cells #[.bool true, .slice a n c, .int .i64 s] 24) ∧ (u.heap[w.heap.size + 1]? = some (.cells #[.bool false, .slice b m d, .int .i64 N] 24) ∧ ((∃ x y z, u.heap[w.heap.size + 2]? = some (.cells #[x, y, z] 24)) ∧ Q w u))))))))))))))) (first | exact hst | exact hst0 | assumption | exact (PUT.out _ (by assumption) _ _ _).1) (first | (go_at_call 81; refine (L1.out _ _ _ ?_ ?_ HL.out HM.out ?_).mono ?_; assumption; assumption; assumption; rintro e z5 ⟨xa, xc, rfl, hlst, hS⟩; unfold SE at hS) | (go_at_call 51; refine (TR.out _ _ _ HG.out ?_ ?_).mono ?_; assumption; assumption; rintro e z6 ⟨ya, yc, rfl, hlf, hS3⟩; unfold SE at hS3))
    have hfin := PUT.out z6 hS3 (.bool cs) (.slice ya r yc) (.int .i64 zs)
    have hlf2 := hlf.put (r := w.heap.size + 2) (Nat.lt_succ_self _) (.bool cs) (.slice ya r yc) (.int .i64 zs)
    have hqf : Q w _ := hfin.1.2.2.2.2.2.2.2.2.2.2.2.2.2.2.2
    have HF := Lib.hid hfin.2
    have HO := Lib.hid hlf2
    have HQ := Lib.hid hqf
    clear hfin hlf2 hqf hst hst0 hlf hpx hpy hpxd hpyd
    go_wp2_with fail
    exact ret_dv2 rfl rfl rfl HF.out rfl ⟨_, rfl, HO.out, HQ.out⟩
  · have HG := Lib.hid hG
    have HM := Lib.hid hM
    clear hG hM
    have HL := Lib.hid hl
    have hcc := (HCC.out.2 hl).1
    have hcc2 := (HCC.out.2 hl).2
    have hcc3 : ¬ cc < 0 := by omega
    clear hl
    go_wp2_with fail
    refine (CP.out _ _ _ HPX4.out HPY4.out HS4.out).mono ?_
    rintro e z7 ⟨rfl, hS7, hcar⟩
    unfold SE at hS7
    have HS5 : Hid (SE w false (.slice a n c) s true (.slice b m d) N z7) := Lib.hid hS7
    have HPX5 := Lib.hid (hcar _ _ HPX4.out)
    have HPY5 := Lib.hid (hcar _ _ HPY4.out)
    clear hcar a0 a1 a2 b0 b1 b2
    obtain ⟨a0, a1, a2, b0, b1, b2, _⟩ := hS7
    go_wp2_with fail
    have hst := HS5.out.q ((Q.refl _).drew)
    have hst0 := HS5.out
    unfold SE at hst hst0
    have hpx := HPX5.out
    have hpy := HPY5.out
    have hpxd := HPX5.out.q ((Q.refl _).drew)
    have hpyd := HPY5.out.q ((Q.refl _).drew)
    go_region_held3 (fun u => u.cell? ⟨w.heap.size, 0, none⟩ = some (.bool false) ∧ (u.cell? ⟨w.heap.size, 1, none⟩ = some (.slice a n c) ∧ (u.cell? ⟨w.heap.size, 2, none⟩ = some (.int .i64 s) ∧ (u.cell? ⟨w.heap.size + 1, 0, none⟩ = some (.bool true) ∧ (u.cell? ⟨w.heap.size + 1, 1, none⟩ = some (.slice b m d) ∧ (u.cell? ⟨w.heap.size + 1, 2, none⟩ = some (.int .i64 N) ∧ (u.cell? ⟨w.heap.size + 2, 0, none⟩ = some (cellV (w.heap.size + 2) 0 u) ∧ (u.cell? ⟨w.heap.size + 2, 1, none⟩ = some (cellV (w.heap.size + 2) 1 u) ∧ (u.cell? ⟨w.heap.size + 2, 2, none⟩ = some (cellV (w.heap.size + 2) 2 u) ∧ (u.frozen? ⟨w.heap.size + 2, 0, none⟩ = false ∧ (u.frozen? ⟨w.heap.size + 2, 1, none⟩ = false ∧ (u.frozen? ⟨w.heap.size + 2, 2, none⟩ = false ∧ (u.heap[w.heap.size]? = some (.cells #[.bool false, .slice a n c, .int .i64 s] 24) ∧ (u.heap[w.heap.size + 1]? = some (.cells #[.bool true, .slice b m d, .int .i64 N] 24) ∧ ((∃ x y z, u.heap[w.heap.size + 2]? = some (.cells #[x, y, z] 24)) ∧ Q w u))))))))))))))) (first | exact hst | exact hst0 | assumption | exact (PUT.out _ (by assumption) _ _ _).1) (first | (go_at_call 81; refine (L1.out _ _ _ ?_ ?_ HL.out HM.out ?_).mono ?_; assumption; assumption; assumption; rintro e z5 ⟨xa, xc, rfl, hlst, hS⟩; unfold SE at hS) | (go_at_call 51; refine (TR.out _ _ _ HG.out ?_ ?_).mono ?_; assumption; assumption; rintro e z6 ⟨ya, yc, rfl, hlf, hS3⟩; unfold SE at hS3))
    have hfin := PUT.out z6 hS3 (.bool cs) (.slice ya r yc) (.int .i64 zs)
    have hlf2 := hlf.put (r := w.heap.size + 2) (Nat.lt_succ_self _) (.bool cs) (.slice ya r yc) (.int .i64 zs)
    have hqf : Q w _ := hfin.1.2.2.2.2.2.2.2.2.2.2.2.2.2.2.2
    have HF := Lib.hid hfin.2
    have HO := Lib.hid hlf2
    have HQ := Lib.hid hqf
    clear hfin hlf2 hqf hst hst0 hlf hpx hpy hpxd hpyd
    go_wp2_with fail
    exact ret_dv2 rfl rfl rfl HF.out rfl ⟨_, rfl, HO.out, HQ.out⟩
end Er
end Go.Proofs.Yteljedefbomlgaa
