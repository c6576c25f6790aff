/- What the document's own Compare of decimals comes to, by a walk through it. (and more) -/
import Derived.Test.YtagpofhencpliaaGreatDoorR00
import Derived.Test.YtagpofhencpliaaGreatDoorR02
import Derived.Test.YtagpofhencpliaaGreatDoorR10
import Derived.Test.YtagpofhencpliaaGreatDoorR13
import Derived.Test.YtagpofhencpliaaGreatDoorR09
import Derived.Test.YtagpofhencpliaaGreatDoorR05
import Derived.Test.YtagpofhencpliaaGreatDoorR08
import Derived.Test.YtagpofhencpliaaGreatDoorR03
import Derived.Test.YtagpofhencpliaaGreatDoorRows
import Derived.Deep.QuietTactic
import Derived.Deep.RegionWith
import Derived.Deep.RegionHeld3
import Derived.BigQuiet
set_option linter.unusedVariables false
set_option linter.unusedSimpArgs false
namespace Go.Proofs.YtagpofhencpliaaGreatDoor
open Go.RowKit
namespace Er
theorem num_shl (L : List Int) (k : Nat) : Dm.num (Dm.shl L k) = Dm.num L * 10 ^ k := by rw [Dm.shl_pos, Dm.num_zeros]
theorem okD_shl (L : List Int) (k : Nat) (h : Dm.okD L) : Dm.okD (Dm.shl L k) := by
  rw [Dm.shl_pos, Dm.okD_append]
  refine ⟨h, fun d hd => ?_⟩
  have := List.eq_of_mem_replicate hd
  omega
theorem trim_sh (g : Bool) (v : Value) (s : Nat) (L : List Int) (w : World) (hv : Lst w v L) (hl : L.length < 1000000) (hd : Dm.okD L) (hs : s ≤ 1000000) :
    Calls Tryz.prog 30 #[.agg #[.bool g, v, .int .i64 s]] w fun e w' => ∃ a c, e = .returned (.agg #[.bool (Dm.cg g (Dm.num L)), .slice a (Dm.dg (Dm.st (Dm.num L) s).1).length c, .int .i64 ((Dm.st (Dm.num L) s).2 : Nat)]) ∧ LF w' (w.heap.size + 2) (.slice a (Dm.dg (Dm.st (Dm.num L) s).1).length c) (Dm.dg (Dm.st (Dm.num L) s).1) ∧ Q w w' := by
  refine (trim_any g v s L w hv hl hd hs).mono ?_
  rintro e w' ⟨u, rfl, hu, hq⟩
  obtain ⟨a, c, rfl⟩ := hu.shape
  exact ⟨a, c, rfl, hu, hq⟩
set_option maxHeartbeats 3200000 in
theorem compare_any (g h : Bool) (va vb : Value) (s t : Nat) (xs ys : List Int) (w : World) (hv : Lst w va xs) (hu : Lst w vb ys) (hl : xs.length < 10000) (hl2 : ys.length < 10000) (hx : Dm.okD xs) (hy : Dm.okD ys) (hs : s ≤ 1000) (ht : t ≤ 1000) :
    Calls Tryz.prog 17 #[dv g va s, dv h vb t] w fun e w' => e = .returned (.int .i64 (Dm.cmpD g (Dm.num xs) s h (Dm.num ys) t)) ∧ Q w w' := by
  have T1 := Lib.hid (fun w' (q : Q w w') => trim_sh g va s xs w' (hv.q q) (by omega) hx (by omega))
  have T2 := Lib.hid (fun w' (q : Q w w') => trim_sh h vb t ys w' (hu.q q) (by omega) hy (by omega))
  obtain ⟨a, c, rfl⟩ := hv.shape
  obtain ⟨b, d, rfl⟩ := hu.shape
  have hle1 := Dm.st_le (Dm.num xs) s
  have hle2 := Dm.st_le (Dm.num ys) t
  have HC := Lib.hid (show Dm.cmpD g (Dm.num xs) s h (Dm.num ys) t = if Dm.cg g (Dm.num xs) = Dm.cg h (Dm.num ys) then (if Dm.cg g (Dm.num xs) = true then - Dm.cmpS (Dm.st (Dm.num xs) s).1 (Dm.st (Dm.num xs) s).2 (Dm.st (Dm.num ys) t).1 (Dm.st (Dm.num ys) t).2 else Dm.cmpS (Dm.st (Dm.num xs) s).1 (Dm.st (Dm.num xs) s).2 (Dm.st (Dm.num ys) t).1 (Dm.st (Dm.num ys) t).2) else (if Dm.cg g (Dm.num xs) = true then -1 else 1) from by rw [Dm.cmpS_st]; rfl)
  have hb1 : (Dm.dg (Dm.st (Dm.num xs) s).1).length ≤ xs.length := by
    refine Nat.le_trans (Dm.dg_len_le _ _ ?_) (Dm.dg_len xs hx)
    have h1 := Dm.st_num (Dm.num xs) s
    have h2 : 0 < 10 ^ (s - (Dm.st (Dm.num xs) s).2) := Nat.pow_pos (by omega)
    calc (Dm.st (Dm.num xs) s).1 = (Dm.st (Dm.num xs) s).1 * 1 := by rw [Nat.mul_one]
      _ ≤ (Dm.st (Dm.num xs) s).1 * 10 ^ (s - (Dm.st (Dm.num xs) s).2) := Nat.mul_le_mul_left _ h2
      _ = Dm.num xs := h1
  have hb2 : (Dm.dg (Dm.st (Dm.num ys) t).1).length ≤ ys.length := by
    refine Nat.le_trans (Dm.dg_len_le _ _ ?_) (Dm.dg_len ys hy)
    have h1 := Dm.st_num (Dm.num ys) t
    have h2 : 0 < 10 ^ (t - (Dm.st (Dm.num ys) t).2) := Nat.pow_pos (by omega)
    calc (Dm.st (Dm.num ys) t).1 = (Dm.st (Dm.num ys) t).1 * 1 := by rw [Nat.mul_one]
      _ ≤ (Dm.st (Dm.num ys) t).1 * 10 ^ (t - (Dm.st (Dm.num ys) t).2) := Nat.mul_le_mul_left _ h2
      _ = Dm.num ys := h1
  generalize Dm.cmpD g (Dm.num xs) s h (Dm.num ys) t = r at *
  generalize Dm.cg g (Dm.num xs) = gx at *
  generalize Dm.cg h (Dm.num ys) = gy at *
  generalize (Dm.st (Dm.num xs) s).1 = A at *
  generalize (Dm.st (Dm.num ys) t).1 = B at *
  generalize (Dm.st (Dm.num xs) s).2 = sx at *
  generalize (Dm.st (Dm.num ys) t).2 = sy at *
  generalize xs.length = n at *
  generalize ys.length = m at *
  have hbx := fun w' (q : Q ((w.alloc (.cells #[.bool g, .slice a n c, .int .i64 s] 28)).alloc (.cells #[.bool h, .slice b m d, .int .i64 t] 28)) w') => block_cells ((q.block (lt_of_block (heap_alloc2_new w _ _))).trans (heap_alloc2_new w _ _))
  have HBX := Lib.hid hbx
  clear hv hu hx hy hbx
  go_enter Tryz.func17, Tryz.ntmps17
  unfold dv
  go_wp2_with fail
  have hq0 : Q w ((w.alloc (.cells #[.bool g, .slice a n c, .int .i64 s] 28)).alloc (.cells #[.bool h, .slice b m d, .int .i64 t] 28)) := ((Q.refl w).alloc _).alloc _
  have HQ0 := Lib.hid hq0
  clear hq0
  refine (T1.out _ HQ0.out).mono ?_
  rintro e z1 ⟨xa, xc, rfl, hlx, hq⟩
  have Q1 := Lib.hid (HQ0.out.trans hq)
  have HLX := Lib.hid hlx.lst
  generalize hp : (Dm.dg A).length = p at *
  generalize hq' : (Dm.dg B).length = q at *
  have HP := Lib.hid hp
  have HQ' := Lib.hid hq'
  obtain ⟨k0, k1, k2, _, _, _⟩ := HBX.out (z1.alloc (.cells #[.bool gx, .slice xa p xc, .int .i64 sx] 28)) (hq.alloc _)
  have HX1 := Lib.hid (fun w' (q : Q (z1.alloc (.cells #[.bool gx, .slice xa p xc, .int .i64 sx] 28)) w') => block_cells ((q.block (lt_of_block (heap_alloc_new z1 _))).trans (heap_alloc_new z1 _)))
  have Q1a := Lib.hid (Q1.out.alloc (.cells #[.bool gx, .slice xa p xc, .int .i64 sx] 28))
  have HLX1 := Lib.hid (HLX.out.q ((Q.refl z1).alloc (.cells #[.bool gx, .slice xa p xc, .int .i64 sx] 28)))
  clear hlx hq hp hq' HLX
  go_wp2_with fail
  refine (T2.out _ Q1a.out).mono ?_
  rintro e z2 ⟨ya, yc, rfl, hly, hq⟩
  have hqq := (hq.alloc (.cells #[.bool gy, .slice ya q yc, .int .i64 sy] 28))
  obtain ⟨x0, x1, x2, _, _, _⟩ := HX1.out _ hqq
  have HLX2 := Lib.hid (HLX1.out.q hqq)
  have HLY2 := Lib.hid (hly.lst.q ((Q.refl z2).alloc (.cells #[.bool gy, .slice ya q yc, .int .i64 sy] 28)))
  have HY2 := Lib.hid (fun w' (q : Q (z2.alloc (.cells #[.bool gy, .slice ya q yc, .int .i64 sy] 28)) w') => block_cells ((q.block (lt_of_block (heap_alloc_new z2 _))).trans (heap_alloc_new z2 _)))
  have HX2 := Lib.hid (fun w' (q : Q (z2.alloc (.cells #[.bool gy, .slice ya q yc, .int .i64 sy] 28)) w') => HX1.out w' (hqq.trans q))
  have Q2 := Lib.hid (Q1a.out.trans hqq)
  clear hly hq hqq k0 k1 k2
  have hcs : (gx = true ∧ gy = true) ∨ (gx = false ∧ gy = false) ∨ (gx = true ∧ gy = false) ∨ (gx = false ∧ gy = true) := by cases gx <;> cases gy <;> simp
  rcases hcs with ⟨rfl, rfl⟩ | ⟨rfl, rfl⟩ | ⟨rfl, rfl⟩ | ⟨rfl, rfl⟩
  · rcases (show sx < sy ∨ sy ≤ sx from by omega) with hm | hm
    · have hmi : (sx : Int) < (sy : Int) := by omega
      have hmi2 : (sx : Int) ≤ (sy : Int) := by omega
      obtain ⟨kx, hkx⟩ : ∃ kx : Nat, kx = sy - sx := ⟨_, rfl⟩
      have hw1 : IntKind.i64.wrap ((sy : Int) - (sx : Int)) = (kx : Int) := by rw [wrapI (by omega) (by omega)]; omega
      obtain ⟨ky, hky⟩ : ∃ ky : Nat, ky = 0 := ⟨_, rfl⟩
      obtain ⟨c0, c1, c2, _, _, _⟩ := HX2.out _ (Q.refl _)
      obtain ⟨d0, d1, d2, _, _, _⟩ := HY2.out _ (Q.refl _)
      have hst : (z2.alloc (.cells #[.bool true, .slice ya q yc, .int .i64 sy] 28)).drew.cell? ⟨z1.heap.size, 0, none⟩ = some (.bool true) ∧ ((z2.alloc (.cells #[.bool true, .slice ya q yc, .int .i64 sy] 28)).drew.cell? ⟨z1.heap.size, 1, none⟩ = some (.slice xa p xc) ∧ ((z2.alloc (.cells #[.bool true, .slice ya q yc, .int .i64 sy] 28)).drew.cell? ⟨z1.heap.size, 2, none⟩ = some (.int .i64 sx) ∧ ((z2.alloc (.cells #[.bool true, .slice ya q yc, .int .i64 sy] 28)).drew.cell? ⟨z2.heap.size, 0, none⟩ = some (.bool true) ∧ ((z2.alloc (.cells #[.bool true, .slice ya q yc, .int .i64 sy] 28)).drew.cell? ⟨z2.heap.size, 1, none⟩ = some (.slice ya q yc) ∧ ((z2.alloc (.cells #[.bool true, .slice ya q yc, .int .i64 sy] 28)).drew.cell? ⟨z2.heap.size, 2, none⟩ = some (.int .i64 sy) ∧ Q (z2.alloc (.cells #[.bool true, .slice ya q yc, .int .i64 sy] 28)) (z2.alloc (.cells #[.bool true, .slice ya q yc, .int .i64 sy] 28)).drew))))) := ⟨c0, c1, c2, d0, d1, d2, (Q.refl _).drew⟩
      have hcmp : Dm.cmpZ (Dm.num (Dm.shl (Dm.dg A) kx)) (Dm.num (Dm.shl (Dm.dg B) ky)) = Dm.cmpS A sx B sy := by
        have h := Dm.cmpS_at A sx B sy sy (by omega) (by omega)
        rw [Nat.sub_self] at h
        rw [num_shl, num_shl, Dm.num_dg, Dm.num_dg, hkx, hky, ← h]
      have hlx := Dm.shl_len (Dm.dg A) kx
      have hly := Dm.shl_len (Dm.dg B) ky
      rw [HP.out] at hlx
      rw [HQ'.out] at hly
      have SX := Lib.hid (fun u (h : u.cell? ⟨z1.heap.size, 0, none⟩ = some (.bool true) ∧ (u.cell? ⟨z1.heap.size, 1, none⟩ = some (.slice xa p xc) ∧ (u.cell? ⟨z1.heap.size, 2, none⟩ = some (.int .i64 sx) ∧ (u.cell? ⟨z2.heap.size, 0, none⟩ = some (.bool true) ∧ (u.cell? ⟨z2.heap.size, 1, none⟩ = some (.slice ya q yc) ∧ (u.cell? ⟨z2.heap.size, 2, none⟩ = some (.int .i64 sy) ∧ Q (z2.alloc (.cells #[.bool true, .slice ya q yc, .int .i64 sy] 28)) u)))))) => (by
        refine (Dr.shift_any _ (Dm.dg A) kx u (HLX2.out.q h.2.2.2.2.2.2) (by rw [HP.out]; omega) (by omega)).mono ?_
        rintro e w' ⟨x, rfl, ho, hq⟩
        obtain ⟨e1, e2, rfl⟩ := ho.shape
        refine ⟨e1, e2, rfl, ho.lst, ?_, fun v zs hl => hl.q hq⟩
        have h7 := h.2.2.2.2.2.2.trans hq
        obtain ⟨c0, c1, c2, _, _, _⟩ := HX2.out _ h7
        obtain ⟨d0, d1, d2, _, _, _⟩ := HY2.out _ h7
        exact ⟨c0, c1, c2, d0, d1, d2, h7⟩ : Calls Tryz.prog 40 #[(.slice xa p xc), .int .i64 (kx : Int)] u fun e w' => ∃ e1 e2, e = .returned (.slice e1 (Dm.shl (Dm.dg A) kx).length e2) ∧ Lst w' (.slice e1 (Dm.shl (Dm.dg A) kx).length e2) (Dm.shl (Dm.dg A) kx) ∧ (w'.cell? ⟨z1.heap.size, 0, none⟩ = some (.bool true) ∧ (w'.cell? ⟨z1.heap.size, 1, none⟩ = some (.slice xa p xc) ∧ (w'.cell? ⟨z1.heap.size, 2, none⟩ = some (.int .i64 sx) ∧ (w'.cell? ⟨z2.heap.size, 0, none⟩ = some (.bool true) ∧ (w'.cell? ⟨z2.heap.size, 1, none⟩ = some (.slice ya q yc) ∧ (w'.cell? ⟨z2.heap.size, 2, none⟩ = some (.int .i64 sy) ∧ Q (z2.alloc (.cells #[.bool true, .slice ya q yc, .int .i64 sy] 28)) w')))))) ∧ ∀ v zs, Lst u v zs → Lst w' v zs))
      have SY := Lib.hid (fun u (h : u.cell? ⟨z1.heap.size, 0, none⟩ = some (.bool true) ∧ (u.cell? ⟨z1.heap.size, 1, none⟩ = some (.slice xa p xc) ∧ (u.cell? ⟨z1.heap.size, 2, none⟩ = some (.int .i64 sx) ∧ (u.cell? ⟨z2.heap.size, 0, none⟩ = some (.bool true) ∧ (u.cell? ⟨z2.heap.size, 1, none⟩ = some (.slice ya q yc) ∧ (u.cell? ⟨z2.heap.size, 2, none⟩ = some (.int .i64 sy) ∧ Q (z2.alloc (.cells #[.bool true, .slice ya q yc, .int .i64 sy] 28)) u)))))) => (by
        rw [show (0 : Int) = ((ky : Nat) : Int) from by omega]
        refine (Dr.shift_any _ (Dm.dg B) ky u (HLY2.out.q h.2.2.2.2.2.2) (by rw [HQ'.out]; omega) (by omega)).mono ?_
        rintro e w' ⟨x, rfl, ho, hq⟩
        obtain ⟨e1, e2, rfl⟩ := ho.shape
        refine ⟨e1, e2, rfl, ho.lst, ?_, fun v zs hl => hl.q hq⟩
        have h7 := h.2.2.2.2.2.2.trans hq
        obtain ⟨c0, c1, c2, _, _, _⟩ := HX2.out _ h7
        obtain ⟨d0, d1, d2, _, _, _⟩ := HY2.out _ h7
        exact ⟨c0, c1, c2, d0, d1, d2, h7⟩ : Calls Tryz.prog 40 #[(.slice ya q yc), .int .i64 0] u fun e w' => ∃ e1 e2, e = .returned (.slice e1 (Dm.shl (Dm.dg B) ky).length e2) ∧ Lst w' (.slice e1 (Dm.shl (Dm.dg B) ky).length e2) (Dm.shl (Dm.dg B) ky) ∧ (w'.cell? ⟨z1.heap.size, 0, none⟩ = some (.bool true) ∧ (w'.cell? ⟨z1.heap.size, 1, none⟩ = some (.slice xa p xc) ∧ (w'.cell? ⟨z1.heap.size, 2, none⟩ = some (.int .i64 sx) ∧ (w'.cell? ⟨z2.heap.size, 0, none⟩ = some (.bool true) ∧ (w'.cell? ⟨z2.heap.size, 1, none⟩ = some (.slice ya q yc) ∧ (w'.cell? ⟨z2.heap.size, 2, none⟩ = some (.int .i64 sy) ∧ Q (z2.alloc (.cells #[.bool true, .slice ya q yc, .int .i64 sy] 28)) w')))))) ∧ ∀ v zs, Lst u v zs → Lst w' v zs))
      have CC := Lib.hid (fun u va vb h1 h2 (h : u.cell? ⟨z1.heap.size, 0, none⟩ = some (.bool true) ∧ (u.cell? ⟨z1.heap.size, 1, none⟩ = some (.slice xa p xc) ∧ (u.cell? ⟨z1.heap.size, 2, none⟩ = some (.int .i64 sx) ∧ (u.cell? ⟨z2.heap.size, 0, none⟩ = some (.bool true) ∧ (u.cell? ⟨z2.heap.size, 1, none⟩ = some (.slice ya q yc) ∧ (u.cell? ⟨z2.heap.size, 2, none⟩ = some (.int .i64 sy) ∧ Q (z2.alloc (.cells #[.bool true, .slice ya q yc, .int .i64 sy] 28)) u)))))) => (by
        refine (Dr.compare_any va vb (Dm.shl (Dm.dg A) kx) (Dm.shl (Dm.dg B) ky) u h1 h2 (by omega) (by omega) (okD_shl _ _ (Dm.okD_dg _)) (okD_shl _ _ (Dm.okD_dg _))).mono ?_
        rintro e w' ⟨rfl, hq⟩
        rw [hcmp]
        refine ⟨rfl, ?_⟩
        have h7 := h.2.2.2.2.2.2.trans hq
        obtain ⟨c0, c1, c2, _, _, _⟩ := HX2.out _ h7
        obtain ⟨d0, d1, d2, _, _, _⟩ := HY2.out _ h7
        exact ⟨c0, c1, c2, d0, d1, d2, h7⟩ : Calls Tryz.prog 39 #[va, vb] u fun e w' => e = .returned (.int .i64 (Dm.cmpS A sx B sy)) ∧ (w'.cell? ⟨z1.heap.size, 0, none⟩ = some (.bool true) ∧ (w'.cell? ⟨z1.heap.size, 1, none⟩ = some (.slice xa p xc) ∧ (w'.cell? ⟨z1.heap.size, 2, none⟩ = some (.int .i64 sx) ∧ (w'.cell? ⟨z2.heap.size, 0, none⟩ = some (.bool true) ∧ (w'.cell? ⟨z2.heap.size, 1, none⟩ = some (.slice ya q yc) ∧ (w'.cell? ⟨z2.heap.size, 2, none⟩ = some (.int .i64 sy) ∧ Q (z2.alloc (.cells #[.bool true, .slice ya q yc, .int .i64 sy] 28)) w'))))))))
      generalize (Dm.shl (Dm.dg A) kx).length = lx at *
      generalize (Dm.shl (Dm.dg B) ky).length = ly at *
      generalize Dm.shl (Dm.dg A) kx = PX at *
      generalize Dm.shl (Dm.dg B) ky = PY at *
      generalize Dm.cmpS A sx B sy = cc at *
      have hccb : -1 ≤ cc ∧ cc ≤ 1 := by have := Dm.cmpZ_three (Dm.num PX) (Dm.num PY); omega
      obtain ⟨hc1, hc2⟩ := hccb
      clear hcmp hlx hly hkx hky c0 c1 c2 d0 d1 d2
      have HST := Lib.hid hst
      clear hst
      obtain ⟨c0, c1, c2, _, _, _⟩ := HX2.out _ (Q.refl _)
      obtain ⟨d0, d1, d2, _, _, _⟩ := HY2.out _ (Q.refl _)
      go_wp2_with fail
      have hst := HST.out
      go_region_held3 (fun u => u.cell? ⟨z1.heap.size, 0, none⟩ = some (.bool true) ∧ (u.cell? ⟨z1.heap.size, 1, none⟩ = some (.slice xa p xc) ∧ (u.cell? ⟨z1.heap.size, 2, none⟩ = some (.int .i64 sx) ∧ (u.cell? ⟨z2.heap.size, 0, none⟩ = some (.bool true) ∧ (u.cell? ⟨z2.heap.size, 1, none⟩ = some (.slice ya q yc) ∧ (u.cell? ⟨z2.heap.size, 2, none⟩ = some (.int .i64 sy) ∧ Q (z2.alloc (.cells #[.bool true, .slice ya q yc, .int .i64 sy] 28)) u)))))) (first | exact hst | assumption) (first | (go_at_call_of 40 (Value.slice xa p xc); refine (SX.out _ ?_).mono ?_; assumption; rintro e w3 ⟨pa, pc, rfl, hpx, hS3, hcar⟩; try (have hpy := hcar _ _ hpy)) | (go_at_call_of 40 (Value.slice ya q yc); refine (SY.out _ ?_).mono ?_; assumption; rintro e w4 ⟨qa, qc, rfl, hpy, hS4, hcar⟩; try (have hpx := hcar _ _ hpx)) | (go_at_call 39; refine (CC.out _ _ _ hpx hpy ?_).mono ?_; assumption; rintro e w5 ⟨rfl, hS5⟩))
      obtain ⟨k0, k1, k2, l0, l1, l2, k7⟩ := hS5
      have HQ5 := Lib.hid (Q2.out.trans k7)
      clear hst k7
      go_wp2_with fail
      go_ret
      rw [HC.out]
      exact ⟨rfl, HQ5.out⟩
    · have hmi : (sy : Int) ≤ (sx : Int) := by omega
      have hmi3 : ¬ (sx : Int) < (sy : Int) := by omega
      obtain ⟨ky, hky⟩ : ∃ ky : Nat, ky = sx - sy := ⟨_, rfl⟩
      have hw1 : IntKind.i64.wrap ((sx : Int) - (sy : Int)) = (ky : Int) := by rw [wrapI (by omega) (by omega)]; omega
      obtain ⟨kx, hkx⟩ : ∃ kx : Nat, kx = 0 := ⟨_, rfl⟩
      obtain ⟨c0, c1, c2, _, _, _⟩ := HX2.out _ (Q.refl _)
      obtain ⟨d0, d1, d2, _, _, _⟩ := HY2.out _ (Q.refl _)
      have hst : (z2.alloc (.cells #[.bool true, .slice ya q yc, .int .i64 sy] 28)).drew.cell? ⟨z1.heap.size, 0, none⟩ = some (.bool true) ∧ ((z2.alloc (.cells #[.bool true, .slice ya q yc, .int .i64 sy] 28)).drew.cell? ⟨z1.heap.size, 1, none⟩ = some (.slice xa p xc) ∧ ((z2.alloc (.cells #[.bool true, .slice ya q yc, .int .i64 sy] 28)).drew.cell? ⟨z1.heap.size, 2, none⟩ = some (.int .i64 sx) ∧ ((z2.alloc (.cells #[.bool true, .slice ya q yc, .int .i64 sy] 28)).drew.cell? ⟨z2.heap.size, 0, none⟩ = some (.bool true) ∧ ((z2.alloc (.cells #[.bool true, .slice ya q yc, .int .i64 sy] 28)).drew.cell? ⟨z2.heap.size, 1, none⟩ = some (.slice ya q yc) ∧ ((z2.alloc (.cells #[.bool true, .slice ya q yc, .int .i64 sy] 28)).drew.cell? ⟨z2.heap.size, 2, none⟩ = some (.int .i64 sy) ∧ Q (z2.alloc (.cells #[.bool true, .slice ya q yc, .int .i64 sy] 28)) (z2.alloc (.cells #[.bool true, .slice ya q yc, .int .i64 sy] 28)).drew))))) := ⟨c0, c1, c2, d0, d1, d2, (Q.refl _).drew⟩
      have hcmp : Dm.cmpZ (Dm.num (Dm.shl (Dm.dg A) kx)) (Dm.num (Dm.shl (Dm.dg B) ky)) = Dm.cmpS A sx B sy := by
        have h := Dm.cmpS_at A sx B sy sx (by omega) (by omega)
        rw [Nat.sub_self] at h
        rw [num_shl, num_shl, Dm.num_dg, Dm.num_dg, hkx, hky, ← h]
      have hlx := Dm.shl_len (Dm.dg A) kx
      have hly := Dm.shl_len (Dm.dg B) ky
      rw [HP.out] at hlx
      rw [HQ'.out] at hly
      have SX := Lib.hid (fun u (h : u.cell? ⟨z1.heap.size, 0, none⟩ = some (.bool true) ∧ (u.cell? ⟨z1.heap.size, 1, none⟩ = some (.slice xa p xc) ∧ (u.cell? ⟨z1.heap.size, 2, none⟩ = some (.int .i64 sx) ∧ (u.cell? ⟨z2.heap.size, 0, none⟩ = some (.bool true) ∧ (u.cell? ⟨z2.heap.size, 1, none⟩ = some (.slice ya q yc) ∧ (u.cell? ⟨z2.heap.size, 2, none⟩ = some (.int .i64 sy) ∧ Q (z2.alloc (.cells #[.bool true, .slice ya q yc, .int .i64 sy] 28)) u)))))) => (by
        rw [show (0 : Int) = ((kx : Nat) : Int) from by omega]
        refine (Dr.shift_any _ (Dm.dg A) kx u (HLX2.out.q h.2.2.2.2.2.2) (by rw [HP.out]; omega) (by omega)).mono ?_
        rintro e w' ⟨x, rfl, ho, hq⟩
        obtain ⟨e1, e2, rfl⟩ := ho.shape
        refine ⟨e1, e2, rfl, ho.lst, ?_, fun v zs hl => hl.q hq⟩
        have h7 := h.2.2.2.2.2.2.trans hq
        obtain ⟨c0, c1, c2, _, _, _⟩ := HX2.out _ h7
        obtain ⟨d0, d1, d2, _, _, _⟩ := HY2.out _ h7
        exact ⟨c0, c1, c2, d0, d1, d2, h7⟩ : Calls Tryz.prog 40 #[(.slice xa p xc), .int .i64 0] u fun e w' => ∃ e1 e2, e = .returned (.slice e1 (Dm.shl (Dm.dg A) kx).length e2) ∧ Lst w' (.slice e1 (Dm.shl (Dm.dg A) kx).length e2) (Dm.shl (Dm.dg A) kx) ∧ (w'.cell? ⟨z1.heap.size, 0, none⟩ = some (.bool true) ∧ (w'.cell? ⟨z1.heap.size, 1, none⟩ = some (.slice xa p xc) ∧ (w'.cell? ⟨z1.heap.size, 2, none⟩ = some (.int .i64 sx) ∧ (w'.cell? ⟨z2.heap.size, 0, none⟩ = some (.bool true) ∧ (w'.cell? ⟨z2.heap.size, 1, none⟩ = some (.slice ya q yc) ∧ (w'.cell? ⟨z2.heap.size, 2, none⟩ = some (.int .i64 sy) ∧ Q (z2.alloc (.cells #[.bool true, .slice ya q yc, .int .i64 sy] 28)) w')))))) ∧ ∀ v zs, Lst u v zs → Lst w' v zs))
      have SY := Lib.hid (fun u (h : u.cell? ⟨z1.heap.size, 0, none⟩ = some (.bool true) ∧ (u.cell? ⟨z1.heap.size, 1, none⟩ = some (.slice xa p xc) ∧ (u.cell? ⟨z1.heap.size, 2, none⟩ = some (.int .i64 sx) ∧ (u.cell? ⟨z2.heap.size, 0, none⟩ = some (.bool true) ∧ (u.cell? ⟨z2.heap.size, 1, none⟩ = some (.slice ya q yc) ∧ (u.cell? ⟨z2.heap.size, 2, none⟩ = some (.int .i64 sy) ∧ Q (z2.alloc (.cells #[.bool true, .slice ya q yc, .int .i64 sy] 28)) u)))))) => (by
        refine (Dr.shift_any _ (Dm.dg B) ky u (HLY2.out.q h.2.2.2.2.2.2) (by rw [HQ'.out]; omega) (by omega)).mono ?_
        rintro e w' ⟨x, rfl, ho, hq⟩
        obtain ⟨e1, e2, rfl⟩ := ho.shape
        refine ⟨e1, e2, rfl, ho.lst, ?_, fun v zs hl => hl.q hq⟩
        have h7 := h.2.2.2.2.2.2.trans hq
        obtain ⟨c0, c1, c2, _, _, _⟩ := HX2.out _ h7
        obtain ⟨d0, d1, d2, _, _, _⟩ := HY2.out _ h7
        exact ⟨c0, c1, c2, d0, d1, d2, h7⟩ : Calls Tryz.prog 40 #[(.slice ya q yc), .int .i64 (ky : Int)] u fun e w' => ∃ e1 e2, e = .returned (.slice e1 (Dm.shl (Dm.dg B) ky).length e2) ∧ Lst w' (.slice e1 (Dm.shl (Dm.dg B) ky).length e2) (Dm.shl (Dm.dg B) ky) ∧ (w'.cell? ⟨z1.heap.size, 0, none⟩ = some (.bool true) ∧ (w'.cell? ⟨z1.heap.size, 1, none⟩ = some (.slice xa p xc) ∧ (w'.cell? ⟨z1.heap.size, 2, none⟩ = some (.int .i64 sx) ∧ (w'.cell? ⟨z2.heap.size, 0, none⟩ = some (.bool true) ∧ (w'.cell? ⟨z2.heap.size, 1, none⟩ = some (.slice ya q yc) ∧ (w'.cell? ⟨z2.heap.size, 2, none⟩ = some (.int .i64 sy) ∧ Q (z2.alloc (.cells #[.bool true, .slice ya q yc, .int .i64 sy] 28)) w')))))) ∧ ∀ v zs, Lst u v zs → Lst w' v zs))
      have CC := Lib.hid (fun u va vb h1 h2 (h : u.cell? ⟨z1.heap.size, 0, none⟩ = some (.bool true) ∧ (u.cell? ⟨z1.heap.size, 1, none⟩ = some (.slice xa p xc) ∧ (u.cell? ⟨z1.heap.size, 2, none⟩ = some (.int .i64 sx) ∧ (u.cell? ⟨z2.heap.size, 0, none⟩ = some (.bool true) ∧ (u.cell? ⟨z2.heap.size, 1, none⟩ = some (.slice ya q yc) ∧ (u.cell? ⟨z2.heap.size, 2, none⟩ = some (.int .i64 sy) ∧ Q (z2.alloc (.cells #[.bool true, .slice ya q yc, .int .i64 sy] 28)) u)))))) => (by
        refine (Dr.compare_any va vb (Dm.shl (Dm.dg A) kx) (Dm.shl (Dm.dg B) ky) u h1 h2 (by omega) (by omega) (okD_shl _ _ (Dm.okD_dg _)) (okD_shl _ _ (Dm.okD_dg _))).mono ?_
        rintro e w' ⟨rfl, hq⟩
        rw [hcmp]
        refine ⟨rfl, ?_⟩
        have h7 := h.2.2.2.2.2.2.trans hq
        obtain ⟨c0, c1, c2, _, _, _⟩ := HX2.out _ h7
        obtain ⟨d0, d1, d2, _, _, _⟩ := HY2.out _ h7
        exact ⟨c0, c1, c2, d0, d1, d2, h7⟩ : Calls Tryz.prog 39 #[va, vb] u fun e w' => e = .returned (.int .i64 (Dm.cmpS A sx B sy)) ∧ (w'.cell? ⟨z1.heap.size, 0, none⟩ = some (.bool true) ∧ (w'.cell? ⟨z1.heap.size, 1, none⟩ = some (.slice xa p xc) ∧ (w'.cell? ⟨z1.heap.size, 2, none⟩ = some (.int .i64 sx) ∧ (w'.cell? ⟨z2.heap.size, 0, none⟩ = some (.bool true) ∧ (w'.cell? ⟨z2.heap.size, 1, none⟩ = some (.slice ya q yc) ∧ (w'.cell? ⟨z2.heap.size, 2, none⟩ = some (.int .i64 sy) ∧ Q (z2.alloc (.cells #[.bool true, .slice ya q yc, .int .i64 sy] 28)) w'))))))))
      generalize (Dm.shl (Dm.dg A) kx).length = lx at *
      generalize (Dm.shl (Dm.dg B) ky).length = ly at *
      generalize Dm.shl (Dm.dg A) kx = PX at *
      generalize Dm.shl (Dm.dg B) ky = PY at *
      generalize Dm.cmpS A sx B sy = cc at *
      have hccb : -1 ≤ cc ∧ cc ≤ 1 := by have := Dm.cmpZ_three (Dm.num PX) (Dm.num PY); omega
      obtain ⟨hc1, hc2⟩ := hccb
      clear hcmp hlx hly hkx hky c0 c1 c2 d0 d1 d2
      have HST := Lib.hid hst
      clear hst
      obtain ⟨c0, c1, c2, _, _, _⟩ := HX2.out _ (Q.refl _)
      obtain ⟨d0, d1, d2, _, _, _⟩ := HY2.out _ (Q.refl _)
      go_wp2_with fail
      have hst := HST.out
      go_region_held3 (fun u => u.cell? ⟨z1.heap.size, 0, none⟩ = some (.bool true) ∧ (u.cell? ⟨z1.heap.size, 1, none⟩ = some (.slice xa p xc) ∧ (u.cell? ⟨z1.heap.size, 2, none⟩ = some (.int .i64 sx) ∧ (u.cell? ⟨z2.heap.size, 0, none⟩ = some (.bool true) ∧ (u.cell? ⟨z2.heap.size, 1, none⟩ = some (.slice ya q yc) ∧ (u.cell? ⟨z2.heap.size, 2, none⟩ = some (.int .i64 sy) ∧ Q (z2.alloc (.cells #[.bool true, .slice ya q yc, .int .i64 sy] 28)) u)))))) (first | exact hst | assumption) (first | (go_at_call_of 40 (Value.slice xa p xc); refine (SX.out _ ?_).mono ?_; assumption; rintro e w3 ⟨pa, pc, rfl, hpx, hS3, hcar⟩; try (have hpy := hcar _ _ hpy)) | (go_at_call_of 40 (Value.slice ya q yc); refine (SY.out _ ?_).mono ?_; assumption; rintro e w4 ⟨qa, qc, rfl, hpy, hS4, hcar⟩; try (have hpx := hcar _ _ hpx)) | (go_at_call 39; refine (CC.out _ _ _ hpx hpy ?_).mono ?_; assumption; rintro e w5 ⟨rfl, hS5⟩))
      obtain ⟨k0, k1, k2, l0, l1, l2, k7⟩ := hS5
      have HQ5 := Lib.hid (Q2.out.trans k7)
      clear hst k7
      go_wp2_with fail
      go_ret
      rw [HC.out]
      exact ⟨rfl, HQ5.out⟩
  · rcases (show sx < sy ∨ sy ≤ sx from by omega) with hm | hm
    · have hmi : (sx : Int) < (sy : Int) := by omega
      have hmi2 : (sx : Int) ≤ (sy : Int) := by omega
      obtain ⟨kx, hkx⟩ : ∃ kx : Nat, kx = sy - sx := ⟨_, rfl⟩
      have hw1 : IntKind.i64.wrap ((sy : Int) - (sx : Int)) = (kx : Int) := by rw [wrapI (by omega) (by omega)]; omega
      obtain ⟨ky, hky⟩ : ∃ ky : Nat, ky = 0 := ⟨_, rfl⟩
      obtain ⟨c0, c1, c2, _, _, _⟩ := HX2.out _ (Q.refl _)
      obtain ⟨d0, d1, d2, _, _, _⟩ := HY2.out _ (Q.refl _)
      have hst : (z2.alloc (.cells #[.bool false, .slice ya q yc, .int .i64 sy] 28)).drew.cell? ⟨z1.heap.size, 0, none⟩ = some (.bool false) ∧ ((z2.alloc (.cells #[.bool false, .slice ya q yc, .int .i64 sy] 28)).drew.cell? ⟨z1.heap.size, 1, none⟩ = some (.slice xa p xc) ∧ ((z2.alloc (.cells #[.bool false, .slice ya q yc, .int .i64 sy] 28)).drew.cell? ⟨z1.heap.size, 2, none⟩ = some (.int .i64 sx) ∧ ((z2.alloc (.cells #[.bool false, .slice ya q yc, .int .i64 sy] 28)).drew.cell? ⟨z2.heap.size, 0, none⟩ = some (.bool false) ∧ ((z2.alloc (.cells #[.bool false, .slice ya q yc, .int .i64 sy] 28)).drew.cell? ⟨z2.heap.size, 1, none⟩ = some (.slice ya q yc) ∧ ((z2.alloc (.cells #[.bool false, .slice ya q yc, .int .i64 sy] 28)).drew.cell? ⟨z2.heap.size, 2, none⟩ = some (.int .i64 sy) ∧ Q (z2.alloc (.cells #[.bool false, .slice ya q yc, .int .i64 sy] 28)) (z2.alloc (.cells #[.bool false, .slice ya q yc, .int .i64 sy] 28)).drew))))) := ⟨c0, c1, c2, d0, d1, d2, (Q.refl _).drew⟩
      have hcmp : Dm.cmpZ (Dm.num (Dm.shl (Dm.dg A) kx)) (Dm.num (Dm.shl (Dm.dg B) ky)) = Dm.cmpS A sx B sy := by
        have h := Dm.cmpS_at A sx B sy sy (by omega) (by omega)
        rw [Nat.sub_self] at h
        rw [num_shl, num_shl, Dm.num_dg, Dm.num_dg, hkx, hky, ← h]
      have hlx := Dm.shl_len (Dm.dg A) kx
      have hly := Dm.shl_len (Dm.dg B) ky
      rw [HP.out] at hlx
      rw [HQ'.out] at hly
      have SX := Lib.hid (fun u (h : u.cell? ⟨z1.heap.size, 0, none⟩ = some (.bool false) ∧ (u.cell? ⟨z1.heap.size, 1, none⟩ = some (.slice xa p xc) ∧ (u.cell? ⟨z1.heap.size, 2, none⟩ = some (.int .i64 sx) ∧ (u.cell? ⟨z2.heap.size, 0, none⟩ = some (.bool false) ∧ (u.cell? ⟨z2.heap.size, 1, none⟩ = some (.slice ya q yc) ∧ (u.cell? ⟨z2.heap.size, 2, none⟩ = some (.int .i64 sy) ∧ Q (z2.alloc (.cells #[.bool false, .slice ya q yc, .int .i64 sy] 28)) u)))))) => (by
        refine (Dr.shift_any _ (Dm.dg A) kx u (HLX2.out.q h.2.2.2.2.2.2) (by rw [HP.out]; omega) (by omega)).mono ?_
        rintro e w' ⟨x, rfl, ho, hq⟩
        obtain ⟨e1, e2, rfl⟩ := ho.shape
        refine ⟨e1, e2, rfl, ho.lst, ?_, fun v zs hl => hl.q hq⟩
        have h7 := h.2.2.2.2.2.2.trans hq
        obtain ⟨c0, c1, c2, _, _, _⟩ := HX2.out _ h7
        obtain ⟨d0, d1, d2, _, _, _⟩ := HY2.out _ h7
        exact ⟨c0, c1, c2, d0, d1, d2, h7⟩ : Calls Tryz.prog 40 #[(.slice xa p xc), .int .i64 (kx : Int)] u fun e w' => ∃ e1 e2, e = .returned (.slice e1 (Dm.shl (Dm.dg A) kx).length e2) ∧ Lst w' (.slice e1 (Dm.shl (Dm.dg A) kx).length e2) (Dm.shl (Dm.dg A) kx) ∧ (w'.cell? ⟨z1.heap.size, 0, none⟩ = some (.bool false) ∧ (w'.cell? ⟨z1.heap.size, 1, none⟩ = some (.slice xa p xc) ∧ (w'.cell? ⟨z1.heap.size, 2, none⟩ = some (.int .i64 sx) ∧ (w'.cell? ⟨z2.heap.size, 0, none⟩ = some (.bool false) ∧ (w'.cell? ⟨z2.heap.size, 1, none⟩ = some (.slice ya q yc) ∧ (w'.cell? ⟨z2.heap.size, 2, none⟩ = some (.int .i64 sy) ∧ Q (z2.alloc (.cells #[.bool false, .slice ya q yc, .int .i64 sy] 28)) w')))))) ∧ ∀ v zs, Lst u v zs → Lst w' v zs))
      have SY := Lib.hid (fun u (h : u.cell? ⟨z1.heap.size, 0, none⟩ = some (.bool false) ∧ (u.cell? ⟨z1.heap.size, 1, none⟩ = some (.slice xa p xc) ∧ (u.cell? ⟨z1.heap.size, 2, none⟩ = some (.int .i64 sx) ∧ (u.cell? ⟨z2.heap.size, 0, none⟩ = some (.bool false) ∧ (u.cell? ⟨z2.heap.size, 1, none⟩ = some (.slice ya q yc) ∧ (u.cell? ⟨z2.heap.size, 2, none⟩ = some (.int .i64 sy) ∧ Q (z2.alloc (.cells #[.bool false, .slice ya q yc, .int .i64 sy] 28)) u)))))) => (by
        rw [show (0 : Int) = ((ky : Nat) : Int) from by omega]
        refine (Dr.shift_any _ (Dm.dg B) ky u (HLY2.out.q h.2.2.2.2.2.2) (by rw [HQ'.out]; omega) (by omega)).mono ?_
        rintro e w' ⟨x, rfl, ho, hq⟩
        obtain ⟨e1, e2, rfl⟩ := ho.shape
        refine ⟨e1, e2, rfl, ho.lst, ?_, fun v zs hl => hl.q hq⟩
        have h7 := h.2.2.2.2.2.2.trans hq
        obtain ⟨c0, c1, c2, _, _, _⟩ := HX2.out _ h7
        obtain ⟨d0, d1, d2, _, _, _⟩ := HY2.out _ h7
        exact ⟨c0, c1, c2, d0, d1, d2, h7⟩ : Calls Tryz.prog 40 #[(.slice ya q yc), .int .i64 0] u fun e w' => ∃ e1 e2, e = .returned (.slice e1 (Dm.shl (Dm.dg B) ky).length e2) ∧ Lst w' (.slice e1 (Dm.shl (Dm.dg B) ky).length e2) (Dm.shl (Dm.dg B) ky) ∧ (w'.cell? ⟨z1.heap.size, 0, none⟩ = some (.bool false) ∧ (w'.cell? ⟨z1.heap.size, 1, none⟩ = some (.slice xa p xc) ∧ (w'.cell? ⟨z1.heap.size, 2, none⟩ = some (.int .i64 sx) ∧ (w'.cell? ⟨z2.heap.size, 0, none⟩ = some (.bool false) ∧ (w'.cell? ⟨z2.heap.size, 1, none⟩ = some (.slice ya q yc) ∧ (w'.cell? ⟨z2.heap.size, 2, none⟩ = some (.int .i64 sy) ∧ Q (z2.alloc (.cells #[.bool false, .slice ya q yc, .int .i64 sy] 28)) w')))))) ∧ ∀ v zs, Lst u v zs → Lst w' v zs))
      have CC := Lib.hid (fun u va vb h1 h2 (h : u.cell? ⟨z1.heap.size, 0, none⟩ = some (.bool false) ∧ (u.cell? ⟨z1.heap.size, 1, none⟩ = some (.slice xa p xc) ∧ (u.cell? ⟨z1.heap.size, 2, none⟩ = some (.int .i64 sx) ∧ (u.cell? ⟨z2.heap.size, 0, none⟩ = some (.bool false) ∧ (u.cell? ⟨z2.heap.size, 1, none⟩ = some (.slice ya q yc) ∧ (u.cell? ⟨z2.heap.size, 2, none⟩ = some (.int .i64 sy) ∧ Q (z2.alloc (.cells #[.bool false, .slice ya q yc, .int .i64 sy] 28)) u)))))) => (by
        refine (Dr.compare_any va vb (Dm.shl (Dm.dg A) kx) (Dm.shl (Dm.dg B) ky) u h1 h2 (by omega) (by omega) (okD_shl _ _ (Dm.okD_dg _)) (okD_shl _ _ (Dm.okD_dg _))).mono ?_
        rintro e w' ⟨rfl, hq⟩
        rw [hcmp]
        refine ⟨rfl, ?_⟩
        have h7 := h.2.2.2.2.2.2.trans hq
        obtain ⟨c0, c1, c2, _, _, _⟩ := HX2.out _ h7
        obtain ⟨d0, d1, d2, _, _, _⟩ := HY2.out _ h7
        exact ⟨c0, c1, c2, d0, d1, d2, h7⟩ : Calls Tryz.prog 39 #[va, vb] u fun e w' => e = .returned (.int .i64 (Dm.cmpS A sx B sy)) ∧ (w'.cell? ⟨z1.heap.size, 0, none⟩ = some (.bool false) ∧ (w'.cell? ⟨z1.heap.size, 1, none⟩ = some (.slice xa p xc) ∧ (w'.cell? ⟨z1.heap.size, 2, none⟩ = some (.int .i64 sx) ∧ (w'.cell? ⟨z2.heap.size, 0, none⟩ = some (.bool false) ∧ (w'.cell? ⟨z2.heap.size, 1, none⟩ = some (.slice ya q yc) ∧ (w'.cell? ⟨z2.heap.size, 2, none⟩ = some (.int .i64 sy) ∧ Q (z2.alloc (.cells #[.bool false, .slice ya q yc, .int .i64 sy] 28)) w'))))))))
      generalize (Dm.shl (Dm.dg A) kx).length = lx at *
      generalize (Dm.shl (Dm.dg B) ky).length = ly at *
      generalize Dm.shl (Dm.dg A) kx = PX at *
      generalize Dm.shl (Dm.dg B) ky = PY at *
      generalize Dm.cmpS A sx B sy = cc at *
      have hccb : -1 ≤ cc ∧ cc ≤ 1 := by have := Dm.cmpZ_three (Dm.num PX) (Dm.num PY); omega
      obtain ⟨hc1, hc2⟩ := hccb
      clear hcmp hlx hly hkx hky c0 c1 c2 d0 d1 d2
      have HST := Lib.hid hst
      clear hst
      obtain ⟨c0, c1, c2, _, _, _⟩ := HX2.out _ (Q.refl _)
      obtain ⟨d0, d1, d2, _, _, _⟩ := HY2.out _ (Q.refl _)
      go_wp2_with fail
      have hst := HST.out
      go_region_held3 (fun u => u.cell? ⟨z1.heap.size, 0, none⟩ = some (.bool false) ∧ (u.cell? ⟨z1.heap.size, 1, none⟩ = some (.slice xa p xc) ∧ (u.cell? ⟨z1.heap.size, 2, none⟩ = some (.int .i64 sx) ∧ (u.cell? ⟨z2.heap.size, 0, none⟩ = some (.bool false) ∧ (u.cell? ⟨z2.heap.size, 1, none⟩ = some (.slice ya q yc) ∧ (u.cell? ⟨z2.heap.size, 2, none⟩ = some (.int .i64 sy) ∧ Q (z2.alloc (.cells #[.bool false, .slice ya q yc, .int .i64 sy] 28)) u)))))) (first | exact hst | assumption) (first | (go_at_call_of 40 (Value.slice xa p xc); refine (SX.out _ ?_).mono ?_; assumption; rintro e w3 ⟨pa, pc, rfl, hpx, hS3, hcar⟩; try (have hpy := hcar _ _ hpy)) | (go_at_call_of 40 (Value.slice ya q yc); refine (SY.out _ ?_).mono ?_; assumption; rintro e w4 ⟨qa, qc, rfl, hpy, hS4, hcar⟩; try (have hpx := hcar _ _ hpx)) | (go_at_call 39; refine (CC.out _ _ _ hpx hpy ?_).mono ?_; assumption; rintro e w5 ⟨rfl, hS5⟩))
      obtain ⟨k0, k1, k2, l0, l1, l2, k7⟩ := hS5
      have HQ5 := Lib.hid (Q2.out.trans k7)
      clear hst k7
      go_wp2_with fail
      go_ret
      rw [HC.out]
      exact ⟨rfl, HQ5.out⟩
    · have hmi : (sy : Int) ≤ (sx : Int) := by omega
      have hmi3 : ¬ (sx : Int) < (sy : Int) := by omega
      obtain ⟨ky, hky⟩ : ∃ ky : Nat, ky = sx - sy := ⟨_, rfl⟩
      have hw1 : IntKind.i64.wrap ((sx : Int) - (sy : Int)) = (ky : Int) := by rw [wrapI (by omega) (by omega)]; omega
      obtain ⟨kx, hkx⟩ : ∃ kx : Nat, kx = 0 := ⟨_, rfl⟩
      obtain ⟨c0, c1, c2, _, _, _⟩ := HX2.out _ (Q.refl _)
      obtain ⟨d0, d1, d2, _, _, _⟩ := HY2.out _ (Q.refl _)
      have hst : (z2.alloc (.cells #[.bool false, .slice ya q yc, .int .i64 sy] 28)).drew.cell? ⟨z1.heap.size, 0, none⟩ = some (.bool false) ∧ ((z2.alloc (.cells #[.bool false, .slice ya q yc, .int .i64 sy] 28)).drew.cell? ⟨z1.heap.size, 1, none⟩ = some (.slice xa p xc) ∧ ((z2.alloc (.cells #[.bool false, .slice ya q yc, .int .i64 sy] 28)).drew.cell? ⟨z1.heap.size, 2, none⟩ = some (.int .i64 sx) ∧ ((z2.alloc (.cells #[.bool false, .slice ya q yc, .int .i64 sy] 28)).drew.cell? ⟨z2.heap.size, 0, none⟩ = some (.bool false) ∧ ((z2.alloc (.cells #[.bool false, .slice ya q yc, .int .i64 sy] 28)).drew.cell? ⟨z2.heap.size, 1, none⟩ = some (.slice ya q yc) ∧ ((z2.alloc (.cells #[.bool false, .slice ya q yc, .int .i64 sy] 28)).drew.cell? ⟨z2.heap.size, 2, none⟩ = some (.int .i64 sy) ∧ Q (z2.alloc (.cells #[.bool false, .slice ya q yc, .int .i64 sy] 28)) (z2.alloc (.cells #[.bool false, .slice ya q yc, .int .i64 sy] 28)).drew))))) := ⟨c0, c1, c2, d0, d1, d2, (Q.refl _).drew⟩
      have hcmp : Dm.cmpZ (Dm.num (Dm.shl (Dm.dg A) kx)) (Dm.num (Dm.shl (Dm.dg B) ky)) = Dm.cmpS A sx B sy := by
        have h := Dm.cmpS_at A sx B sy sx (by omega) (by omega)
        rw [Nat.sub_self] at h
        rw [num_shl, num_shl, Dm.num_dg, Dm.num_dg, hkx, hky, ← h]
      have hlx := Dm.shl_len (Dm.dg A) kx
      have hly := Dm.shl_len (Dm.dg B) ky
      rw [HP.out] at hlx
      rw [HQ'.out] at hly
      have SX := Lib.hid (fun u (h : u.cell? ⟨z1.heap.size, 0, none⟩ = some (.bool false) ∧ (u.cell? ⟨z1.heap.size, 1, none⟩ = some (.slice xa p xc) ∧ (u.cell? ⟨z1.heap.size, 2, none⟩ = some (.int .i64 sx) ∧ (u.cell? ⟨z2.heap.size, 0, none⟩ = some (.bool false) ∧ (u.cell? ⟨z2.heap.size, 1, none⟩ = some (.slice ya q yc) ∧ (u.cell? ⟨z2.heap.size, 2, none⟩ = some (.int .i64 sy) ∧ Q (z2.alloc (.cells #[.bool false, .slice ya q yc, .int .i64 sy] 28)) u)))))) => (by
        rw [show (0 : Int) = ((kx : Nat) : Int) from by omega]
        refine (Dr.shift_any _ (Dm.dg A) kx u (HLX2.out.q h.2.2.2.2.2.2) (by rw [HP.out]; omega) (by omega)).mono ?_
        rintro e w' ⟨x, rfl, ho, hq⟩
        obtain ⟨e1, e2, rfl⟩ := ho.shape
        refine ⟨e1, e2, rfl, ho.lst, ?_, fun v zs hl => hl.q hq⟩
        have h7 := h.2.2.2.2.2.2.trans hq
        obtain ⟨c0, c1, c2, _, _, _⟩ := HX2.out _ h7
        obtain ⟨d0, d1, d2, _, _, _⟩ := HY2.out _ h7
        exact ⟨c0, c1, c2, d0, d1, d2, h7⟩ : Calls Tryz.prog 40 #[(.slice xa p xc), .int .i64 0] u fun e w' => ∃ e1 e2, e = .returned (.slice e1 (Dm.shl (Dm.dg A) kx).length e2) ∧ Lst w' (.slice e1 (Dm.shl (Dm.dg A) kx).length e2) (Dm.shl (Dm.dg A) kx) ∧ (w'.cell? ⟨z1.heap.size, 0, none⟩ = some (.bool false) ∧ (w'.cell? ⟨z1.heap.size, 1, none⟩ = some (.slice xa p xc) ∧ (w'.cell? ⟨z1.heap.size, 2, none⟩ = some (.int .i64 sx) ∧ (w'.cell? ⟨z2.heap.size, 0, none⟩ = some (.bool false) ∧ (w'.cell? ⟨z2.heap.size, 1, none⟩ = some (.slice ya q yc) ∧ (w'.cell? ⟨z2.heap.size, 2, none⟩ = some (.int .i64 sy) ∧ Q (z2.alloc (.cells #[.bool false, .slice ya q yc, .int .i64 sy] 28)) w')))))) ∧ ∀ v zs, Lst u v zs → Lst w' v zs))
      have SY := Lib.hid (fun u (h : u.cell? ⟨z1.heap.size, 0, none⟩ = some (.bool false) ∧ (u.cell? ⟨z1.heap.size, 1, none⟩ = some (.slice xa p xc) ∧ (u.cell? ⟨z1.heap.size, 2, none⟩ = some (.int .i64 sx) ∧ (u.cell? ⟨z2.heap.size, 0, none⟩ = some (.bool false) ∧ (u.cell? ⟨z2.heap.size, 1, none⟩ = some (.slice ya q yc) ∧ (u.cell? ⟨z2.heap.size, 2, none⟩ = some (.int .i64 sy) ∧ Q (z2.alloc (.cells #[.bool false, .slice ya q yc, .int .i64 sy] 28)) u)))))) => (by
        refine (Dr.shift_any _ (Dm.dg B) ky u (HLY2.out.q h.2.2.2.2.2.2) (by rw [HQ'.out]; omega) (by omega)).mono ?_
        rintro e w' ⟨x, rfl, ho, hq⟩
        obtain ⟨e1, e2, rfl⟩ := ho.shape
        refine ⟨e1, e2, rfl, ho.lst, ?_, fun v zs hl => hl.q hq⟩
        have h7 := h.2.2.2.2.2.2.trans hq
        obtain ⟨c0, c1, c2, _, _, _⟩ := HX2.out _ h7
        obtain ⟨d0, d1, d2, _, _, _⟩ := HY2.out _ h7
        exact ⟨c0, c1, c2, d0, d1, d2, h7⟩ : Calls Tryz.prog 40 #[(.slice ya q yc), .int .i64 (ky : Int)] u fun e w' => ∃ e1 e2, e = .returned (.slice e1 (Dm.shl (Dm.dg B) ky).length e2) ∧ Lst w' (.slice e1 (Dm.shl (Dm.dg B) ky).length e2) (Dm.shl (Dm.dg B) ky) ∧ (w'.cell? ⟨z1.heap.size, 0, none⟩ = some (.bool false) ∧ (w'.cell? ⟨z1.heap.size, 1, none⟩ = some (.slice xa p xc) ∧ (w'.cell? ⟨z1.heap.size, 2, none⟩ = some (.int .i64 sx) ∧ (w'.cell? ⟨z2.heap.size, 0, none⟩ = some (.bool false) ∧ (w'.cell? ⟨z2.heap.size, 1, none⟩ = some (.slice ya q yc) ∧ (w'.cell? ⟨z2.heap.size, 2, none⟩ = some (.int .i64 sy) ∧ Q (z2.alloc (.cells #[.bool false, .slice ya q yc, .int .i64 sy] 28)) w')))))) ∧ ∀ v zs, Lst u v zs → Lst w' v zs))
      have CC := Lib.hid (fun u va vb h1 h2 (h : u.cell? ⟨z1.heap.size, 0, none⟩ = some (.bool false) ∧ (u.cell? ⟨z1.heap.size, 1, none⟩ = some (.slice xa p xc) ∧ (u.cell? ⟨z1.heap.size, 2, none⟩ = some (.int .i64 sx) ∧ (u.cell? ⟨z2.heap.size, 0, none⟩ = some (.bool false) ∧ (u.cell? ⟨z2.heap.size, 1, none⟩ = some (.slice ya q yc) ∧ (u.cell? ⟨z2.heap.size, 2, none⟩ = some (.int .i64 sy) ∧ Q (z2.alloc (.cells #[.bool false, .slice ya q yc, .int .i64 sy] 28)) u)))))) => (by
        refine (Dr.compare_any va vb (Dm.shl (Dm.dg A) kx) (Dm.shl (Dm.dg B) ky) u h1 h2 (by omega) (by omega) (okD_shl _ _ (Dm.okD_dg _)) (okD_shl _ _ (Dm.okD_dg _))).mono ?_
        rintro e w' ⟨rfl, hq⟩
        rw [hcmp]
        refine ⟨rfl, ?_⟩
        have h7 := h.2.2.2.2.2.2.trans hq
        obtain ⟨c0, c1, c2, _, _, _⟩ := HX2.out _ h7
        obtain ⟨d0, d1, d2, _, _, _⟩ := HY2.out _ h7
        exact ⟨c0, c1, c2, d0, d1, d2, h7⟩ : Calls Tryz.prog 39 #[va, vb] u fun e w' => e = .returned (.int .i64 (Dm.cmpS A sx B sy)) ∧ (w'.cell? ⟨z1.heap.size, 0, none⟩ = some (.bool false) ∧ (w'.cell? ⟨z1.heap.size, 1, none⟩ = some (.slice xa p xc) ∧ (w'.cell? ⟨z1.heap.size, 2, none⟩ = some (.int .i64 sx) ∧ (w'.cell? ⟨z2.heap.size, 0, none⟩ = some (.bool false) ∧ (w'.cell? ⟨z2.heap.size, 1, none⟩ = some (.slice ya q yc) ∧ (w'.cell? ⟨z2.heap.size, 2, none⟩ = some (.int .i64 sy) ∧ Q (z2.alloc (.cells #[.bool false, .slice ya q yc, .int .i64 sy] 28)) w'))))))))
      generalize (Dm.shl (Dm.dg A) kx).length = lx at *
      generalize (Dm.shl (Dm.dg B) ky).length = ly at *
      generalize Dm.shl (Dm.dg A) kx = PX at *
      generalize Dm.shl (Dm.dg B) ky = PY at *
      generalize Dm.cmpS A sx B sy = cc at *
      have hccb : -1 ≤ cc ∧ cc ≤ 1 := by have := Dm.cmpZ_three (Dm.num PX) (Dm.num PY); omega
      obtain ⟨hc1, hc2⟩ := hccb
      clear hcmp hlx hly hkx hky c0 c1 c2 d0 d1 d2
      have HST := Lib.hid hst
      clear hst
      obtain ⟨c0, c1, c2, _, _, _⟩ := HX2.out _ (Q.refl _)
      obtain ⟨d0, d1, d2, _, _, _⟩ := HY2.out _ (Q.refl _)
      go_wp2_with fail
      have hst := HST.out
      go_region_held3 (fun u => u.cell? ⟨z1.heap.size, 0, none⟩ = some (.bool false) ∧ (u.cell? ⟨z1.heap.size, 1, none⟩ = some (.slice xa p xc) ∧ (u.cell? ⟨z1.heap.size, 2, none⟩ = some (.int .i64 sx) ∧ (u.cell? ⟨z2.heap.size, 0, none⟩ = some (.bool false) ∧ (u.cell? ⟨z2.heap.size, 1, none⟩ = some (.slice ya q yc) ∧ (u.cell? ⟨z2.heap.size, 2, none⟩ = some (.int .i64 sy) ∧ Q (z2.alloc (.cells #[.bool false, .slice ya q yc, .int .i64 sy] 28)) u)))))) (first | exact hst | assumption) (first | (go_at_call_of 40 (Value.slice xa p xc); refine (SX.out _ ?_).mono ?_; assumption; rintro e w3 ⟨pa, pc, rfl, hpx, hS3, hcar⟩; try (have hpy := hcar _ _ hpy)) | (go_at_call_of 40 (Value.slice ya q yc); refine (SY.out _ ?_).mono ?_; assumption; rintro e w4 ⟨qa, qc, rfl, hpy, hS4, hcar⟩; try (have hpx := hcar _ _ hpx)) | (go_at_call 39; refine (CC.out _ _ _ hpx hpy ?_).mono ?_; assumption; rintro e w5 ⟨rfl, hS5⟩))
      obtain ⟨k0, k1, k2, l0, l1, l2, k7⟩ := hS5
      have HQ5 := Lib.hid (Q2.out.trans k7)
      clear hst k7
      go_wp2_with fail
      go_ret
      rw [HC.out]
      exact ⟨rfl, HQ5.out⟩
  · go_wp2_with fail
    go_ret
    rw [HC.out]
    exact ⟨rfl, Q2.out⟩
  · go_wp2_with fail
    go_ret
    rw [HC.out]
    exact ⟨rfl, Q2.out⟩
end Er
end Go.Proofs.YtagpofhencpliaaGreatDoor
