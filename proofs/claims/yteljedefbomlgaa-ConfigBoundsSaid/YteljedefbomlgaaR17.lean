/- What the document's own Align of decimals comes to, by a walk through it. (and more) -/
import Derived.Test.YteljedefbomlgaaR00
import Derived.Test.YteljedefbomlgaaR12
import Derived.Test.YteljedefbomlgaaR01
import Derived.Test.YteljedefbomlgaaR08
import Derived.Test.YteljedefbomlgaaR10
import Derived.Test.YteljedefbomlgaaR06
import Derived.Test.YteljedefbomlgaaR03
import Derived.Test.YteljedefbomlgaaR05
import Derived.Test.YteljedefbomlgaaRows
import Derived.Deep.QuietTactic
import Derived.Deep.RegionWith
import Derived.Deep.RegionHeld3
import Derived.BigQuiet
set_option linter.unusedVariables false
set_option linter.unusedSimpArgs false
namespace Go.Proofs.Yteljedefbomlgaa
open Go.RowKit
namespace Er
def SA (w : World) (T : Nat) (g : Bool) (v : Value) (s : Int) (u : World) : Prop :=
  u.cell? ⟨T, 0, none⟩ = some (.bool g) ∧ (u.cell? ⟨T, 1, none⟩ = some (v) ∧ (u.cell? ⟨T, 2, none⟩ = some (.int .i64 s) ∧ (u.cell? ⟨w.heap.size + 1, 0, none⟩ = some (cellV (w.heap.size + 1) 0 u) ∧ (u.cell? ⟨w.heap.size + 1, 1, none⟩ = some (cellV (w.heap.size + 1) 1 u) ∧ (u.cell? ⟨w.heap.size + 1, 2, none⟩ = some (cellV (w.heap.size + 1) 2 u) ∧ (u.frozen? ⟨w.heap.size + 1, 0, none⟩ = false ∧ (u.frozen? ⟨w.heap.size + 1, 1, none⟩ = false ∧ (u.frozen? ⟨w.heap.size + 1, 2, none⟩ = false ∧ (u.heap[T]? = some (.cells #[.bool g, v, .int .i64 s] 24) ∧ ((∃ x y z, u.heap[w.heap.size + 1]? = some (.cells #[x, y, z] 24)) ∧ (w.heap.size + 2 ≤ T ∧ Q w u)))))))))))
theorem SA.of {w u : World} {T : Nat} {g : Bool} {v : Value} {s : Int} (h0 : u.heap[T]? = some (.cells #[.bool g, v, .int .i64 s] 24)) (h1 : ∃ x y z, u.heap[w.heap.size + 1]? = some (.cells #[x, y, z] 24)) (hT : w.heap.size + 2 ≤ T) (hq : Q w u) : SA w T g v s u := by
  obtain ⟨a0, a1, a2, _, _, _⟩ := block_cells h0
  obtain ⟨x, y, z, h1⟩ := h1
  obtain ⟨b0, b1, b2, b3, b4, b5⟩ := some_cells h1
  exact ⟨a0, a1, a2, b0, b1, b2, b3, b4, b5, h0, ⟨x, y, z, h1⟩, hT, hq⟩
theorem SA.q {w u u' : World} {T : Nat} {g : Bool} {v : Value} {s : Int} (h : SA w T g v s u) (hq : Q u u') : SA w T g v s u' := by
  obtain ⟨_, _, _, _, _, _, _, _, _, h0, ⟨x, y, z, h1⟩, hT, h2⟩ := h
  exact SA.of ((hq.block (lt_of_block h0)).trans h0) ⟨x, y, z, (hq.block (lt_of_block h1)).trans h1⟩ hT (h2.trans hq)
theorem SA.start {w z : World} {g0 : Bool} {v0 : Value} {s0 : Int} (h : SD w g0 v0 s0 z) (g : Bool) (v : Value) (s : Int) : SA w z.heap.size g v s (z.alloc (.cells #[.bool g, v, .int .i64 s] 24)) := by
  have hr := h.room
  have h' := h.q ((Q.refl z).alloc (.cells #[.bool g, v, .int .i64 s] 24))
  obtain ⟨_, _, _, _, _, _, _, _, _, _, h1, h2⟩ := h'
  exact SA.of (heap_alloc_new z _) h1 hr h2
theorem SA.room {w u : World} {T : Nat} {g : Bool} {v : Value} {s : Int} (h : SA w T g v s u) : w.heap.size + 2 ≤ u.heap.size := by
  obtain ⟨_, _, _, _, _, _, _, _, _, _, ⟨x, y, z, h1⟩, _⟩ := h
  exact lt_of_block h1
theorem SA.put {w u : World} {T : Nat} {g : Bool} {v : Value} {s : Int} (h : SA w T g v s u) (x y z : Value) : SA w T g v s (((u.setCell ⟨w.heap.size + 1, 0, none⟩ x).setCell ⟨w.heap.size + 1, 1, none⟩ y).setCell ⟨w.heap.size + 1, 2, none⟩ z) ∧
    (((u.setCell ⟨w.heap.size + 1, 0, none⟩ x).setCell ⟨w.heap.size + 1, 1, none⟩ y).setCell ⟨w.heap.size + 1, 2, none⟩ z).heap[w.heap.size + 1]? = some (.cells #[x, y, z] 24) := by
  obtain ⟨_, _, _, _, _, _, _, _, _, h0, ⟨x0, y0, z0, h1⟩, hT, h2⟩ := h
  have hb := block_set (x' := x) (y' := y) (z' := z) h1
  refine ⟨SA.of ?_ ⟨x, y, z, hb⟩ hT (((h2.setCell (ad := ⟨w.heap.size + 1, 0, none⟩) (Nat.le_succ _) x).setCell (ad := ⟨w.heap.size + 1, 1, none⟩) (Nat.le_succ _) y).setCell (ad := ⟨w.heap.size + 1, 2, none⟩) (Nat.le_succ _) z), hb⟩
  rw [heap_setCell_other _ ⟨w.heap.size + 1, 2, none⟩ _ z (by show T ≠ w.heap.size + 1; omega), heap_setCell_other _ ⟨w.heap.size + 1, 1, none⟩ _ y (by show T ≠ w.heap.size + 1; omega), heap_setCell_other _ ⟨w.heap.size + 1, 0, none⟩ _ x (by show T ≠ w.heap.size + 1; omega)]
  exact h0
set_option maxHeartbeats 3200000 in
theorem align_far (g : Bool) (v : Value) (s : Nat) (k : Int) (L : List Int) (w : World) (hv : Lst w v L) (hl : L.length < 10000) (hd : Dm.okD L) (hs : s ≤ 1000) (hk : k < ((Dm.st (Dm.num L) s).2 : Nat) ∨ 1000 < k) :
    Calls Try.prog 70 #[dv g v s, .int .i64 k] w fun e w' => e = .returned (.tuple #[dv false (.slice none 0 0) 0, .int .i64 3]) ∧ Q w w'  := by
  obtain ⟨a, c, rfl⟩ := hv.shape
  have hok := (Dm.okB_iff L).2 hd
  have M := Lib.hid (fun u (h : SD w g (.slice a L.length c) s u) => (by
    have e := may_any g (.slice a L.length c) s L u (hv.q h.2.2.2.2.2.2.2.2.2.2.2) (by omega) (by omega)
    rw [hok, show decide (0 ≤ (s : Int)) = true from by simp, show decide ((s : Int) ≤ 1000) = true from by simp; omega] at e
    refine e.mono ?_
    rintro e w' ⟨rfl, hq⟩
    exact ⟨rfl, h.q hq⟩ : Calls Try.prog 24 #[.agg #[.bool g, .slice a L.length c, .int .i64 s]] u fun e w' => e = .returned (.bool true) ∧ SD w g (.slice a L.length c) s w'))
  have R := Lib.hid (fun u (h : SD w g (.slice a L.length c) s u) => (by
    refine (trim_sh g (.slice a L.length c) s L u (hv.q h.2.2.2.2.2.2.2.2.2.2.2) (by omega) hd (by omega)).mono ?_
    rintro e w' ⟨ya, yc, rfl, ho, hq⟩
    exact ⟨ya, yc, rfl, ho.lst, h.q hq⟩ : Calls Try.prog 51 #[.agg #[.bool g, .slice a L.length c, .int .i64 s]] u fun e w' => ∃ ya yc, e = .returned (.agg #[.bool (Dm.cg g (Dm.num L)), .slice ya (Dm.dg (Dm.st (Dm.num L) s).1).length yc, .int .i64 ((Dm.st (Dm.num L) s).2 : Nat)]) ∧ Lst w' (.slice ya (Dm.dg (Dm.st (Dm.num L) s).1).length yc) (Dm.dg (Dm.st (Dm.num L) s).1) ∧ SD w g (.slice a L.length c) s w'))
  have HS := Lib.hid (SD.start w g (.slice a L.length c) s)
  have hzs := Dm.st_le (Dm.num L) s
  generalize Dm.cg g (Dm.num L) = cs at *
  generalize (Dm.st (Dm.num L) s).2 = zs at *
  generalize Dm.dg (Dm.st (Dm.num L) s).1 = Z at *
  generalize Z.length = p at *
  generalize L.length = n at *
  clear hv hok hd
  go_enter Try.func70, Try.ntmps70
  unfold dv
  go_wp2_with fail
  refine (M.out _ HS.out).mono ?_
  rintro e z0 ⟨rfl, hS⟩
  have HS0 := Lib.hid hS
  unfold SD at hS
  obtain ⟨a0, a1, a2, _⟩ := hS
  go_wp2_with fail
  refine (R.out _ HS0.out).mono ?_
  rintro e z1 ⟨xa, xc, rfl, hlx, hS⟩
  have HA := Lib.hid (SA.start hS cs (.slice xa p xc) zs)
  have HLX := Lib.hid (hlx.q ((Q.refl z1).alloc (.cells #[.bool cs, .slice xa p xc, .int .i64 zs] 24)))
  clear hS hlx a0 a1 a2
  have hA := HA.out
  unfold SA at hA
  obtain ⟨a0, a1, a2, b0, b1, b2, b3, b4, b5, _, _, _, _⟩ := hA
  rcases (show k < (zs : Int) ∨ ((zs : Int) ≤ k ∧ 1000 < k) from by omega) with hk1 | ⟨hk1, hk2⟩
  · clear hk
    have hfin := HA.out.put (.bool false) (.slice none 0 0) (.int .i64 0)
    have HF := Lib.hid hfin.2
    have hqf : Q w _ := hfin.1.2.2.2.2.2.2.2.2.2.2.2.2
    have HQ := Lib.hid hqf
    clear hfin hqf
    go_wp2_with fail
    exact ret_dv2 rfl rfl rfl HF.out rfl ⟨rfl, HQ.out⟩
  · have hk3 : ¬ k < (zs : Int) := by omega
    clear hk
    have hfin := HA.out.put (.bool false) (.slice none 0 0) (.int .i64 0)
    have HF := Lib.hid hfin.2
    have hqf : Q w _ := hfin.1.2.2.2.2.2.2.2.2.2.2.2.2
    have HQ := Lib.hid hqf
    clear hfin hqf
    go_wp2_with fail
    exact ret_dv2 rfl rfl rfl HF.out rfl ⟨rfl, HQ.out⟩
set_option maxHeartbeats 3200000 in
theorem align_any (g : Bool) (v : Value) (s : Nat) (k : Nat) (L : List Int) (w : World) (hv : Lst w v L) (hl : L.length < 10000) (hd : Dm.okD L) (hs : s ≤ 1000) (hk : (Dm.st (Dm.num L) s).2 ≤ k) (hk2 : k ≤ 1000) :
    Calls Try.prog 70 #[dv g v s, .int .i64 k] w fun e w' => ∃ u, e = .returned (.tuple #[dv (Dm.cg g (Dm.num L)) u k, .int .i64 0]) ∧ LF w' (w.heap.size + 2) u (Dm.dg ((Dm.st (Dm.num L) s).1 * 10 ^ (k - (Dm.st (Dm.num L) s).2))) ∧ Q w w'  := by
  obtain ⟨a, c, rfl⟩ := hv.shape
  have hok := (Dm.okB_iff L).2 hd
  have M := Lib.hid (fun u (h : SD w g (.slice a L.length c) s u) => (by
    have e := may_any g (.slice a L.length c) s L u (hv.q h.2.2.2.2.2.2.2.2.2.2.2) (by omega) (by omega)
    rw [hok, show decide (0 ≤ (s : Int)) = true from by simp, show decide ((s : Int) ≤ 1000) = true from by simp; omega] at e
    refine e.mono ?_
    rintro e w' ⟨rfl, hq⟩
    exact ⟨rfl, h.q hq⟩ : Calls Try.prog 24 #[.agg #[.bool g, .slice a L.length c, .int .i64 s]] u fun e w' => e = .returned (.bool true) ∧ SD w g (.slice a L.length c) s w'))
  have R := Lib.hid (fun u (h : SD w g (.slice a L.length c) s u) => (by
    refine (trim_sh g (.slice a L.length c) s L u (hv.q h.2.2.2.2.2.2.2.2.2.2.2) (by omega) hd (by omega)).mono ?_
    rintro e w' ⟨ya, yc, rfl, ho, hq⟩
    exact ⟨ya, yc, rfl, ho.lst, h.q hq⟩ : Calls Try.prog 51 #[.agg #[.bool g, .slice a L.length c, .int .i64 s]] u fun e w' => ∃ ya yc, e = .returned (.agg #[.bool (Dm.cg g (Dm.num L)), .slice ya (Dm.dg (Dm.st (Dm.num L) s).1).length yc, .int .i64 ((Dm.st (Dm.num L) s).2 : Nat)]) ∧ Lst w' (.slice ya (Dm.dg (Dm.st (Dm.num L) s).1).length yc) (Dm.dg (Dm.st (Dm.num L) s).1) ∧ SD w g (.slice a L.length c) s w'))
  have HS := Lib.hid (SD.start w g (.slice a L.length c) s)
  have hzs := Dm.st_le (Dm.num L) s
  have hb1 : (Dm.dg (Dm.st (Dm.num L) s).1).length ≤ L.length := by
    refine Nat.le_trans (Dm.dg_len_le _ _ ?_) (Dm.dg_len L hd)
    have h1 := Dm.st_num (Dm.num L) s
    have h2 : 0 < 10 ^ (s - (Dm.st (Dm.num L) s).2) := Nat.pow_pos (by omega)
    calc (Dm.st (Dm.num L) s).1 = (Dm.st (Dm.num L) s).1 * 1 := by rw [Nat.mul_one]
      _ ≤ (Dm.st (Dm.num L) s).1 * 10 ^ (s - (Dm.st (Dm.num L) s).2) := Nat.mul_le_mul_left _ h2
      _ = Dm.num L := h1
  obtain ⟨d, hd'⟩ : ∃ d, d = k - (Dm.st (Dm.num L) s).2 := ⟨_, rfl⟩
  rw [← hd']
  have hsl := Dm.shl_len (Dm.dg (Dm.st (Dm.num L) s).1) d
  have SH := Lib.hid (fun v T g0 v0 s0 u (h : Lst u v (Dm.dg (Dm.st (Dm.num L) s).1)) (k : SA w T g0 v0 s0 u) => (by
    refine (Dr.shift_any v (Dm.dg (Dm.st (Dm.num L) s).1) (d : Int) u h (by omega) (by omega)).mono ?_
    rintro e w' ⟨x, rfl, ho, hq⟩
    obtain ⟨e1, e2, rfl⟩ := ho.shape
    exact ⟨e1, e2, rfl, ho.lst, k.q hq⟩ : Calls Try.prog 53 #[v, .int .i64 d] u fun e w' => ∃ e1 e2, e = .returned (.slice e1 (Dm.shl (Dm.dg (Dm.st (Dm.num L) s).1) d).length e2) ∧ Lst w' (.slice e1 (Dm.shl (Dm.dg (Dm.st (Dm.num L) s).1) d).length e2) (Dm.shl (Dm.dg (Dm.st (Dm.num L) s).1) d) ∧ SA w T g0 v0 s0 w'))
  have TR := Lib.hid (fun v T g0 v0 s0 u (h : Lst u v (Dm.shl (Dm.dg (Dm.st (Dm.num L) s).1) d)) (k : SA w T g0 v0 s0 u) => (by
    have htr := Dm.trim_eq (Dm.shl (Dm.dg (Dm.st (Dm.num L) s).1) d) (okD_shl _ _ (Dm.okD_dg _))
    rw [num_shl, Dm.num_dg] at htr
    refine (Dr.trim_any v _ u h (by omega)).mono ?_
    rintro e w' ⟨x, rfl, ho, hq⟩
    rw [htr] at ho
    obtain ⟨e1, e2, rfl⟩ := ho.shape
    exact ⟨e1, e2, rfl, LF.of (ho.mono k.room), k.q hq⟩ : Calls Try.prog 82 #[v] u fun e w' => ∃ e1 e2, e = .returned (.slice e1 (Dm.dg ((Dm.st (Dm.num L) s).1 * 10 ^ d)).length e2) ∧ LF w' (w.heap.size + 2) (.slice e1 (Dm.dg ((Dm.st (Dm.num L) s).1 * 10 ^ d)).length e2) (Dm.dg ((Dm.st (Dm.num L) s).1 * 10 ^ d)) ∧ SA w T g0 v0 s0 w'))
  generalize Dm.dg ((Dm.st (Dm.num L) s).1 * 10 ^ d) = Y at *
  generalize Dm.shl (Dm.dg (Dm.st (Dm.num L) s).1) d = PX at *
  generalize Y.length = r at *
  generalize PX.length = m at *
  generalize Dm.cg g (Dm.num L) = cs at *
  generalize (Dm.st (Dm.num L) s).2 = zs at *
  generalize Dm.dg (Dm.st (Dm.num L) s).1 = Z at *
  generalize Z.length = p at *
  clear hb1 hsl
  generalize L.length = n at *
  clear hv hok hd
  go_enter Try.func70, Try.ntmps70
  unfold dv
  go_wp2_with fail
  refine (M.out _ HS.out).mono ?_
  rintro e z0 ⟨rfl, hS⟩
  have HS0 := Lib.hid hS
  unfold SD at hS
  obtain ⟨a0, a1, a2, _⟩ := hS
  go_wp2_with fail
  refine (R.out _ HS0.out).mono ?_
  rintro e z1 ⟨xa, xc, rfl, hlx, hS⟩
  have HA := Lib.hid (SA.start hS cs (.slice xa p xc) zs)
  have HLX := Lib.hid (hlx.q ((Q.refl z1).alloc (.cells #[.bool cs, .slice xa p xc, .int .i64 zs] 24)))
  clear hS hlx a0 a1 a2
  have hA := HA.out
  unfold SA at hA
  obtain ⟨a0, a1, a2, b0, b1, b2, b3, b4, b5, _, _, _, _⟩ := hA
  have hk1 : (zs : Int) ≤ (k : Int) := by omega
  have hk3 : ¬ (k : Int) < (zs : Int) := by omega
  have hk4 : ¬ 1000 < (k : Int) := by omega
  have hk5 : (k : Int) ≤ 1000 := by omega
  have hw1 : IntKind.i64.wrap ((k : Int) - (zs : Int)) = (d : Int) := by rw [wrapI (by omega) (by omega)]; omega
  have PUT := Lib.hid (fun u (h : SA w z1.heap.size cs (.slice xa p xc) zs u) x y z => h.put x y z)
  have SHk := Lib.hid (fun u h => SH.out (.slice xa p xc) z1.heap.size cs (.slice xa p xc) zs u h)
  have TRk := Lib.hid (fun v u h => TR.out v z1.heap.size cs (.slice xa p xc) zs u h)
  clear hd' hk hk2 SH TR
  go_wp2_with fail
  have hst := HA.out.q ((Q.refl _).drew)
  have hst0 := HA.out
  unfold SA at hst hst0
  have hpx := HLX.out
  have hpxd := HLX.out.q ((Q.refl _).drew)
  go_region_held3 (fun u => u.cell? ⟨z1.heap.size, 0, none⟩ = some (.bool cs) ∧ (u.cell? ⟨z1.heap.size, 1, none⟩ = some (.slice xa p xc) ∧ (u.cell? ⟨z1.heap.size, 2, none⟩ = some (.int .i64 zs) ∧ (u.cell? ⟨w.heap.size + 1, 0, none⟩ = some (cellV (w.heap.size + 1) 0 u) ∧ (u.cell? ⟨w.heap.size + 1, 1, none⟩ = some (cellV (w.heap.size + 1) 1 u) ∧ (u.cell? ⟨w.heap.size + 1, 2, none⟩ = some (cellV (w.heap.size + 1) 2 u) ∧ (u.frozen? ⟨w.heap.size + 1, 0, none⟩ = false ∧ (u.frozen? ⟨w.heap.size + 1, 1, none⟩ = false ∧ (u.frozen? ⟨w.heap.size + 1, 2, none⟩ = false ∧ (u.heap[z1.heap.size]? = some (.cells #[.bool cs, .slice xa p xc, .int .i64 zs] 24) ∧ ((∃ x y z, u.heap[w.heap.size + 1]? = some (.cells #[x, y, z] 24)) ∧ (w.heap.size + 2 ≤ z1.heap.size ∧ Q w u)))))))))))) (first | exact hst | exact hst0 | assumption | exact (PUT.out _ (by assumption) _ _ _).1) (first | (go_at_call 53; refine (SHk.out _ ?_ ?_).mono ?_; assumption; assumption; rintro e w2 ⟨ya, yc, rfl, hlst, hS⟩; unfold SA at hS) | (go_at_call 82; refine (TRk.out _ _ ?_ ?_).mono ?_; assumption; assumption; rintro e w3 ⟨ua, uc, rfl, hlf, hS3⟩; unfold SA at hS3))
  have hfin := PUT.out w3 hS3 (.bool cs) (.slice ua r uc) (.int .i64 k)
  have hlf2 := hlf.put (r := w.heap.size + 1) (Nat.lt_succ_self _) (.bool cs) (.slice ua r uc) (.int .i64 k)
  have hqf : Q w _ := hfin.1.2.2.2.2.2.2.2.2.2.2.2.2
  have HF := Lib.hid hfin.2
  have HO := Lib.hid hlf2
  have HQ := Lib.hid hqf
  clear hfin hlf2 hqf hst hst0 hlf hpx hpxd
  go_wp2_with fail
  exact ret_dv2 rfl rfl rfl HF.out rfl ⟨_, rfl, HO.out, HQ.out⟩
end Er
end Go.Proofs.Yteljedefbomlgaa
