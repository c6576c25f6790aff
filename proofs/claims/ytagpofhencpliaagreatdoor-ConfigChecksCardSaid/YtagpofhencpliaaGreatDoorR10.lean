/- What the document's own answers on decimals come to, by a walk through each: a struct by value (.agg of a sign, a list, a scale). (and more) -/
import Derived.Test.YtagpofhencpliaaGreatDoorR00
import Derived.Test.YtagpofhencpliaaGreatDoorR02
import Derived.Test.YtagpofhencpliaaGreatDoorR05
import Derived.Test.YtagpofhencpliaaGreatDoorR08
import Derived.Test.YtagpofhencpliaaGreatDoorR03
import Derived.Test.YtagpofhencpliaaGreatDoorR04
import Derived.Test.YtagpofhencpliaaGreatDoorRows
import Derived.Deep.QuietTactic
import Derived.Deep.RegionWith
import Derived.Deep.RegionHeld3
import Derived.BigQuiet
set_option linter.unusedVariables false
set_option linter.unusedSimpArgs false
namespace Go.Proofs.YtagpofhencpliaaGreatDoor
open Go.RowKit
namespace Er
def dv (g : Bool) (v : Value) (s : Int) : Value := .agg #[.bool g, v, .int .i64 s]
theorem infoD : (Tryz.prog.info? 28).map (·.size) = some 3 := by kernel_rfl
theorem ret_dv {fn : Func} {p : Tmp} (h : fn.results = #[.cell p 28]) {R : Ending → World → Prop} {a : Act} {w : World} {g : Nat} {b : Bool} {v : Value} {s : Int} {T : TypeId} {fr : Nat × Nat}
    (hp : a.tmps.getD p undef = .pointer (some ⟨g, 0, none⟩)) (hg : w.heap[g]? = some (.cells #[.bool b, v, .int .i64 s] T fr)) (hd : a.defers = []) (hR : R (.returned (dv b v s)) w) : bodyPost Tryz.prog fn R .ret a w :=
  bodyPost_ret (results_cell_row h a.tmps w g T #[.bool b, v, .int .i64 s] fr _ hp hg Tryz.underlying28 rfl infoD) hd hR
theorem block_cells {w : World} {g : Nat} {b : Bool} {v : Value} {s : Int} {T : TypeId} (h : w.heap[g]? = some (.cells #[.bool b, v, .int .i64 s] T)) :
    w.cell? ⟨g, 0, none⟩ = some (.bool b) ∧ w.cell? ⟨g, 1, none⟩ = some v ∧ w.cell? ⟨g, 2, none⟩ = some (.int .i64 s) ∧ w.frozen? ⟨g, 0, none⟩ = false ∧ w.frozen? ⟨g, 1, none⟩ = false ∧ w.frozen? ⟨g, 2, none⟩ = false := by
  simp [World.cell?, World.frozen?, h]
theorem may_any (g : Bool) (v : Value) (s : Int) (L : List Int) (w : World) (hv : Lst w v L) (hl : L.length < 1000000) (hs : -9223372036854775808 ≤ s ∧ s ≤ 9223372036854775807) :
    Calls Tryz.prog 41 #[dv g v s] w fun e w' => e = .returned (.bool (Dm.okB L && decide (0 ≤ s) && decide (s ≤ 1000))) ∧ Q w w' := by
  obtain ⟨a, c, rfl⟩ := hv.shape
  have M := Lib.hid (fun w' (q : Q w w') => Dr.may_any _ L w' (hv.q q) (by omega))
  generalize L.length = n at *
  generalize Dm.okB L = r at *
  obtain ⟨hs1, hs2⟩ := hs
  clear hv
  go_enter Tryz.func41, Tryz.ntmps41
  unfold dv
  go_wp2_with fail
  refine (M.out _ ((Q.refl w).alloc _)).mono ?_
  rintro e w1 ⟨rfl, rfl⟩
  cases r
  · go_wp2_with fail
    go_ret
    exact ⟨by simp, (Q.refl w).alloc _⟩
  · by_cases h1 : 0 ≤ s
    · by_cases h2 : s ≤ 1000
      · go_wp2_with fail
        go_ret
        exact ⟨by simp [h1, h2], (Q.refl w).alloc _⟩
      · go_wp2_with fail
        go_ret
        exact ⟨retB (by simp; omega), (Q.refl w).alloc _⟩
    · go_wp2_with fail
      go_ret
      exact ⟨retB (by simp; omega), (Q.refl w).alloc _⟩
theorem block_set {w : World} {g : Nat} {x y z x' y' z' : Value} {T : TypeId} (h : w.heap[g]? = some (.cells #[x, y, z] T)) :
    (((w.setCell ⟨g, 0, none⟩ x').setCell ⟨g, 1, none⟩ y').setCell ⟨g, 2, none⟩ z').heap[g]? = some (.cells #[x', y', z'] T) := by
  have h1 := heap_setCell_same w g 0 _ T x' h
  have h2 := heap_setCell_same _ g 1 _ T y' h1
  have h3 := heap_setCell_same _ g 2 _ T z' h2
  exact h3
def cellV (b i : Nat) (u : World) : Value := (u.cell? ⟨b, i, none⟩).getD undef
def SD (w : World) (g : Bool) (v : Value) (s : Int) (u : World) : Prop :=
  u.cell? ⟨w.heap.size, 0, none⟩ = some (.bool g) ∧ (u.cell? ⟨w.heap.size, 1, none⟩ = some (v) ∧ (u.cell? ⟨w.heap.size, 2, none⟩ = some (.int .i64 s) ∧ (u.cell? ⟨w.heap.size + 1, 0, none⟩ = some (cellV (w.heap.size + 1) 0 u) ∧ (u.cell? ⟨w.heap.size + 1, 1, none⟩ = some (cellV (w.heap.size + 1) 1 u) ∧ (u.cell? ⟨w.heap.size + 1, 2, none⟩ = some (cellV (w.heap.size + 1) 2 u) ∧ (u.frozen? ⟨w.heap.size + 1, 0, none⟩ = false ∧ (u.frozen? ⟨w.heap.size + 1, 1, none⟩ = false ∧ (u.frozen? ⟨w.heap.size + 1, 2, none⟩ = false ∧ (u.heap[w.heap.size]? = some (.cells #[.bool g, v, .int .i64 s] 28) ∧ ((∃ x y z, u.heap[w.heap.size + 1]? = some (.cells #[x, y, z] 28)) ∧ Q w u))))))))))
theorem some_cells {w : World} {g : Nat} {x y z : Value} {T : TypeId} (h : w.heap[g]? = some (.cells #[x, y, z] T)) :
    w.cell? ⟨g, 0, none⟩ = some (cellV g 0 w) ∧ w.cell? ⟨g, 1, none⟩ = some (cellV g 1 w) ∧ w.cell? ⟨g, 2, none⟩ = some (cellV g 2 w) ∧ w.frozen? ⟨g, 0, none⟩ = false ∧ w.frozen? ⟨g, 1, none⟩ = false ∧ w.frozen? ⟨g, 2, none⟩ = false := by
  simp [cellV, World.cell?, World.frozen?, h]
theorem SD.of {w u : World} {g : Bool} {v : Value} {s : Int} (h0 : u.heap[w.heap.size]? = some (.cells #[.bool g, v, .int .i64 s] 28)) (h1 : ∃ x y z, u.heap[w.heap.size + 1]? = some (.cells #[x, y, z] 28)) (hq : Q w u) : SD w g v s u := by
  obtain ⟨a0, a1, a2, a3, a4, a5⟩ := block_cells h0
  obtain ⟨x, y, z, h1⟩ := h1
  obtain ⟨b0, b1, b2, b3, b4, b5⟩ := some_cells h1
  exact ⟨a0, a1, a2, b0, b1, b2, b3, b4, b5, h0, ⟨x, y, z, h1⟩, hq⟩
theorem SD.q {w u u' : World} {g : Bool} {v : Value} {s : Int} (h : SD w g v s u) (hq : Q u u') : SD w g v s u' := by
  obtain ⟨_, _, _, _, _, _, _, _, _, h0, ⟨x, y, z, h1⟩, h2⟩ := h
  exact SD.of ((hq.block (lt_of_block h0)).trans h0) ⟨x, y, z, (hq.block (lt_of_block h1)).trans h1⟩ (h2.trans hq)
theorem SD.start (w : World) (g : Bool) (v : Value) (s : Int) : SD w g v s ((w.alloc (.cells #[.bool g, v, .int .i64 s] 28)).alloc (.cells #[.bool false, .slice none 0 0, .int .i64 0] 28)) :=
  SD.of (heap_alloc2_old _ _ _) ⟨_, _, _, heap_alloc2_new _ _ _⟩ (((Q.refl w).alloc _).alloc _)
theorem SD.put {w u : World} {g : Bool} {v : Value} {s : Int} (h : SD w g v s u) (x y z : Value) : SD w g v s (((u.setCell ⟨w.heap.size + 1, 0, none⟩ x).setCell ⟨w.heap.size + 1, 1, none⟩ y).setCell ⟨w.heap.size + 1, 2, none⟩ z) ∧
    (((u.setCell ⟨w.heap.size + 1, 0, none⟩ x).setCell ⟨w.heap.size + 1, 1, none⟩ y).setCell ⟨w.heap.size + 1, 2, none⟩ z).heap[w.heap.size + 1]? = some (.cells #[x, y, z] 28) := by
  obtain ⟨_, _, _, _, _, _, _, _, _, h0, ⟨x0, y0, z0, h1⟩, h2⟩ := h
  have hb := block_set (x' := x) (y' := y) (z' := z) h1
  refine ⟨SD.of ?_ ⟨x, y, z, hb⟩ (((h2.setCell (ad := ⟨w.heap.size + 1, 0, none⟩) (Nat.le_succ _) x).setCell (ad := ⟨w.heap.size + 1, 1, none⟩) (Nat.le_succ _) y).setCell (ad := ⟨w.heap.size + 1, 2, none⟩) (Nat.le_succ _) z), hb⟩
  rw [heap_setCell_other _ ⟨w.heap.size + 1, 2, none⟩ _ z (by simp), heap_setCell_other _ ⟨w.heap.size + 1, 1, none⟩ _ y (by simp), heap_setCell_other _ ⟨w.heap.size + 1, 0, none⟩ _ x (by simp)]
  exact h0
theorem Own.put {w u : World} {v : Value} {zs : List Int} (h : Own u (w.heap.size + 2) v zs) (x y z : Value) : Own (((u.setCell ⟨w.heap.size + 1, 0, none⟩ x).setCell ⟨w.heap.size + 1, 1, none⟩ y).setCell ⟨w.heap.size + 1, 2, none⟩ z) (w.heap.size + 2) v zs :=
  h.same fun g hg => by
    have hB := (h.lt g hg).1
    rw [heap_setCell_other _ ⟨w.heap.size + 1, 2, none⟩ _ z (by show g ≠ w.heap.size + 1; omega), heap_setCell_other _ ⟨w.heap.size + 1, 1, none⟩ _ y (by show g ≠ w.heap.size + 1; omega), heap_setCell_other _ ⟨w.heap.size + 1, 0, none⟩ _ x (by show g ≠ w.heap.size + 1; omega)]
theorem SD.room {w u : World} {g : Bool} {v : Value} {s : Int} (h : SD w g v s u) : w.heap.size + 2 ≤ u.heap.size := by
  obtain ⟨_, _, _, _, _, _, _, _, _, _, ⟨x, y, z, h1⟩, _⟩ := h
  exact lt_of_block h1
def LF (w : World) (B : Nat) (v : Value) (xs : List Int) : Prop := ∃ a n c, v = .slice a n c ∧ Lst w v xs ∧ n = xs.length ∧ ∀ ad, a = some ad → n ≠ 0 → B ≤ ad.block
theorem LF.lst {w : World} {B : Nat} {v : Value} {xs : List Int} (h : LF w B v xs) : Lst w v xs := by obtain ⟨_, _, _, _, h, _⟩ := h; exact h
theorem LF.q {w w' : World} {B : Nat} {v : Value} {xs : List Int} (h : LF w B v xs) (hq : Q w w') : LF w' B v xs := by obtain ⟨a, n, c, h0, h1, h2⟩ := h; exact ⟨a, n, c, h0, h1.q hq, h2⟩
theorem LF.mono {w : World} {B B' : Nat} {v : Value} {xs : List Int} (h : LF w B v xs) (hB : B' ≤ B) : LF w B' v xs := by obtain ⟨a, n, c, h0, h1, h2, h3⟩ := h; exact ⟨a, n, c, h0, h1, h2, fun ad ha hn => Nat.le_trans hB (h3 ad ha hn)⟩
theorem LF.of {w : World} {B : Nat} {v : Value} {xs : List Int} (h : Own w B v xs) : LF w B v xs := by
  rcases h.2 with ⟨hv, hn⟩ | ⟨g, cap, cur, hv, hg, _⟩
  · exact ⟨_, _, _, hv, h.lst, hn.symm, fun ad ha => by cases ha⟩
  · exact ⟨_, _, _, hv, h.lst, rfl, fun ad ha _ => by cases ha; exact hg⟩
theorem LF.nil (w : World) (B : Nat) : LF w B (.slice none 0 0) [] := ⟨_, _, _, rfl, .nil _ _ _ (by unfold maxLen; omega) (fun _ => rfl), rfl, fun ad ha => by cases ha⟩
theorem LF.put {u : World} {B r : Nat} {v : Value} {zs : List Int} (h : LF u B v zs) (hr : r < B) (x y z : Value) : LF (((u.setCell ⟨r, 0, none⟩ x).setCell ⟨r, 1, none⟩ y).setCell ⟨r, 2, none⟩ z) B v zs := by
  obtain ⟨a, n, c, rfl, h1, h2, h3⟩ := h
  have hne : ∀ (ad : Addr) (n' c' : Nat), (Value.slice a n c) = .slice (some ad) n' c' → n' ≠ 0 → ad.block ≠ r := by
    intro ad n' c' e hn
    cases e
    have := h3 ad rfl hn
    omega
  exact ⟨a, n, c, rfl, ((h1.setCell (ad := ⟨r, 0, none⟩) x hne).setCell (ad := ⟨r, 1, none⟩) y hne).setCell (ad := ⟨r, 2, none⟩) z hne, h2, h3⟩
theorem LF.shape {w : World} {B : Nat} {v : Value} {xs : List Int} (h : LF w B v xs) : ∃ a c, v = .slice a xs.length c := by obtain ⟨a, n, c, h0, _, h2, _⟩ := h; exact ⟨a, c, by rw [h0, h2]⟩
set_option maxHeartbeats 1600000 in
theorem good_any (g : Bool) (v : Value) (s : Int) (L : List Int) (m : Nat) (w : World) (hv : Lst w v L) (hs : -9223372036854775808 ≤ s ∧ s ≤ 9223372036854775807) (hm : m < 1000000) (hb : ∀ n ∈ L, -9223372036854775808 ≤ n ∧ n ≤ 9223372036854775807) :
    Calls Tryz.prog 16 #[dv g v s, .int .i64 m] w fun e w' => ∃ u, e = .returned (dv g u (Um.around s 10)) ∧ LF w' (w.heap.size + 2) u (Dm.gdL L m) ∧ Q w w' := by
  obtain ⟨a, c, rfl, hc1, hc2⟩ := hv.shape2
  have hgl := Dm.gdL_len L m
  have G := Lib.hid (fun u (h : SD w g (.slice a L.length c) s u) => (by
    refine (Dr.good_any _ L m u (hv.q h.2.2.2.2.2.2.2.2.2.2.2) (by unfold maxLen at hc2; omega) hm hb).mono ?_
    rintro e w' ⟨x, rfl, ho, hq⟩
    obtain ⟨xa, xc, rfl⟩ := ho.shape
    exact ⟨xa, xc, rfl, ho.mono h.room, h.q hq⟩ : Calls Tryz.prog 38 #[.slice a L.length c, .int .i64 m] u fun e w' => ∃ xa xc, e = .returned (.slice xa (Dm.gdL L m).length xc) ∧ Own w' (w.heap.size + 2) (.slice xa (Dm.gdL L m).length xc) (Dm.gdL L m) ∧ SD w g (.slice a L.length c) s w'))
  have A := Lib.hid (fun w => Ur.around_any s 10 w hs.1 hs.2 (by omega) (by omega))
  have HS := Lib.hid (SD.start w g (.slice a L.length c) s)
  generalize Dm.gdL L m = X at *
  generalize L.length = n at *
  generalize X.length = p at *
  generalize Um.around s 10 = t at *
  have PUT := Lib.hid (fun u (h : SD w g (.slice a n c) s u) x y z => h.put x y z)
  clear hv hb hgl
  go_enter Tryz.func16, Tryz.ntmps16
  unfold dv
  go_wp2_with fail
  have hst := HS.out.q ((Q.refl _).drew)
  have hst0 := HS.out
  unfold SD at hst hst0
  go_region_held3 (fun u => u.cell? ⟨w.heap.size, 0, none⟩ = some (.bool g) ∧ (u.cell? ⟨w.heap.size, 1, none⟩ = some (.slice a n c) ∧ (u.cell? ⟨w.heap.size, 2, none⟩ = some (.int .i64 s) ∧ (u.cell? ⟨w.heap.size + 1, 0, none⟩ = some (cellV (w.heap.size + 1) 0 u) ∧ (u.cell? ⟨w.heap.size + 1, 1, none⟩ = some (cellV (w.heap.size + 1) 1 u) ∧ (u.cell? ⟨w.heap.size + 1, 2, none⟩ = some (cellV (w.heap.size + 1) 2 u) ∧ (u.frozen? ⟨w.heap.size + 1, 0, none⟩ = false ∧ (u.frozen? ⟨w.heap.size + 1, 1, none⟩ = false ∧ (u.frozen? ⟨w.heap.size + 1, 2, none⟩ = false ∧ (u.heap[w.heap.size]? = some (.cells #[.bool g, .slice a n c, .int .i64 s] 28) ∧ ((∃ x y z, u.heap[w.heap.size + 1]? = some (.cells #[x, y, z] 28)) ∧ Q w u))))))))))) (first | exact hst | exact hst0 | assumption | exact (PUT.out _ (by assumption) _ _ _).1) (first | (go_at_call 38; refine (G.out _ ?_).mono ?_; assumption; rintro e w1 ⟨xa, xc, rfl, hlst, hS⟩; unfold SD at hS) | (go_at_call 7; refine (A.out _).mono ?_; rintro e y ⟨rfl, rfl⟩))
  have hfin := PUT.out w1 hS (.bool g) (.slice xa p xc) (.int .i64 t)
  have hown := Own.put hlst (.bool g) (.slice xa p xc) (.int .i64 t)
  have hqf : Q w _ := hfin.1.2.2.2.2.2.2.2.2.2.2.2
  have HF := Lib.hid hfin.2
  have HO := Lib.hid (LF.of hown)
  have HQ := Lib.hid hqf
  clear hfin hown hqf hst hst0
  go_wp2_with fail
  exact ret_dv rfl rfl HF.out rfl ⟨_, rfl, HO.out, HQ.out⟩
set_option maxHeartbeats 1600000 in
theorem trim_any (g : Bool) (v : Value) (s : Nat) (L : List Int) (w : World) (hv : Lst w v L) (hl : L.length < 1000000) (hd : Dm.okD L) (hs : s ≤ 1000000) :
    Calls Tryz.prog 30 #[dv g v s] w fun e w' => ∃ u, e = .returned (dv (Dm.cg g (Dm.num L)) u ((Dm.st (Dm.num L) s).2 : Nat)) ∧ LF w' (w.heap.size + 2) u (Dm.dg (Dm.st (Dm.num L) s).1) ∧ Q w w' := by
  obtain ⟨a, c, rfl, hc1, hc2⟩ := hv.shape2
  have htr := Dm.trim_eq L hd
  have T := Lib.hid (fun u (h : SD w g (.slice a L.length c) s u) => (by
    refine (Dr.trim_any _ L u (hv.q h.2.2.2.2.2.2.2.2.2.2.2) (by omega)).mono ?_
    rintro e w' ⟨x, rfl, ho, hq⟩
    rw [htr] at ho
    exact ⟨x, rfl, ho.mono h.room, h.q hq⟩ : Calls Tryz.prog 53 #[.slice a L.length c] u fun e w' => ∃ x, e = .returned x ∧ Own w' (w.heap.size + 2) x (Dm.dg (Dm.num L)) ∧ SD w g (.slice a L.length c) s w'))
  have HS := Lib.hid (SD.start w g (.slice a L.length c) s)
  have hdl := Dm.dg_len L hd
  have PUT := Lib.hid (fun u (h : SD w g (.slice a L.length c) s u) x y z => h.put x y z)
  generalize Dm.num L = M at *
  generalize L.length = n at *
  clear hv htr
  go_enter Tryz.func30, Tryz.ntmps30
  unfold dv
  go_wp2_with fail
  refine (T.out _ HS.out).mono ?_
  rintro e w1 ⟨u, rfl, ho, hS⟩
  by_cases hM : M = 0
  · subst hM
    rw [Dm.dg_zero] at ho
    obtain ⟨ua, uc, rfl⟩ := ho.shape
    have hfin := PUT.out w1 hS (.bool false) (.slice none 0 0) (.int .i64 0)
    have HF := Lib.hid hfin.2
    have hqf : Q w _ := hfin.1.2.2.2.2.2.2.2.2.2.2.2
    have HQ := Lib.hid hqf
    unfold SD at hS
    obtain ⟨a0, a1, a2, b0, b1, b2, b3, b4, b5, _, _, _⟩ := hS
    have HZ := Lib.hid (Dm.st_zero s)
    clear hfin hqf ho
    go_wp2_with fail
    refine ret_dv rfl rfl HF.out rfl ⟨.slice none 0 0, ?_, ?_, HQ.out⟩
    · rw [HZ.out]; rfl
    · rw [HZ.out, Dm.dg_zero]; exact LF.nil _ _
  · obtain ⟨p, hp⟩ : ∃ p, p = (Dm.dg M).length := ⟨_, rfl⟩
    have hp0 : 0 < p := by have := (Dm.dg_last M hM).1; omega
    obtain ⟨b, cp, rfl, hb, hbw, hpc, hpm⟩ := ho.head hp.symm hp0
    have HL := Lib.hid ho.lst
    have HSD := Lib.hid hS
    have HP := Lib.hid hp
    have HCG := Lib.hid (Dm.cg_pos (g := g) hM)
    unfold SD at hS
    obtain ⟨a0, a1, a2, b0, b1, b2, b3, b4, b5, _, _, _⟩ := hS
    unfold maxLen at hpm
    have hne : ¬ p = 0 := by omega
    have hpn : p ≤ n := by omega
    clear ho hp hdl
    go_wp2_with fail
    go_loop [3, 4] (fun x t => ∃ (M' n' q : Nat), x = .slice (some ⟨b, 0, none⟩) q cp ∧ t = .int .i64 n' ∧ M' ≠ 0 ∧ q = (Dm.dg M').length ∧ q ≤ p ∧ n' ≤ s ∧ Lst w1 (.slice (some ⟨b, 0, none⟩) q cp) (Dm.dg M') ∧ Dm.st M' n' = Dm.st M s) (fun _ t => (intOf t).toNat)
    case atStart => exact ⟨M, s, p, rfl, rfl, hM, HP.out, Nat.le_refl _, Nat.le_refl _, HL.out, rfl⟩
    case round =>
      obtain ⟨M', n', q, rfl, rfl, hM', hq, hqp, hns, hl', hst⟩ := hrel
      obtain ⟨e1, e2, e3⟩ := Dm.dg_last M' hM'
      rw [← hq] at e1 e2 e3
      have hq0 : 0 < q := by omega
      obtain ⟨r, rfl⟩ : ∃ r, q = r + 1 := ⟨q - 1, by omega⟩
      rw [Nat.add_sub_cancel] at e2 e3
      obtain ⟨g2, off2, cap2, hv2, _, _, _, c1⟩ := hl'.cellOf hq.symm (Nat.lt_succ_self r)
      cases hv2
      rw [e2, Nat.zero_add] at c1
      have hqi : ((r + 1 : Nat) : Int) - 1 = (r : Int) := by omega
      have ht := hl'.take r (by rw [← hq]; omega)
      rw [e3] at ht
      have HT := Lib.hid ht
      have HQ0 := Lib.hid hq
      have HL' := Lib.hid hl'
      have HST := Lib.hid hst
      have HQ1 := Lib.hid (show r = (Dm.dg (M' / 10)).length from by omega)
      have hfin := fun x y z => PUT.out w1 HSD.out x y z
      have PF := Lib.hid hfin
      have hrc : (r : Int) ≤ (cp : Int) := by omega
      clear e1 e2 e3 hq ht hl' hst hfin
      by_cases hn0 : n' = 0
      · subst hn0
        have hfn := PF.out (.bool g) (.slice (some ⟨b, 0, none⟩) (r + 1) cp) (.int .i64 0)
        have HF := Lib.hid hfn.2
        have hqf : Q w _ := hfn.1.2.2.2.2.2.2.2.2.2.2.2
        have HQ := Lib.hid hqf
        have HLL := Lib.hid (((HL'.out.setCell (ad := ⟨w.heap.size + 1, 0, none⟩) (.bool g) (fun a n c h _ => by cases h; show b ≠ w.heap.size + 1; omega)).setCell (ad := ⟨w.heap.size + 1, 1, none⟩) (.slice (some ⟨b, 0, none⟩) (r + 1) cp) (fun a n c h _ => by cases h; show b ≠ w.heap.size + 1; omega)).setCell (ad := ⟨w.heap.size + 1, 2, none⟩) (.int .i64 0) (fun a n c h _ => by cases h; show b ≠ w.heap.size + 1; omega))
        have hs2 := HST.out
        rw [Dm.st] at hs2
        have HS2 := Lib.hid hs2
        clear hfn hqf hs2
        go_wp2_with fail
        refine ret_dv rfl rfl HF.out rfl ⟨.slice (some ⟨b, 0, none⟩) (r + 1) cp, ?_, ?_, HQ.out⟩
        · rw [HCG.out, ← HS2.out]; rfl
        · rw [← HS2.out]; exact ⟨_, _, _, rfl, HLL.out, HQ0.out, fun ad ha _ => by cases ha; exact hb⟩
      · obtain ⟨n2, rfl⟩ : ∃ n2, n' = n2 + 1 := ⟨n' - 1, by omega⟩
        by_cases hz : M' % 10 = 0
        · have hz2 : ((M' % 10 : Nat) : Int) = 0 := by omega
          rw [hz2] at c1
          have HN := Lib.hid ((Dm.st_on M' n2 hz).symm.trans HST.out)
          have hM2 : M' / 10 ≠ 0 := by omega
          clear hz hz2
          go_wp2_with fail
          exact ⟨⟨M' / 10, n2, r, by first | rfl | go_num, by go_num, hM2, HQ1.out, by omega, by omega, HT.out, HN.out⟩, by simp [intOf]⟩
        · obtain ⟨x, hx⟩ : ∃ x : Int, x = ((M' % 10 : Nat) : Int) := ⟨_, rfl⟩
          rw [← hx] at c1
          have e5 : (x == 0) = false := beq_eq_false_iff_ne.2 (by omega)
          have hfn := PF.out (.bool g) (.slice (some ⟨b, 0, none⟩) (r + 1) cp) (.int .i64 ((n2 : Int) + 1))
          have HF := Lib.hid hfn.2
          have hqf : Q w _ := hfn.1.2.2.2.2.2.2.2.2.2.2.2
          have HQ := Lib.hid hqf
          have HLL := Lib.hid (((HL'.out.setCell (ad := ⟨w.heap.size + 1, 0, none⟩) (.bool g) (fun a n c h _ => by cases h; show b ≠ w.heap.size + 1; omega)).setCell (ad := ⟨w.heap.size + 1, 1, none⟩) (.slice (some ⟨b, 0, none⟩) (r + 1) cp) (fun a n c h _ => by cases h; show b ≠ w.heap.size + 1; omega)).setCell (ad := ⟨w.heap.size + 1, 2, none⟩) (.int .i64 ((n2 : Int) + 1)) (fun a n c h _ => by cases h; show b ≠ w.heap.size + 1; omega))
          have HS2 := Lib.hid ((Dm.st_end M' n2 hz).symm.trans HST.out)
          clear hfn hqf hz hx
          go_wp2_with fail
          refine ret_dv rfl rfl HF.out rfl ⟨.slice (some ⟨b, 0, none⟩) (r + 1) cp, ?_, ?_, HQ.out⟩
          · rw [HCG.out, ← HS2.out]; rfl
          · rw [← HS2.out]; exact ⟨_, _, _, rfl, HLL.out, HQ0.out, fun ad ha _ => by cases ha; exact hb⟩
end Er
end Go.Proofs.YtagpofhencpliaaGreatDoor
