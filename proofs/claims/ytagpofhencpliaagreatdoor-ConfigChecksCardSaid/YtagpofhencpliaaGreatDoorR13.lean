/- What the document's own Same, Few and Times of decimals come to, by a walk through each. (and more) -/
import Derived.Test.YtagpofhencpliaaGreatDoorR00
import Derived.Test.YtagpofhencpliaaGreatDoorR02
import Derived.Test.YtagpofhencpliaaGreatDoorR10
import Derived.Test.YtagpofhencpliaaGreatDoorR09
import Derived.Test.YtagpofhencpliaaGreatDoorR05
import Derived.Test.YtagpofhencpliaaGreatDoorR08
import Derived.Test.YtagpofhencpliaaGreatDoorR03
import Derived.Test.YtagpofhencpliaaGreatDoorR04
import Derived.Test.YtagpofhencpliaaGreatDoorRows
import Derived.Test.YtagpofhencpliaaGreatDoorR06
import Derived.Deep.QuietTactic
import Derived.Deep.RegionWith
import Derived.Deep.RegionHeld3
import Derived.BigQuiet
import Derived.Laws.ResultCell
set_option linter.unusedVariables false
set_option linter.unusedSimpArgs false
namespace Go.Proofs.YtagpofhencpliaaGreatDoor
open Go.RowKit
namespace Er
theorem ret_dv2 {fn : Func} {p q : Tmp} (h : fn.results = #[.cell p 28, .tmp q]) {R : Ending → World → Prop} {a : Act} {w : World} {g : Nat} {b : Bool} {v : Value} {s : Int} {T : TypeId} {fr : Nat × Nat} {x : Value}
    (hp : a.tmps.getD p undef = .pointer (some ⟨g, 0, none⟩)) (hq : a.tmps.getD q undef = x) (hg : w.heap[g]? = some (.cells #[.bool b, v, .int .i64 s] T fr)) (hd : a.defers = []) (hR : R (.returned (.tuple #[dv b v s, x])) w) : bodyPost Tryz.prog fn R .ret a w := by
  refine bodyPost_ret (v := .tuple #[dv b v s, x]) ?_ hd hR
  rw [results_cell_tmp h, hp, hq]
  simp [asAddr, Result.andThen, run_loadVar_row w g T 28 #[.bool b, v, .int .i64 s] fr _ hg Tryz.underlying28 rfl infoD, dv]
theorem wrapI {x : Int} (h0 : -9223372036854775808 ≤ x) (h1 : x ≤ 9223372036854775807) : IntKind.i64.wrap x = x := by
  rw [IntKind.wrap_i64]; omega
set_option maxHeartbeats 800000 in
theorem same_eq (g : Bool) (v u : Value) (s : Int) (xs : List Int) (w : World) (hv : Lst w v xs) (hu : Lst w u xs) (hl : xs.length < 1000000) :
    Calls Tryz.prog 32 #[dv g v s, dv g u s] w fun e w' => e = .returned (.bool true) ∧ Q w w' := by
  have M := Lib.hid (fun w' (q : Q w w') => Ur.same_any v u xs xs w' (hv.q q) (hu.q q) (by omega) (by omega))
  simp only [decide_true] at M
  obtain ⟨a, c, rfl⟩ := hv.shape
  obtain ⟨b, d, rfl⟩ := hu.shape
  generalize xs.length = n at *
  have hk := fun w' (q : Q ((w.alloc (.cells #[.bool g, .slice a n c, .int .i64 s] 28)).alloc (.cells #[.bool g, .slice b n d, .int .i64 s] 28)) w') => And.intro (block_cells ((q.block (lt_of_block (heap_alloc2_old w _ _))).trans (heap_alloc2_old w _ _))) (block_cells ((q.block (lt_of_block (heap_alloc2_new w _ _))).trans (heap_alloc2_new w _ _)))
  have HK := Lib.hid hk
  clear hv hu hk
  go_enter Tryz.func32, Tryz.ntmps32
  unfold dv
  go_wp2_with fail
  refine (M.out _ (((Q.refl w).alloc _).alloc _)).mono ?_
  rintro e w1 ⟨rfl, hq⟩
  obtain ⟨⟨a0, a1, a2, _, _, _⟩, ⟨b0, b1, b2, _, _, _⟩⟩ := HK.out w1 hq
  have HQ := Lib.hid ((((Q.refl w).alloc _).alloc _).trans hq)
  clear hq
  cases g
  all_goals
    go_wp2_with fail
    go_ret
    exact ⟨rfl, HQ.out⟩
end Er
end Go.Proofs.YtagpofhencpliaaGreatDoor
namespace Go.Proofs.YtagpofhencpliaaGreatDoor
open Go.RowKit
namespace Dm
def fin (g : Bool) (r : Option (List Int × Bool × Nat × Nat)) : Bool × List Int × Nat × Int :=
  match r with
  | none => (false, [], 0, 2)
  | some (ds, pt, sc, ah) => if ah = 0 ∨ (pt = true ∧ sc = 0) then (false, [], 0, 2) else if 1000 < sc then (false, [], 0, 3) else (g, ds, sc, 0)
theorem prs_fin (l : List UInt8) : prs l = fin (sgn l) (scan (bod l) [] false 0 0) := rfl
theorem scan_ah (l : List UInt8) (ds : List Int) (sc ah : Nat) : scan l ds true sc ah = none ∨ ∃ ds' sc', scan l ds true sc ah = some (ds', true, sc', ah) := by
  induction l generalizing ds sc with
  | nil => exact .inr ⟨ds, sc, rfl⟩
  | cons c r ih =>
    rw [scan]
    rw [if_neg (by simp)]
    split
    · rw [if_pos rfl]; exact ih _ _
    · exact .inl rfl
theorem fin_zero (g : Bool) (l : List UInt8) (ds : List Int) (sc : Nat) : fin g (scan l ds true sc 0) = (false, [], 0, 2) := by
  rcases scan_ah l ds sc 0 with h | ⟨ds', sc', h⟩
  · rw [h]; rfl
  · rw [h]; unfold fin; exact if_pos (.inl rfl)
theorem scan_dot (r : List UInt8) (c : UInt8) (ds : List Int) (sc ah : Nat) (hc : c.toNat = 46) : scan (c :: r) ds false sc ah = scan r ds true sc ah := by
  rw [scan, if_pos ⟨hc, rfl⟩]
theorem scan_num (r : List UInt8) (c : UInt8) (ds : List Int) (pt : Bool) (sc ah : Nat) (hc : 48 ≤ c.toNat ∧ c.toNat ≤ 57) :
    scan (c :: r) ds pt sc ah = scan r (ds ++ [(c.toNat : Int) - 48]) pt (if pt = true then sc + 1 else sc) (if pt = true then ah else ah + 1) := by
  rw [scan, if_neg (by omega), if_pos hc]
  cases pt <;> simp
theorem scan_none (r : List UInt8) (c : UInt8) (ds : List Int) (pt : Bool) (sc ah : Nat) (h1 : ¬ (c.toNat = 46 ∧ pt = false)) (h2 : ¬ (48 ≤ c.toNat ∧ c.toNat ≤ 57)) : scan (c :: r) ds pt sc ah = none := by
  rw [scan, if_neg h1, if_neg h2]
def PI (l : List UInt8) (pos : Nat) (g : Bool) (ds : List Int) (pt : Bool) (sc : Nat) : Prop :=
  ds.length ≤ pos ∧ sc ≤ pos ∧
  ((pos = 0 ∧ sgn l = true ∧ g = false ∧ ds = [] ∧ pt = false ∧ sc = 0) ∨
   ∃ ah, g = sgn l ∧ (pos ≠ 0 ∨ sgn l = false) ∧ scan (l.drop pos) ds pt sc ah = scan (bod l) [] false 0 0 ∧ (pt = false → sc = 0 ∧ ah = ds.length) ∧ (pt = true → 0 < ah ∧ sc + ah = ds.length))
theorem PI.start (l : List UInt8) : PI l 0 false [] false 0 := by
  refine ⟨Nat.le_refl _, Nat.le_refl _, ?_⟩
  cases h : sgn l
  · refine .inr ⟨0, rfl, .inr rfl, ?_, fun _ => ⟨rfl, rfl⟩, fun h => Bool.noConfusion h⟩
    unfold bod
    rw [h, if_neg (by decide), List.drop_zero]
  · exact .inl ⟨rfl, rfl, rfl, rfl, rfl, rfl⟩
theorem sgn_at (l : List UInt8) (b : UInt8) (r : List UInt8) (h : l = b :: r) : sgn l = decide (b.toNat = 45) := by
  subst h
  unfold sgn
  have e : (b :: r).take 1 = [b] := rfl
  rw [e]
  by_cases hb : b.toNat = 45
  · have : b = 45 := by
      have h2 : UInt8.ofNat b.toNat = b := UInt8.ofNat_toNat
      rw [hb] at h2
      exact h2.symm
    subst this; rfl
  · rw [decide_eq_false hb]
    refine decide_eq_false fun h => hb ?_
    have h2 : b = 45 := by simpa using h
    rw [h2]; rfl
theorem PI.neg {l : List UInt8} {g pt : Bool} {ds : List Int} {sc : Nat} {b : UInt8} {r : List UInt8} (h : PI l 0 g ds pt sc) (hl : l.drop 0 = b :: r) (hb : b.toNat = 45) : PI l 1 true ds pt sc := by
  rw [List.drop_zero] at hl
  have hs := sgn_at l b r hl
  rw [decide_eq_true hb] at hs
  obtain ⟨h1, h2, h⟩ := h
  rcases h with ⟨_, _, rfl, rfl, rfl, rfl⟩ | ⟨ah, _, h3, _⟩
  · refine ⟨by simp, by omega, .inr ⟨0, hs.symm, .inl (by omega), ?_, fun _ => ⟨rfl, rfl⟩, fun h => Bool.noConfusion h⟩⟩
    unfold bod
    rw [hs, if_pos rfl]
  · rw [hs] at h3; rcases h3 with h3 | h3
    · exact absurd rfl h3
    · exact Bool.noConfusion h3
theorem PI.dot {l : List UInt8} {pos : Nat} {g : Bool} {ds : List Int} {sc : Nat} {b : UInt8} (h : PI l pos g ds false sc) (hl : l.drop pos = b :: l.drop (pos + 1)) (hb : b.toNat = 46) (hd : 0 < ds.length) : PI l (pos + 1) g ds true sc := by
  obtain ⟨h1, h2, h⟩ := h
  rcases h with ⟨rfl, _, _, rfl, _, _⟩ | ⟨ah, e1, e2, e3, e4, _⟩
  · simp at hd
  · obtain ⟨rfl, rfl⟩ := e4 rfl
    refine ⟨by omega, by omega, .inr ⟨ds.length, e1, .inl (by omega), ?_, fun h => Bool.noConfusion h, fun _ => ⟨hd, by omega⟩⟩⟩
    rw [← e3, hl, scan_dot _ _ _ _ _ hb]
theorem PI.num {l : List UInt8} {pos : Nat} {g pt : Bool} {ds : List Int} {sc : Nat} {b : UInt8} (h : PI l pos g ds pt sc) (hl : l.drop pos = b :: l.drop (pos + 1)) (hb : 48 ≤ b.toNat ∧ b.toNat ≤ 57) : PI l (pos + 1) g (ds ++ [(b.toNat : Int) - 48]) pt (if pt = true then sc + 1 else sc) := by
  obtain ⟨h1, h2, h⟩ := h
  rcases h with ⟨rfl, hs, _, rfl, _, _⟩ | ⟨ah, e1, e2, e3, e4, e5⟩
  · rw [List.drop_zero] at hl
    rw [sgn_at l b _ hl] at hs
    have := of_decide_eq_true hs
    omega
  · have el : (ds ++ [(b.toNat : Int) - 48]).length = ds.length + 1 := by rw [List.length_append]; rfl
    refine ⟨by omega, by split <;> omega, .inr ⟨if pt = true then ah else ah + 1, e1, .inl (by omega), ?_, ?_, ?_⟩⟩
    · rw [← e3, hl, scan_num _ _ _ _ _ _ hb]
    · rintro rfl
      obtain ⟨q1, q2⟩ := e4 rfl
      rw [el]
      exact ⟨q1, by show ah + 1 = _; omega⟩
    · rintro rfl
      obtain ⟨q1, q2⟩ := e5 rfl
      rw [el]
      exact ⟨q1, by show sc + 1 + ah = _; omega⟩
theorem PI.bad {l : List UInt8} {pos : Nat} {g pt : Bool} {ds : List Int} {sc : Nat} {b : UInt8} (h : PI l pos g ds pt sc) (hl : l.drop pos = b :: l.drop (pos + 1)) (h1 : ¬ (b.toNat = 45 ∧ pos = 0)) (h2 : ¬ (b.toNat = 46 ∧ pt = false ∧ 0 < ds.length)) (h3 : ¬ (48 ≤ b.toNat ∧ b.toNat ≤ 57)) : prs l = (false, [], 0, 2) := by
  obtain ⟨_, _, h⟩ := h
  rw [prs_fin]
  rcases h with ⟨rfl, hs, _, rfl, _, _⟩ | ⟨ah, e1, e2, e3, e4, e5⟩
  · rw [List.drop_zero] at hl
    rw [sgn_at l b _ hl] at hs
    have := of_decide_eq_true hs
    omega
  · rw [← e3, hl]
    by_cases hd : b.toNat = 46 ∧ pt = false
    · obtain ⟨hd1, rfl⟩ := hd
      obtain ⟨rfl, rfl⟩ := e4 rfl
      have hz : ds.length = 0 := by
        rcases Nat.eq_zero_or_pos ds.length with h | h
        · exact h
        · exact absurd ⟨hd1, rfl, h⟩ h2
      rw [scan_dot _ _ _ _ _ hd1, hz]
      exact fin_zero _ _ _ _
    · rw [scan_none _ _ _ _ _ _ hd h3]; rfl
theorem PI.done {l : List UInt8} {pos : Nat} {g pt : Bool} {ds : List Int} {sc : Nat} (h : PI l pos g ds pt sc) (hl : pos = l.length) : prs l = if ds.length = 0 ∨ (pt = true ∧ sc = 0) then (false, [], 0, 2) else if 1000 < sc then (false, [], 0, 3) else (g, ds, sc, 0) := by
  obtain ⟨_, _, h⟩ := h
  rw [prs_fin]
  rcases h with ⟨rfl, hs, _, rfl, _, _⟩ | ⟨ah, e1, e2, e3, e4, e5⟩
  · have : l = [] := List.eq_nil_of_length_eq_zero hl.symm
    subst this
    simp [sgn] at hs
  · rw [← e3, hl, List.drop_length, scan, ← e1]
    unfold fin
    have ha : ah = 0 ↔ ds.length = 0 := by
      cases pt
      · have := (e4 rfl).2; omega
      · have := e5 rfl; omega
    show (if ah = 0 ∨ (pt = true ∧ sc = 0) then _ else if 1000 < sc then _ else _) = _
    simp only [ha]
theorem dec_low (b : UInt8) (r : List UInt8) (h : b.toNat < 128) : Um.dec (b :: r) = (b.toNat, 1) ∧ (Um.mrk (b :: r)).2.1 = 1 := by
  have hv : Um.vld (b.toNat : Int) = true := (Um.vld_iff _).2 (by omega)
  have e1 := Um.enc1 (b.toNat : Int) (by omega) (by omega)
  have e2 : UInt8.ofNat ((b.toNat : Int)).toNat = b := by rw [Int.toNat_natCast]; exact UInt8.ofNat_toNat
  rw [e2] at e1
  have h1 := Um.dec_enc (b.toNat : Int) r hv
  have h2 := Um.mark_enc (b.toNat : Int) r hv
  rw [e1] at h1 h2
  have e3 : [b] ++ r = b :: r := rfl
  rw [e3] at h1 h2
  refine ⟨?_, ?_⟩
  · rw [h1]; simp
  · rw [h2]; rfl
theorem dec_high (b : UInt8) (r : List UInt8) (h : 128 ≤ b.toNat) : 128 ≤ (Um.dec (b :: r)).1 := by
  rcases hs : Um.spo (b :: r) with _ | _
  · obtain ⟨c, t, hv, hl⟩ := (Um.spo_false_iff (b :: r) (by simp)).1 hs
    rw [hl, Um.dec_enc c t hv]
    show 128 ≤ c.toNat
    rcases Nat.lt_or_ge c.toNat 128 with hc | hc
    · have hv2 := (Um.vld_iff c).1 hv
      have e1 := Um.enc1 c (by omega) (by omega)
      rw [e1] at hl
      have : b = UInt8.ofNat c.toNat := (List.cons.inj hl).1
      rw [this, Um.u8_nat _ (by omega)] at h
      omega
    · exact hc
  · unfold Um.spo at hs
    have e := eq_of_beq hs
    rw [e]
    decide
end Dm
namespace Er
def PS (T : TypeId) (w : World) (D B : Nat) (g : Bool) (u : Value) (sc : Int) (ds : List Int) (wr : World) : Prop :=
  wr.heap[w.heap.size]? = some (.cells #[.bool false, .slice none 0 0, .int .i64 0] T) ∧ wr.heap[D]? = some (.cells #[.bool g, u, .int .i64 sc] T) ∧ w.heap.size < D ∧ w.heap.size < B ∧ B ≤ wr.heap.size ∧ Own wr B u ds ∧ Q w wr
theorem PS.room {T : TypeId} {w wr : World} {D B : Nat} {g : Bool} {u : Value} {sc : Int} {ds : List Int} (h : PS T w D B g u sc ds wr) : B ≤ wr.heap.size := h.2.2.2.2.1
theorem PS.q {T : TypeId} {w wr w' : World} {D B : Nat} {g : Bool} {u : Value} {sc : Int} {ds : List Int} (h : PS T w D B g u sc ds wr) (hq : Q wr w') : PS T w D B g u sc ds w' := by
  obtain ⟨h1, h2, h3, h4, h5, h6, h7⟩ := h
  exact ⟨(hq.block (lt_of_block h1)).trans h1, (hq.block (lt_of_block h2)).trans h2, h3, h4, Nat.le_trans h5 hq.le, h6.q hq, h7.trans hq⟩
theorem PS.iterAt {T : TypeId} {w wr : World} {D B I : Nat} {g : Bool} {u : Value} {sc : Int} {ds : List Int} (h : PS T w D B g u sc ds wr) {s : ByteArray} {pos : Nat} (hk : wr.heap[I]? = some (.stringIter s pos)) (hI : w.heap.size ≤ I) (p : Nat) : PS T w D B g u sc ds (wr.iterAt I s p) := by
  obtain ⟨h1, h2, h3, h4, h5, h6, h7⟩ := h
  have n1 : w.heap.size ≠ I := by rintro rfl; rw [hk] at h1; cases h1
  have n2 : D ≠ I := by rintro rfl; rw [hk] at h2; cases h2
  refine ⟨(Lib.iterAt_other wr I w.heap.size s p n1).trans h1, (Lib.iterAt_other wr I D s p n2).trans h2, h3, h4, ?_, h6.iterAt hk p, h7.iterAt hI s p⟩
  have := h7.iterAt hI s p
  have e : (wr.iterAt I s p).heap.size = wr.heap.size := by unfold World.iterAt; simp
  omega
theorem own_ne {w : World} {B D : Nat} {v : Value} {zs : List Int} (h : Own w B v zs) {cs : Array Value} {T : TypeId} {fr : Nat × Nat} (hD : w.heap[D]? = some (.cells cs T fr)) (hT : T ≠ 3) : v.ownBlock ≠ some D := by
  intro e
  obtain ⟨cur, hc⟩ := h.cells D e
  rw [hD] at hc
  cases hc
  exact hT rfl
theorem PS.grown {T : TypeId} {w wr w' : World} {D B : Nat} {g : Bool} {u v : Value} {sc : Int} {ds es : List Int} (h : PS T w D B g u sc ds wr) (hT : T ≠ 3) (hg : wr.grownBy w' u.ownBlock) (ho : Own w' B v es) : PS T w D B g v sc es (w'.setCell ⟨D, 1, none⟩ v) := by
  obtain ⟨h1, h2, h3, h4, h5, h6, h7⟩ := h
  have e1 := (hg.block w.heap.size (lt_of_block h1) (fun e => own_ne h6 h1 hT e.symm)).trans h1
  have e2 := (hg.block D (lt_of_block h2) (fun e => own_ne h6 h2 hT e.symm)).trans h2
  have hq := h7.grown hg (fun k e => by have := (h6.lt k e).1; omega)
  refine ⟨?_, heap_setCell_same _ D 1 _ T v e2, h3, h4, ?_, ?_, hq.setCell (ad := ⟨D, 1, none⟩) (by show w.heap.size ≤ D; omega) v⟩
  · rw [heap_setCell_other _ ⟨D, 1, none⟩ _ v (by show w.heap.size ≠ D; omega)]; exact e1
  · have := hg.size
    rw [World.size_setCell]; omega
  · refine ho.same fun b hb => ?_
    rw [heap_setCell_other _ ⟨D, 1, none⟩ _ v (by rintro rfl; exact own_ne ho e2 hT hb)]
theorem PS.neg {T : TypeId} {w wr : World} {D B : Nat} {g : Bool} {u : Value} {sc : Int} {ds : List Int} (h : PS T w D B g u sc ds wr) (hT : T ≠ 3) : PS T w D B true u sc ds (wr.setCell ⟨D, 0, none⟩ (.bool true)) := by
  obtain ⟨h1, h2, h3, h4, h5, h6, h7⟩ := h
  refine ⟨?_, heap_setCell_same _ D 0 _ T _ h2, h3, h4, by rw [World.size_setCell]; exact h5, ?_, h7.setCell (ad := ⟨D, 0, none⟩) (by show w.heap.size ≤ D; omega) _⟩
  · rw [heap_setCell_other _ ⟨D, 0, none⟩ _ _ (by show w.heap.size ≠ D; omega)]; exact h1
  · refine h6.same fun b hb => ?_
    rw [heap_setCell_other _ ⟨D, 0, none⟩ _ _ (by rintro rfl; exact own_ne h6 h2 hT hb)]
theorem PS.scale {T : TypeId} {w wr : World} {D B : Nat} {g : Bool} {u : Value} {sc : Int} {ds : List Int} (h : PS T w D B g u sc ds wr) (hT : T ≠ 3) (k : Int) : PS T w D B g u k ds (wr.setCell ⟨D, 2, none⟩ (.int .i64 k)) := by
  obtain ⟨h1, h2, h3, h4, h5, h6, h7⟩ := h
  refine ⟨?_, heap_setCell_same _ D 2 _ T _ h2, h3, h4, by rw [World.size_setCell]; exact h5, ?_, h7.setCell (ad := ⟨D, 2, none⟩) (by show w.heap.size ≤ D; omega) _⟩
  · rw [heap_setCell_other _ ⟨D, 2, none⟩ _ _ (by show w.heap.size ≠ D; omega)]; exact h1
  · refine h6.same fun b hb => ?_
    rw [heap_setCell_other _ ⟨D, 2, none⟩ _ _ (by rintro rfl; exact own_ne h6 h2 hT hb)]
theorem PS.put {T : TypeId} {w wr : World} {D B : Nat} {g : Bool} {u : Value} {sc : Int} {ds : List Int} (h : PS T w D B g u sc ds wr) (hT : T ≠ 3) (x y z : Value) :
    (((wr.setCell ⟨w.heap.size, 0, none⟩ x).setCell ⟨w.heap.size, 1, none⟩ y).setCell ⟨w.heap.size, 2, none⟩ z).heap[w.heap.size]? = some (.cells #[x, y, z] T) ∧
    Lst (((wr.setCell ⟨w.heap.size, 0, none⟩ x).setCell ⟨w.heap.size, 1, none⟩ y).setCell ⟨w.heap.size, 2, none⟩ z) u ds ∧
    Q w (((wr.setCell ⟨w.heap.size, 0, none⟩ x).setCell ⟨w.heap.size, 1, none⟩ y).setCell ⟨w.heap.size, 2, none⟩ z) := by
  obtain ⟨h1, h2, h3, h4, h5, h6, h7⟩ := h
  refine ⟨block_set h1, ?_, ((h7.setCell (ad := ⟨w.heap.size, 0, none⟩) (Nat.le_refl _) x).setCell (ad := ⟨w.heap.size, 1, none⟩) (Nat.le_refl _) y).setCell (ad := ⟨w.heap.size, 2, none⟩) (Nat.le_refl _) z⟩
  refine (h6.same fun b hb => ?_ : Own _ B u ds).lst
  have hB := (h6.lt b hb).1
  rw [heap_setCell_other _ ⟨w.heap.size, 2, none⟩ _ z (by show b ≠ w.heap.size; omega), heap_setCell_other _ ⟨w.heap.size, 1, none⟩ _ y (by show b ≠ w.heap.size; omega), heap_setCell_other _ ⟨w.heap.size, 0, none⟩ _ x (by show b ≠ w.heap.size; omega)]
end Er
end Go.Proofs.YtagpofhencpliaaGreatDoor
