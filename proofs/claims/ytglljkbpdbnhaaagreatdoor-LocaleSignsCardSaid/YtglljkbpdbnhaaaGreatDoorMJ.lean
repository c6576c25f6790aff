/- The document's own answers on patterns: number. The document's own answers on patterns: none, signs, Resolve. The document's own answers on patterns: Resolve. -/
import Derived.Test.YtglljkbpdbnhaaaGreatDoorRows
import Derived.Test.YtglljkbpdbnhaaaGreatDoorMA
import Derived.Test.YtglljkbpdbnhaaaGreatDoorMB
import Derived.Test.YtglljkbpdbnhaaaGreatDoorMC
import Derived.Test.YtglljkbpdbnhaaaGreatDoorMBP
import Derived.Test.YtglljkbpdbnhaaaGreatDoorMI
import Derived.Deep.QuietTactic
import Derived.Deep.RegionWith
import Derived.Deep.Cut
import Derived.Deep.DeepCutAuto
import Derived.BigQuiet
import Derived.Laws.ResultCell
import Derived.Lib.SmallJoins
set_option linter.unusedVariables false
set_option linter.unusedSimpArgs false
namespace Go.Proofs.YtglljkbpdbnhaaaGreatDoor
open Go.RowKit
namespace Pr
open Pt Um

abbrev nilV : Value := .slice none 0 0
/-- A pattern's value: four lists, five numbers. -/
def pv (a b c d : Value) (p s i m x : Int) : Value := .agg #[a, b, c, d, .int .i64 p, .int .i64 s, .int .i64 i, .int .i64 m, .int .i64 x]
/-- The block of one. -/
def PB (w : World) (g : Nat) (a b c d : Value) (p s i m x : Int) : Prop := w.heap[g]? = some (.cells #[a, b, c, d, .int .i64 p, .int .i64 s, .int .i64 i, .int .i64 m, .int .i64 x] 36)
theorem PB.lt {w : World} {g : Nat} {a b c d : Value} {p s i m x : Int} (h : PB w g a b c d p s i m x) : g < w.heap.size := (Array.getElem?_eq_some_iff.1 h).1
theorem PB.q {w w' : World} {g : Nat} {a b c d : Value} {p s i m x : Int} (h : PB w g a b c d p s i m x) (hq : Q w w') : PB w' g a b c d p s i m x := (hq.block h.lt).trans h
theorem PB.cells {w : World} {g : Nat} {a b c d : Value} {p s i m x : Int} (h : PB w g a b c d p s i m x) :
    w.cell? ⟨g, 0, none⟩ = some a ∧ w.cell? ⟨g, 1, none⟩ = some b ∧ w.cell? ⟨g, 2, none⟩ = some c ∧ w.cell? ⟨g, 3, none⟩ = some d ∧ w.cell? ⟨g, 4, none⟩ = some (.int .i64 p) ∧ w.cell? ⟨g, 5, none⟩ = some (.int .i64 s) ∧ w.cell? ⟨g, 6, none⟩ = some (.int .i64 i) ∧ w.cell? ⟨g, 7, none⟩ = some (.int .i64 m) ∧ w.cell? ⟨g, 8, none⟩ = some (.int .i64 x) := by
  unfold PB at h
  simp [World.cell?, h]
theorem PB.free {w : World} {g : Nat} {a b c d : Value} {p s i m x : Int} (h : PB w g a b c d p s i m x) :
    w.frozen? ⟨g, 0, none⟩ = false ∧ w.frozen? ⟨g, 1, none⟩ = false ∧ w.frozen? ⟨g, 2, none⟩ = false ∧ w.frozen? ⟨g, 3, none⟩ = false ∧ w.frozen? ⟨g, 4, none⟩ = false ∧ w.frozen? ⟨g, 5, none⟩ = false ∧ w.frozen? ⟨g, 6, none⟩ = false ∧ w.frozen? ⟨g, 7, none⟩ = false ∧ w.frozen? ⟨g, 8, none⟩ = false := by
  unfold PB at h
  simp [World.frozen?, h]
theorem PB.all {w : World} {g : Nat} {a b c d a' b' c' d' : Value} {p s i m x p' s' i' m' x' : Int} (h : PB w g a b c d p s i m x) :
    PB (((((((((w.setCell ⟨g, 0, none⟩ a').setCell ⟨g, 1, none⟩ b').setCell ⟨g, 2, none⟩ c').setCell ⟨g, 3, none⟩ d').setCell ⟨g, 4, none⟩ (.int .i64 p')).setCell ⟨g, 5, none⟩ (.int .i64 s')).setCell ⟨g, 6, none⟩ (.int .i64 i')).setCell ⟨g, 7, none⟩ (.int .i64 m')).setCell ⟨g, 8, none⟩ (.int .i64 x')) g a' b' c' d' p' s' i' m' x' := by
  unfold PB at *
  have h0 := Joins.block_setCell h a' (i := 0)
  have h1 := Joins.block_setCell h0 b' (i := 1)
  have h2 := Joins.block_setCell h1 c' (i := 2)
  have h3 := Joins.block_setCell h2 d' (i := 3)
  have h4 := Joins.block_setCell h3 (.int .i64 p') (i := 4)
  have h5 := Joins.block_setCell h4 (.int .i64 s') (i := 5)
  have h6 := Joins.block_setCell h5 (.int .i64 i') (i := 6)
  have h7 := Joins.block_setCell h6 (.int .i64 m') (i := 7)
  have h8 := Joins.block_setCell h7 (.int .i64 x') (i := 8)
  simpa using h8
theorem PB.drew {w : World} {g : Nat} {a b c d : Value} {p s i m x : Int} (h : PB w g a b c d p s i m x) : PB w.drew g a b c d p s i m x := h
theorem infoP : (Tryz.prog.info? 36).map (·.size) = some 9 := by kernel_rfl
/-- A pattern and two more handed back. -/
theorem ret_p3 {fn : Func} {p q r : Tmp} (h : fn.results = #[.cell p 36, .tmp q, .tmp r]) {R : Ending → World → Prop} {act : Act} {w : World} {g : Nat} {a b c d : Value} {pr s i m x : Int} {u v : Value}
    (hp : act.tmps.getD p undef = .pointer (some ⟨g, 0, none⟩)) (hq : act.tmps.getD q undef = u) (hr : act.tmps.getD r undef = v) (hg : PB w g a b c d pr s i m x) (hd : act.defers = []) (hR : R (.returned (.tuple #[pv a b c d pr s i m x, u, v])) w) : bodyPost Tryz.prog fn R .ret act w := by
  refine bodyPost_ret (v := .tuple #[pv a b c d pr s i m x, u, v]) ?_ hd hR
  have e : (results fn act.tmps).run Tryz.prog w = ((asAddr (act.tmps.getD p undef)).run Tryz.prog w).andThen fun a w₁ => ((loadVar 36 a).run Tryz.prog w₁).andThen fun v w₂ => .ok (.tuple #[v, act.tmps.getD q undef, act.tmps.getD r undef]) w₂ := by
    simp only [results, h]
    simp [Sem.run_bind, Result.andThen]
  rw [e, hp, hq, hr]
  unfold PB at hg
  simp [asAddr, Result.andThen, run_loadVar_row w g 36 36 _ (0, 0) _ hg Tryz.underlying36 rfl infoP, pv]

theorem numS_cons (n : NS) (c : Int) (r : List Int) : numS n (c :: r) =
    if c = 46 then (if n.point = true ∨ n.whole = 0 ∨ (0 < n.commas ∧ n.since = 0) then none else numS { n with point := true } r)
    else if n.point = true then (if c = 44 ∨ (c = 48 ∧ n.minF < n.maxF) then none else numS { n with maxF := n.maxF + 1, minF := if c = 48 then n.minF + 1 else n.minF } r)
    else if c = 44 then (if n.since = 0 then none else numS { n with group := n.since, since := 0, commas := n.commas + 1 } r)
    else if c = 35 ∧ 0 < n.zeros then none
    else numS { n with zeros := if c = 48 then n.zeros + 1 else n.zeros, whole := n.whole + 1, since := n.since + 1 } r := rfl
/-- A text's bytes, as numbers. -/
def bys (s : ByteArray) : List Int := s.data.toList.map fun b => ((b.toNat : Nat) : Int)
theorem bys_len (s : ByteArray) : (bys s).length = s.size := by unfold bys; rw [List.length_map, size_list]
theorem bys_at (s : ByteArray) (k : Nat) (hk : k < s.size) : (bys s).drop k = (((s[k]'hk).toNat : Nat) : Int) :: (bys s).drop (k + 1) := by
  rw [drop_at (bys s) k (by rw [bys_len]; exact hk)]
  congr 1
  unfold bys
  rw [List.getD_eq_getElem?_getD, List.getElem?_eq_getElem (by rw [List.length_map, size_list]; exact hk), List.getElem_map]
  rfl
/-- What of a number is told where the loop stands. -/
structure NB (n : NS) (k : Nat) : Prop where
  a : 0 ≤ n.since ∧ n.since ≤ k
  b : 0 ≤ n.group ∧ n.group ≤ k
  c : 0 ≤ n.commas ∧ n.commas ≤ k
  d : 0 ≤ n.whole ∧ n.whole ≤ k
  e : 0 ≤ n.zeros ∧ n.zeros ≤ k
  f : 0 ≤ n.minF ∧ n.minF ≤ k
  g : 0 ≤ n.maxF ∧ n.maxF ≤ k

theorem PB.other {w : World} {g : Nat} {a b c d : Value} {p s i m x : Int} (h : PB w g a b c d p s i m x) {ad : Addr} (hne : g ≠ ad.block) (v : Value) : PB (w.setCell ad v) g a b c d p s i m x := by
  unfold PB at *
  rw [heap_setCell_other _ ad _ v hne]
  exact h
theorem PB.set7 {w : World} {g : Nat} {a b c d : Value} {p s i m x : Int} (h : PB w g a b c d p s i m x) (y : Int) : PB (w.setCell ⟨g, 7, none⟩ (.int .i64 y)) g a b c d p s i y x := by
  have := Joins.block_setCell h (.int .i64 y) (i := 7)
  unfold PB
  simpa using this
theorem PB.set8 {w : World} {g : Nat} {a b c d : Value} {p s i m x : Int} (h : PB w g a b c d p s i m x) (y : Int) : PB (w.setCell ⟨g, 8, none⟩ (.int .i64 y)) g a b c d p s i m y := by
  have := Joins.block_setCell h (.int .i64 y) (i := 8)
  unfold PB
  simpa using this
theorem PB.set4 {w : World} {g : Nat} {a b c d : Value} {p s i m x : Int} (h : PB w g a b c d p s i m x) (y : Int) : PB (w.setCell ⟨g, 4, none⟩ (.int .i64 y)) g a b c d y s i m x := by
  have := Joins.block_setCell h (.int .i64 y) (i := 4)
  unfold PB
  simpa using this
theorem PB.set5 {w : World} {g : Nat} {a b c d : Value} {p s i m x : Int} (h : PB w g a b c d p s i m x) (y : Int) : PB (w.setCell ⟨g, 5, none⟩ (.int .i64 y)) g a b c d p y i m x := by
  have := Joins.block_setCell h (.int .i64 y) (i := 5)
  unfold PB
  simpa using this
theorem PB.set6 {w : World} {g : Nat} {a b c d : Value} {p s i m x : Int} (h : PB w g a b c d p s i m x) (y : Int) : PB (w.setCell ⟨g, 6, none⟩ (.int .i64 y)) g a b c d p s y m x := by
  have := Joins.block_setCell h (.int .i64 y) (i := 6)
  unfold PB
  simpa using this
theorem Q.puts {a w : World} (h : Q a w) {g : Nat} (hg : a.heap.size ≤ g) (v0 v1 v2 v3 v4 v5 v6 v7 v8 : Value) : Q a (((((((((w.setCell ⟨g, 0, none⟩ v0).setCell ⟨g, 1, none⟩ v1).setCell ⟨g, 2, none⟩ v2).setCell ⟨g, 3, none⟩ v3).setCell ⟨g, 4, none⟩ v4).setCell ⟨g, 5, none⟩ v5).setCell ⟨g, 6, none⟩ v6).setCell ⟨g, 7, none⟩ v7).setCell ⟨g, 8, none⟩ v8) :=
  ((((((((h.setCell (ad := ⟨g, 0, none⟩) hg _).setCell (ad := ⟨g, 1, none⟩) hg _).setCell (ad := ⟨g, 2, none⟩) hg _).setCell (ad := ⟨g, 3, none⟩) hg _).setCell (ad := ⟨g, 4, none⟩) hg _).setCell (ad := ⟨g, 5, none⟩) hg _).setCell (ad := ⟨g, 6, none⟩) hg _).setCell (ad := ⟨g, 7, none⟩) hg _).setCell (ad := ⟨g, 8, none⟩) hg _

/-- What number answers. -/
def NumIs (r : Option Nm) (e : Ending) : Prop :=
  (r = none ∧ ∃ p q i m x, e = .returned (.tuple #[pv nilV nilV nilV nilV p q i m x, .bool false, .bool false])) ∨
  ∃ n, r = some n ∧ e = .returned (.tuple #[pv nilV nilV nilV nilV n.pr n.se n.mi n.mf n.xf, .bool true, .bool n.long])

set_option maxRecDepth 100000 in
set_option maxHeartbeats 8000000 in
theorem number_any (s : ByteArray) (w : World) (hs : s.size ≤ 1000000) :
    Calls Tryz.prog 102 #[.string s] w fun e w' => NumIs (num (bys s)) e ∧ Q w w' := by
  obtain ⟨R, hR⟩ : ∃ R, R = num (bys s) := ⟨_, rfl⟩
  have HR := Lib.hid hR
  rw [← hR]
  clear hR
  have hb0 : PB ((w.alloc (.cells #[nilV, nilV, nilV, nilV, .int .i64 0, .int .i64 0, .int .i64 0, .int .i64 0, .int .i64 0] 36)).alloc (.cells #[nilV, nilV, nilV, nilV, .int .i64 0, .int .i64 0, .int .i64 0, .int .i64 0, .int .i64 0] 36)) w.heap.size nilV nilV nilV nilV 0 0 0 0 0 := heap_alloc2_old _ _ _
  have hb1 : PB ((w.alloc (.cells #[nilV, nilV, nilV, nilV, .int .i64 0, .int .i64 0, .int .i64 0, .int .i64 0, .int .i64 0] 36)).alloc (.cells #[nilV, nilV, nilV, nilV, .int .i64 0, .int .i64 0, .int .i64 0, .int .i64 0, .int .i64 0] 36)) (w.heap.size + 1) nilV nilV nilV nilV 0 0 0 0 0 := heap_alloc2_new _ _ _
  have HB0 := Lib.hid hb0
  have HB1 := Lib.hid hb1
  clear hb0 hb1
  have HST := Lib.hid (fun (st : NS) (h : numS st [] = numS ns0 (bys s)) => (by rw [HR.out]; unfold num; rw [← h]; rfl : R = numE st))
  go_enter Tryz.func102, Tryz.ntmps102
  go_wp2_with fail
  go_loopw [6, 7, 8, 9, 10, 11, 12] (fun vp vs vg vc vw vz i wr => ∃ (k : Nat) (pt : Bool) (si gr co wh ze mf xf : Int), i = .int .i64 k ∧ vp = .bool pt ∧ vs = .int .i64 si ∧ vg = .int .i64 gr ∧ vc = .int .i64 co ∧ vw = .int .i64 wh ∧ vz = .int .i64 ze ∧ k ≤ s.size ∧ NB ⟨pt, si, gr, co, wh, ze, mf, xf⟩ k ∧ numS ⟨pt, si, gr, co, wh, ze, mf, xf⟩ ((bys s).drop k) = numS ns0 (bys s) ∧ PB wr w.heap.size nilV nilV nilV nilV 0 0 0 0 0 ∧ PB wr (w.heap.size + 1) nilV nilV nilV nilV 0 0 0 mf xf ∧ Q w wr) (fun _ _ _ _ _ _ i _ => s.size - (intOf i).toNat)
  case atStart => exact ⟨0, false, 0, 0, 0, 0, 0, 0, 0, rfl, rfl, rfl, rfl, rfl, rfl, rfl, by omega, ⟨by decide, by decide, by decide, by decide, by decide, by decide, by decide⟩, rfl, HB0.out, HB1.out, ((Q.refl w).alloc _).alloc _⟩
  case round =>
    obtain ⟨k, pt, si, gr, co, wh, ze, mf, xf, rfl, rfl, rfl, rfl, rfl, rfl, rfl, hk, hnb, hst, hrb, hpb, hq⟩ := hrel
    obtain ⟨n1, n2, n3, n4, n5, n6, n7⟩ := hnb
    simp only at n1 n2 n3 n4 n5 n6 n7
    obtain ⟨p0, p1, p2, p3, p4, p5, p6, p7, p8⟩ := hpb.cells
    obtain ⟨f0, f1, f2, f3, f4, f5, f6, f7, f8⟩ := hpb.free
    obtain ⟨r0, r1, r2, r3, r4, r5, r6, r7, r8⟩ := hrb.cells
    obtain ⟨e0, e1, e2, e3, e4, e5, e6, e7, e8⟩ := hrb.free
    have HRB := Lib.hid hrb
    have HPB := Lib.hid hpb
    have HQ := Lib.hid hq
    clear hrb hpb hq
    by_cases hlt : k < s.size
    · have hlti : (k : Int) < (s.size : Int) := by omega
      rw [bys_at s k hlt, numS_cons] at hst
      simp only at hst
      have hub := Ur.u8b (s[k]'hlt)
      have BAD : numS ns0 (bys s) = none → R = none := fun h => by rw [HR.out]; unfold num; rw [h]; rfl
      have HBAD := Lib.hid BAD
      clear BAD
      have hcs : (((s[k]'hlt).toNat : Int) = 46 ∧ (pt = true ∨ (pt = false ∧ wh = 0) ∨ (pt = false ∧ wh ≠ 0 ∧ 0 < co ∧ si = 0)) ∧ Hid (R = none)) ∨
          (((s[k]'hlt).toNat : Int) = 46 ∧ pt = false ∧ wh ≠ 0 ∧ (¬ 0 < co ∨ (0 < co ∧ si ≠ 0)) ∧ Hid (numS ⟨true, si, gr, co, wh, ze, mf, xf⟩ ((bys s).drop (k + 1)) = numS ns0 (bys s))) ∨
          (((s[k]'hlt).toNat : Int) ≠ 46 ∧ pt = true ∧ (((s[k]'hlt).toNat : Int) = 44 ∨ (((s[k]'hlt).toNat : Int) = 48 ∧ mf < xf)) ∧ Hid (R = none)) ∨
          (((s[k]'hlt).toNat : Int) = 48 ∧ pt = true ∧ ¬ mf < xf ∧ Hid (numS ⟨true, si, gr, co, wh, ze, mf + 1, xf + 1⟩ ((bys s).drop (k + 1)) = numS ns0 (bys s))) ∨
          (((s[k]'hlt).toNat : Int) ≠ 46 ∧ pt = true ∧ ((s[k]'hlt).toNat : Int) ≠ 44 ∧ ((s[k]'hlt).toNat : Int) ≠ 48 ∧ Hid (numS ⟨true, si, gr, co, wh, ze, mf, xf + 1⟩ ((bys s).drop (k + 1)) = numS ns0 (bys s))) ∨
          (((s[k]'hlt).toNat : Int) = 44 ∧ pt = false ∧ si = 0 ∧ Hid (R = none)) ∨
          (((s[k]'hlt).toNat : Int) = 44 ∧ pt = false ∧ si ≠ 0 ∧ Hid (numS ⟨false, 0, si, co + 1, wh, ze, mf, xf⟩ ((bys s).drop (k + 1)) = numS ns0 (bys s))) ∨
          (((s[k]'hlt).toNat : Int) = 35 ∧ pt = false ∧ 0 < ze ∧ Hid (R = none)) ∨
          (((s[k]'hlt).toNat : Int) = 48 ∧ pt = false ∧ Hid (numS ⟨false, si + 1, gr, co, wh + 1, ze + 1, mf, xf⟩ ((bys s).drop (k + 1)) = numS ns0 (bys s))) ∨
          (((s[k]'hlt).toNat : Int) ≠ 46 ∧ pt = false ∧ ((s[k]'hlt).toNat : Int) ≠ 44 ∧ ((s[k]'hlt).toNat : Int) ≠ 48 ∧ (((s[k]'hlt).toNat : Int) ≠ 35 ∨ (((s[k]'hlt).toNat : Int) = 35 ∧ ¬ 0 < ze)) ∧ Hid (numS ⟨false, si + 1, gr, co, wh + 1, ze, mf, xf⟩ ((bys s).drop (k + 1)) = numS ns0 (bys s))) := by
        have hBAD := HBAD.out
        clear hub HBAD HR HST HRB HPB HQ
        generalize ((s[k]'hlt).toNat : Int) = c at *
        by_cases h1 : c = 46
        · rw [if_pos h1] at hst
          by_cases h2 : pt = true ∨ wh = 0 ∨ (0 < co ∧ si = 0)
          · rw [if_pos h2] at hst
            refine .inl ⟨h1, ?_, Lib.hid (hBAD hst.symm)⟩
            cases pt <;> simp at h2 ⊢
            rcases h2 with h2 | h2
            · exact .inl h2
            · by_cases hw : wh = 0
              · exact .inl hw
              · exact .inr ⟨hw, h2.1, h2.2⟩
          · rw [if_neg h2] at hst
            refine .inr (.inl ⟨h1, ?_, ?_, ?_, Lib.hid hst⟩)
            · cases pt <;> simp at h2 ⊢
            · intro h; exact h2 (.inr (.inl h))
            · by_cases h3 : 0 < co
              · exact .inr ⟨h3, fun h => h2 (.inr (.inr ⟨h3, h⟩))⟩
              · exact .inl h3
        · rw [if_neg h1] at hst
          cases pt
          · rw [if_neg (by decide)] at hst
            by_cases h2 : c = 44
            · rw [if_pos h2] at hst
              by_cases h3 : si = 0
              · rw [if_pos h3] at hst
                exact .inr (.inr (.inr (.inr (.inr (.inl ⟨h2, rfl, h3, Lib.hid (hBAD hst.symm)⟩)))))
              · rw [if_neg h3] at hst
                exact .inr (.inr (.inr (.inr (.inr (.inr (.inl ⟨h2, rfl, h3, Lib.hid hst⟩))))))
            · rw [if_neg h2] at hst
              by_cases h3 : c = 35 ∧ 0 < ze
              · rw [if_pos h3] at hst
                exact .inr (.inr (.inr (.inr (.inr (.inr (.inr (.inl ⟨h3.1, rfl, h3.2, Lib.hid (hBAD hst.symm)⟩)))))))
              · rw [if_neg h3] at hst
                by_cases h4 : c = 48
                · rw [if_pos h4] at hst
                  exact .inr (.inr (.inr (.inr (.inr (.inr (.inr (.inr (.inl ⟨h4, rfl, Lib.hid hst⟩))))))))
                · rw [if_neg h4] at hst
                  refine .inr (.inr (.inr (.inr (.inr (.inr (.inr (.inr (.inr ⟨h1, rfl, h2, h4, ?_, Lib.hid hst⟩))))))))
                  by_cases h5 : c = 35
                  · exact .inr ⟨h5, fun h => h3 ⟨h5, h⟩⟩
                  · exact .inl h5
          · rw [if_pos rfl] at hst
            by_cases h2 : c = 44 ∨ (c = 48 ∧ mf < xf)
            · rw [if_pos h2] at hst
              exact .inr (.inr (.inl ⟨h1, rfl, h2, Lib.hid (hBAD hst.symm)⟩))
            · rw [if_neg h2] at hst
              by_cases h4 : c = 48
              · rw [if_pos h4] at hst
                exact .inr (.inr (.inr (.inl ⟨h4, rfl, fun h => h2 (.inr ⟨h4, h⟩), Lib.hid hst⟩)))
              · rw [if_neg h4] at hst
                exact .inr (.inr (.inr (.inr (.inl ⟨h1, rfl, fun h => h2 (.inl h), h4, Lib.hid hst⟩))))
      clear hst HBAD
      rcases hcs with ⟨hc, h2, hx⟩ | ⟨hc, rfl, hw, h2, hx⟩ | ⟨hc, rfl, h2, hx⟩ | ⟨hc, rfl, h2, hx⟩ | ⟨hc, rfl, h2, h3, hx⟩ | ⟨hc, rfl, h2, hx⟩ | ⟨hc, rfl, h2, hx⟩ | ⟨hc, rfl, h2, hx⟩ | ⟨hc, rfl, hx⟩ | ⟨hc, rfl, h2, h3, h4, hx⟩
      · rcases h2 with rfl | ⟨rfl, rfl⟩ | ⟨rfl, hw, hco, rfl⟩
        · go_wp2_with fail
          refine ret_p3 rfl rfl rfl rfl (PB.all HRB.out) rfl ⟨.inl ⟨hx.out, _, _, _, _, _, rfl⟩, Q.puts HQ.out (Nat.le_refl _) _ _ _ _ _ _ _ _ _⟩
        · go_wp2_with fail
          refine ret_p3 rfl rfl rfl rfl (PB.all HRB.out) rfl ⟨.inl ⟨hx.out, _, _, _, _, _, rfl⟩, Q.puts HQ.out (Nat.le_refl _) _ _ _ _ _ _ _ _ _⟩
        · have hw0 : (wh == 0) = false := beq_eq_false_iff_ne.2 hw
          go_wp2_with fail
          refine ret_p3 rfl rfl rfl rfl (PB.all HRB.out) rfl ⟨.inl ⟨hx.out, _, _, _, _, _, rfl⟩, Q.puts HQ.out (Nat.le_refl _) _ _ _ _ _ _ _ _ _⟩
      · have hw0 : (wh == 0) = false := beq_eq_false_iff_ne.2 hw
        rcases h2 with h2 | ⟨h2, hsi⟩
        · go_wp2_with fail
          go_roundw
          case rel => exact ⟨k + 1, true, si, gr, co, wh, ze, mf, xf, by go_num, rfl, rfl, rfl, rfl, rfl, rfl, by omega, ⟨by simp only; omega, by simp only; omega, by simp only; omega, by simp only; omega, by simp only; omega, by simp only; omega, by simp only; omega⟩, hx.out, HRB.out, HPB.out, HQ.out⟩
          case measure => simp [intOf]; omega
        · have hs0 : (si == 0) = false := beq_eq_false_iff_ne.2 hsi
          go_wp2_with fail
          go_roundw
          case rel => exact ⟨k + 1, true, si, gr, co, wh, ze, mf, xf, by go_num, rfl, rfl, rfl, rfl, rfl, rfl, by omega, ⟨by simp only; omega, by simp only; omega, by simp only; omega, by simp only; omega, by simp only; omega, by simp only; omega, by simp only; omega⟩, hx.out, HRB.out, HPB.out, HQ.out⟩
          case measure => simp [intOf]; omega
      · have g46 : (((s[k]'hlt).toNat : Int) == 46) = false := beq_eq_false_iff_ne.2 hc
        clear hc
        rcases h2 with h2 | ⟨h2, h3⟩
        · go_wp2_with fail
          refine ret_p3 rfl rfl rfl rfl (PB.all HRB.out) rfl ⟨.inl ⟨hx.out, _, _, _, _, _, rfl⟩, Q.puts HQ.out (Nat.le_refl _) _ _ _ _ _ _ _ _ _⟩
        · go_wp2_with fail
          refine ret_p3 rfl rfl rfl rfl (PB.all HRB.out) rfl ⟨.inl ⟨hx.out, _, _, _, _, _, rfl⟩, Q.puts HQ.out (Nat.le_refl _) _ _ _ _ _ _ _ _ _⟩
      · go_wp2_with fail
        go_roundw
        case rel => exact ⟨k + 1, true, si, gr, co, wh, ze, mf + 1, xf + 1, by go_num, rfl, rfl, rfl, rfl, rfl, rfl, by omega, ⟨by simp only; omega, by simp only; omega, by simp only; omega, by simp only; omega, by simp only; omega, by simp only; omega, by simp only; omega⟩, hx.out, (HRB.out.other (ad := ⟨w.heap.size + 1, 8, none⟩) (by simp) _).other (ad := ⟨w.heap.size + 1, 7, none⟩) (by simp) _, (HPB.out.set8 _).set7 _, (HQ.out.setCell (ad := ⟨w.heap.size + 1, 8, none⟩) (Nat.le_succ _) _).setCell (ad := ⟨w.heap.size + 1, 7, none⟩) (Nat.le_succ _) _⟩
        case measure => simp [intOf]; omega
      · have g46 : (((s[k]'hlt).toNat : Int) == 46) = false := beq_eq_false_iff_ne.2 hc
        have g44 : (((s[k]'hlt).toNat : Int) == 44) = false := beq_eq_false_iff_ne.2 h2
        have g48 : (((s[k]'hlt).toNat : Int) == 48) = false := beq_eq_false_iff_ne.2 h3
        clear hc h2 h3
        go_wp2_with fail
        go_roundw
        case rel => exact ⟨k + 1, true, si, gr, co, wh, ze, mf, xf + 1, by go_num, rfl, rfl, rfl, rfl, rfl, rfl, by omega, ⟨by simp only; omega, by simp only; omega, by simp only; omega, by simp only; omega, by simp only; omega, by simp only; omega, by simp only; omega⟩, hx.out, HRB.out.other (ad := ⟨w.heap.size + 1, 8, none⟩) (by simp) _, HPB.out.set8 _, HQ.out.setCell (ad := ⟨w.heap.size + 1, 8, none⟩) (Nat.le_succ _) _⟩
        case measure => simp [intOf]; omega
      · subst h2
        go_wp2_with fail
        refine ret_p3 rfl rfl rfl rfl (PB.all HRB.out) rfl ⟨.inl ⟨hx.out, _, _, _, _, _, rfl⟩, Q.puts HQ.out (Nat.le_refl _) _ _ _ _ _ _ _ _ _⟩
      · have hs0 : (si == 0) = false := beq_eq_false_iff_ne.2 h2
        go_wp2_with fail
        go_roundw
        case rel => exact ⟨k + 1, false, 0, si, co + 1, wh, ze, mf, xf, by go_num, rfl, rfl, rfl, rfl, rfl, rfl, by omega, ⟨by simp only; omega, by simp only; omega, by simp only; omega, by simp only; omega, by simp only; omega, by simp only; omega, by simp only; omega⟩, hx.out, HRB.out, HPB.out, HQ.out⟩
        case measure => simp [intOf]; omega
      · go_wp2_with fail
        refine ret_p3 rfl rfl rfl rfl (PB.all HRB.out) rfl ⟨.inl ⟨hx.out, _, _, _, _, _, rfl⟩, Q.puts HQ.out (Nat.le_refl _) _ _ _ _ _ _ _ _ _⟩
      · go_wp2_with fail
        go_roundw
        case rel => exact ⟨k + 1, false, si + 1, gr, co, wh + 1, ze + 1, mf, xf, by go_num, rfl, rfl, rfl, rfl, rfl, rfl, by omega, ⟨by simp only; omega, by simp only; omega, by simp only; omega, by simp only; omega, by simp only; omega, by simp only; omega, by simp only; omega⟩, hx.out, HRB.out, HPB.out, HQ.out⟩
        case measure => simp [intOf]; omega
      · have g46 : (((s[k]'hlt).toNat : Int) == 46) = false := beq_eq_false_iff_ne.2 hc
        have g44 : (((s[k]'hlt).toNat : Int) == 44) = false := beq_eq_false_iff_ne.2 h2
        have g48 : (((s[k]'hlt).toNat : Int) == 48) = false := beq_eq_false_iff_ne.2 h3
        clear hc h2 h3
        rcases h4 with h4 | ⟨h4, h5⟩
        · have g35 : (((s[k]'hlt).toNat : Int) == 35) = false := beq_eq_false_iff_ne.2 h4
          clear h4
          go_wp2_with fail
          go_roundw
          case rel => exact ⟨k + 1, false, si + 1, gr, co, wh + 1, ze, mf, xf, by go_num, rfl, rfl, rfl, rfl, rfl, rfl, by omega, ⟨by simp only; omega, by simp only; omega, by simp only; omega, by simp only; omega, by simp only; omega, by simp only; omega, by simp only; omega⟩, hx.out, HRB.out, HPB.out, HQ.out⟩
          case measure => simp [intOf]; omega
        · go_wp2_with fail
          go_roundw
          case rel => exact ⟨k + 1, false, si + 1, gr, co, wh + 1, ze, mf, xf, by go_num, rfl, rfl, rfl, rfl, rfl, rfl, by omega, ⟨by simp only; omega, by simp only; omega, by simp only; omega, by simp only; omega, by simp only; omega, by simp only; omega, by simp only; omega⟩, hx.out, HRB.out, HPB.out, HQ.out⟩
          case measure => simp [intOf]; omega
    · have hnlt : ¬ (k : Int) < (s.size : Int) := by omega
      rw [List.drop_eq_nil_of_le (by rw [bys_len]; omega)] at hst
      have hRE := HST.out _ hst
      unfold numE at hRE
      simp only at hRE
      clear hst HST HR
      have hcs : ((wh = 0 ∨ (wh ≠ 0 ∧ si = 0) ∨ (wh ≠ 0 ∧ si ≠ 0 ∧ pt = true ∧ xf = 0)) ∧ Hid (R = none)) ∨
          (wh ≠ 0 ∧ si ≠ 0 ∧ (pt = false ∨ (pt = true ∧ xf ≠ 0)) ∧ Hid (R = some ⟨if 0 < co then si else 0, if 1 < co then gr else if 0 < co then si else 0, ze, mf, xf, decide (64 < wh ∨ 64 < xf)⟩)) := by
        by_cases h : wh = 0 ∨ si = 0 ∨ (pt = true ∧ xf = 0)
        · rw [if_pos h] at hRE
          refine .inl ⟨?_, Lib.hid hRE⟩
          by_cases h1 : wh = 0
          · exact .inl h1
          · by_cases h2 : si = 0
            · exact .inr (.inl ⟨h1, h2⟩)
            · rcases h with h | h | h
              · exact absurd h h1
              · exact absurd h h2
              · exact .inr (.inr ⟨h1, h2, h.1, h.2⟩)
        · rw [if_neg h] at hRE
          refine .inr ⟨fun k => h (.inl k), fun k => h (.inr (.inl k)), ?_, Lib.hid hRE⟩
          cases pt
          · exact .inl rfl
          · exact .inr ⟨rfl, fun k => h (.inr (.inr ⟨rfl, k⟩))⟩
      clear hRE
      rcases hcs with ⟨h2, hx⟩ | ⟨hw, hsi, h2, hx⟩
      · rcases h2 with rfl | ⟨hw, rfl⟩ | ⟨hw, hsi, rfl, rfl⟩
        · go_wp2_with fail
          refine ret_p3 rfl rfl rfl rfl (PB.all HRB.out) rfl ⟨.inl ⟨hx.out, _, _, _, _, _, rfl⟩, Q.puts HQ.out (Nat.le_refl _) _ _ _ _ _ _ _ _ _⟩
        · have hw0 : (wh == 0) = false := beq_eq_false_iff_ne.2 hw
          go_wp2_with fail
          refine ret_p3 rfl rfl rfl rfl (PB.all HRB.out) rfl ⟨.inl ⟨hx.out, _, _, _, _, _, rfl⟩, Q.puts HQ.out (Nat.le_refl _) _ _ _ _ _ _ _ _ _⟩
        · have hw0 : (wh == 0) = false := beq_eq_false_iff_ne.2 hw
          have hs0 : (si == 0) = false := beq_eq_false_iff_ne.2 hsi
          go_wp2_with fail
          refine ret_p3 rfl rfl rfl rfl (PB.all HRB.out) rfl ⟨.inl ⟨hx.out, _, _, _, _, _, rfl⟩, Q.puts HQ.out (Nat.le_refl _) _ _ _ _ _ _ _ _ _⟩
      · have hw0 : (wh == 0) = false := beq_eq_false_iff_ne.2 hw
        have hs0 : (si == 0) = false := beq_eq_false_iff_ne.2 hsi
        rcases h2 with rfl | ⟨rfl, hxf⟩
        · skip
          rcases (show (¬ 0 < co ∧ ¬ 1 < co) ∨ (0 < co ∧ ¬ 1 < co) ∨ (0 < co ∧ 1 < co) from by omega) with ⟨c1, c2⟩ | ⟨c1, c2⟩ | ⟨c1, c2⟩
          · have hv : (⟨if 0 < co then si else 0, if 1 < co then gr else if 0 < co then si else 0, ze, mf, xf, decide (64 < wh ∨ 64 < xf)⟩ : Nm) = ⟨0, 0, ze, mf, xf, decide (64 < wh ∨ 64 < xf)⟩ := by rw [if_neg c1, if_neg c2]
            have hx2 := hx.out
            rw [hv] at hx2
            have HX := Lib.hid hx2
            clear hx hx2 hv
            go_upto_region 42 with fail
            have hp2 : PB (wr.setCell ⟨w.heap.size + 1, 6, none⟩ (.int .i64 ze)) (w.heap.size + 1) nilV nilV nilV nilV 0 0 ze mf xf := (HPB.out).set6 _
            have hr2 : PB (wr.setCell ⟨w.heap.size + 1, 6, none⟩ (.int .i64 ze)) w.heap.size nilV nilV nilV nilV 0 0 0 0 0 := (HRB.out).other (ad := ⟨w.heap.size + 1, 6, none⟩) (by simp) _
            have hq2 : Q w (wr.setCell ⟨w.heap.size + 1, 6, none⟩ (.int .i64 ze)) := (HQ.out).setCell (ad := ⟨w.heap.size + 1, 6, none⟩) (Nat.le_succ _) _
            have HP2 := Lib.hid hp2
            have HR2 := Lib.hid hr2
            have HQ2 := Lib.hid hq2
            clear hp2 hr2 hq2 p0 p1 p2 p3 p4 p5 p6 p7 p8 f0 f1 f2 f3 f4 f5 f6 f7 f8 r0 r1 r2 r3 r4 r5 r6 r7 r8 e0 e1 e2 e3 e4 e5 e6 e7 e8 HRB HPB HQ
            generalize (wr.setCell ⟨w.heap.size + 1, 6, none⟩ (.int .i64 ze)) = wz at *
            obtain ⟨p0, p1, p2, p3, p4, p5, p6, p7, p8⟩ := HP2.out.cells
            obtain ⟨r0, r1, r2, r3, r4, r5, r6, r7, r8⟩ := HR2.out.cells
            obtain ⟨e0, e1, e2, e3, e4, e5, e6, e7, e8⟩ := HR2.out.free
            have hlong : (64 < wh ∧ Hid (decide (64 < wh ∨ 64 < xf) = true)) ∨ (¬ 64 < wh ∧ 64 < xf ∧ Hid (decide (64 < wh ∨ 64 < xf) = true)) ∨ (¬ 64 < wh ∧ ¬ 64 < xf ∧ Hid (decide (64 < wh ∨ 64 < xf) = false)) := by
              by_cases l1 : 64 < wh
              · exact .inl ⟨l1, Lib.hid (decide_eq_true (.inl l1))⟩
              · by_cases l2 : 64 < xf
                · exact .inr (.inl ⟨l1, l2, Lib.hid (decide_eq_true (.inr l2))⟩)
                · exact .inr (.inr ⟨l1, l2, Lib.hid (decide_eq_false (by omega))⟩)
            rcases hlong with ⟨l1, l3⟩ | ⟨l1, l2, l3⟩ | ⟨l1, l2, l3⟩
            all_goals
              go_region
              all_goals
                go_wp2_with fail
                exact ret_p3 rfl rfl rfl rfl (PB.drew (PB.all HR2.out)) rfl ⟨.inr ⟨_, HX.out, by simp only; rw [l3.out]; first | done | rfl⟩, Q.drew (Q.puts HQ2.out (Nat.le_refl _) _ _ _ _ _ _ _ _ _)⟩
          · have hv : (⟨if 0 < co then si else 0, if 1 < co then gr else if 0 < co then si else 0, ze, mf, xf, decide (64 < wh ∨ 64 < xf)⟩ : Nm) = ⟨si, si, ze, mf, xf, decide (64 < wh ∨ 64 < xf)⟩ := by rw [if_pos c1, if_neg c2]
            have hx2 := hx.out
            rw [hv] at hx2
            have HX := Lib.hid hx2
            clear hx hx2 hv
            go_upto_region 42 with fail
            have hp2 : PB (((wr.setCell ⟨w.heap.size + 1, 6, none⟩ (.int .i64 ze)).setCell ⟨w.heap.size + 1, 4, none⟩ (.int .i64 si)).setCell ⟨w.heap.size + 1, 5, none⟩ (.int .i64 si)) (w.heap.size + 1) nilV nilV nilV nilV si si ze mf xf := (((HPB.out).set6 _).set4 _).set5 _
            have hr2 : PB (((wr.setCell ⟨w.heap.size + 1, 6, none⟩ (.int .i64 ze)).setCell ⟨w.heap.size + 1, 4, none⟩ (.int .i64 si)).setCell ⟨w.heap.size + 1, 5, none⟩ (.int .i64 si)) w.heap.size nilV nilV nilV nilV 0 0 0 0 0 := (((HRB.out).other (ad := ⟨w.heap.size + 1, 6, none⟩) (by simp) _).other (ad := ⟨w.heap.size + 1, 4, none⟩) (by simp) _).other (ad := ⟨w.heap.size + 1, 5, none⟩) (by simp) _
            have hq2 : Q w (((wr.setCell ⟨w.heap.size + 1, 6, none⟩ (.int .i64 ze)).setCell ⟨w.heap.size + 1, 4, none⟩ (.int .i64 si)).setCell ⟨w.heap.size + 1, 5, none⟩ (.int .i64 si)) := (((HQ.out).setCell (ad := ⟨w.heap.size + 1, 6, none⟩) (Nat.le_succ _) _).setCell (ad := ⟨w.heap.size + 1, 4, none⟩) (Nat.le_succ _) _).setCell (ad := ⟨w.heap.size + 1, 5, none⟩) (Nat.le_succ _) _
            have HP2 := Lib.hid hp2
            have HR2 := Lib.hid hr2
            have HQ2 := Lib.hid hq2
            clear hp2 hr2 hq2 p0 p1 p2 p3 p4 p5 p6 p7 p8 f0 f1 f2 f3 f4 f5 f6 f7 f8 r0 r1 r2 r3 r4 r5 r6 r7 r8 e0 e1 e2 e3 e4 e5 e6 e7 e8 HRB HPB HQ
            generalize (((wr.setCell ⟨w.heap.size + 1, 6, none⟩ (.int .i64 ze)).setCell ⟨w.heap.size + 1, 4, none⟩ (.int .i64 si)).setCell ⟨w.heap.size + 1, 5, none⟩ (.int .i64 si)) = wz at *
            obtain ⟨p0, p1, p2, p3, p4, p5, p6, p7, p8⟩ := HP2.out.cells
            obtain ⟨r0, r1, r2, r3, r4, r5, r6, r7, r8⟩ := HR2.out.cells
            obtain ⟨e0, e1, e2, e3, e4, e5, e6, e7, e8⟩ := HR2.out.free
            have hlong : (64 < wh ∧ Hid (decide (64 < wh ∨ 64 < xf) = true)) ∨ (¬ 64 < wh ∧ 64 < xf ∧ Hid (decide (64 < wh ∨ 64 < xf) = true)) ∨ (¬ 64 < wh ∧ ¬ 64 < xf ∧ Hid (decide (64 < wh ∨ 64 < xf) = false)) := by
              by_cases l1 : 64 < wh
              · exact .inl ⟨l1, Lib.hid (decide_eq_true (.inl l1))⟩
              · by_cases l2 : 64 < xf
                · exact .inr (.inl ⟨l1, l2, Lib.hid (decide_eq_true (.inr l2))⟩)
                · exact .inr (.inr ⟨l1, l2, Lib.hid (decide_eq_false (by omega))⟩)
            rcases hlong with ⟨l1, l3⟩ | ⟨l1, l2, l3⟩ | ⟨l1, l2, l3⟩
            all_goals
              go_region
              all_goals
                go_wp2_with fail
                exact ret_p3 rfl rfl rfl rfl (PB.drew (PB.all HR2.out)) rfl ⟨.inr ⟨_, HX.out, by simp only; rw [l3.out]; first | done | rfl⟩, Q.drew (Q.puts HQ2.out (Nat.le_refl _) _ _ _ _ _ _ _ _ _)⟩
          · have hv : (⟨if 0 < co then si else 0, if 1 < co then gr else if 0 < co then si else 0, ze, mf, xf, decide (64 < wh ∨ 64 < xf)⟩ : Nm) = ⟨si, gr, ze, mf, xf, decide (64 < wh ∨ 64 < xf)⟩ := by rw [if_pos c1, if_pos c2]
            have hx2 := hx.out
            rw [hv] at hx2
            have HX := Lib.hid hx2
            clear hx hx2 hv
            go_upto_region 42 with fail
            have hp2 : PB ((((wr.setCell ⟨w.heap.size + 1, 6, none⟩ (.int .i64 ze)).setCell ⟨w.heap.size + 1, 4, none⟩ (.int .i64 si)).setCell ⟨w.heap.size + 1, 5, none⟩ (.int .i64 si)).setCell ⟨w.heap.size + 1, 5, none⟩ (.int .i64 gr)) (w.heap.size + 1) nilV nilV nilV nilV si gr ze mf xf := ((((HPB.out).set6 _).set4 _).set5 _).set5 _
            have hr2 : PB ((((wr.setCell ⟨w.heap.size + 1, 6, none⟩ (.int .i64 ze)).setCell ⟨w.heap.size + 1, 4, none⟩ (.int .i64 si)).setCell ⟨w.heap.size + 1, 5, none⟩ (.int .i64 si)).setCell ⟨w.heap.size + 1, 5, none⟩ (.int .i64 gr)) w.heap.size nilV nilV nilV nilV 0 0 0 0 0 := ((((HRB.out).other (ad := ⟨w.heap.size + 1, 6, none⟩) (by simp) _).other (ad := ⟨w.heap.size + 1, 4, none⟩) (by simp) _).other (ad := ⟨w.heap.size + 1, 5, none⟩) (by simp) _).other (ad := ⟨w.heap.size + 1, 5, none⟩) (by simp) _
            have hq2 : Q w ((((wr.setCell ⟨w.heap.size + 1, 6, none⟩ (.int .i64 ze)).setCell ⟨w.heap.size + 1, 4, none⟩ (.int .i64 si)).setCell ⟨w.heap.size + 1, 5, none⟩ (.int .i64 si)).setCell ⟨w.heap.size + 1, 5, none⟩ (.int .i64 gr)) := ((((HQ.out).setCell (ad := ⟨w.heap.size + 1, 6, none⟩) (Nat.le_succ _) _).setCell (ad := ⟨w.heap.size + 1, 4, none⟩) (Nat.le_succ _) _).setCell (ad := ⟨w.heap.size + 1, 5, none⟩) (Nat.le_succ _) _).setCell (ad := ⟨w.heap.size + 1, 5, none⟩) (Nat.le_succ _) _
            have HP2 := Lib.hid hp2
            have HR2 := Lib.hid hr2
            have HQ2 := Lib.hid hq2
            clear hp2 hr2 hq2 p0 p1 p2 p3 p4 p5 p6 p7 p8 f0 f1 f2 f3 f4 f5 f6 f7 f8 r0 r1 r2 r3 r4 r5 r6 r7 r8 e0 e1 e2 e3 e4 e5 e6 e7 e8 HRB HPB HQ
            generalize ((((wr.setCell ⟨w.heap.size + 1, 6, none⟩ (.int .i64 ze)).setCell ⟨w.heap.size + 1, 4, none⟩ (.int .i64 si)).setCell ⟨w.heap.size + 1, 5, none⟩ (.int .i64 si)).setCell ⟨w.heap.size + 1, 5, none⟩ (.int .i64 gr)) = wz at *
            obtain ⟨p0, p1, p2, p3, p4, p5, p6, p7, p8⟩ := HP2.out.cells
            obtain ⟨r0, r1, r2, r3, r4, r5, r6, r7, r8⟩ := HR2.out.cells
            obtain ⟨e0, e1, e2, e3, e4, e5, e6, e7, e8⟩ := HR2.out.free
            have hlong : (64 < wh ∧ Hid (decide (64 < wh ∨ 64 < xf) = true)) ∨ (¬ 64 < wh ∧ 64 < xf ∧ Hid (decide (64 < wh ∨ 64 < xf) = true)) ∨ (¬ 64 < wh ∧ ¬ 64 < xf ∧ Hid (decide (64 < wh ∨ 64 < xf) = false)) := by
              by_cases l1 : 64 < wh
              · exact .inl ⟨l1, Lib.hid (decide_eq_true (.inl l1))⟩
              · by_cases l2 : 64 < xf
                · exact .inr (.inl ⟨l1, l2, Lib.hid (decide_eq_true (.inr l2))⟩)
                · exact .inr (.inr ⟨l1, l2, Lib.hid (decide_eq_false (by omega))⟩)
            rcases hlong with ⟨l1, l3⟩ | ⟨l1, l2, l3⟩ | ⟨l1, l2, l3⟩
            all_goals
              go_region
              all_goals
                go_wp2_with fail
                exact ret_p3 rfl rfl rfl rfl (PB.drew (PB.all HR2.out)) rfl ⟨.inr ⟨_, HX.out, by simp only; rw [l3.out]; first | done | rfl⟩, Q.drew (Q.puts HQ2.out (Nat.le_refl _) _ _ _ _ _ _ _ _ _)⟩
        · have hx0 : (xf == 0) = false := beq_eq_false_iff_ne.2 hxf
          rcases (show (¬ 0 < co ∧ ¬ 1 < co) ∨ (0 < co ∧ ¬ 1 < co) ∨ (0 < co ∧ 1 < co) from by omega) with ⟨c1, c2⟩ | ⟨c1, c2⟩ | ⟨c1, c2⟩
          · have hv : (⟨if 0 < co then si else 0, if 1 < co then gr else if 0 < co then si else 0, ze, mf, xf, decide (64 < wh ∨ 64 < xf)⟩ : Nm) = ⟨0, 0, ze, mf, xf, decide (64 < wh ∨ 64 < xf)⟩ := by rw [if_neg c1, if_neg c2]
            have hx2 := hx.out
            rw [hv] at hx2
            have HX := Lib.hid hx2
            clear hx hx2 hv
            go_upto_region 42 with fail
            have hp2 : PB (wr.setCell ⟨w.heap.size + 1, 6, none⟩ (.int .i64 ze)) (w.heap.size + 1) nilV nilV nilV nilV 0 0 ze mf xf := (HPB.out).set6 _
            have hr2 : PB (wr.setCell ⟨w.heap.size + 1, 6, none⟩ (.int .i64 ze)) w.heap.size nilV nilV nilV nilV 0 0 0 0 0 := (HRB.out).other (ad := ⟨w.heap.size + 1, 6, none⟩) (by simp) _
            have hq2 : Q w (wr.setCell ⟨w.heap.size + 1, 6, none⟩ (.int .i64 ze)) := (HQ.out).setCell (ad := ⟨w.heap.size + 1, 6, none⟩) (Nat.le_succ _) _
            have HP2 := Lib.hid hp2
            have HR2 := Lib.hid hr2
            have HQ2 := Lib.hid hq2
            clear hp2 hr2 hq2 p0 p1 p2 p3 p4 p5 p6 p7 p8 f0 f1 f2 f3 f4 f5 f6 f7 f8 r0 r1 r2 r3 r4 r5 r6 r7 r8 e0 e1 e2 e3 e4 e5 e6 e7 e8 HRB HPB HQ
            generalize (wr.setCell ⟨w.heap.size + 1, 6, none⟩ (.int .i64 ze)) = wz at *
            obtain ⟨p0, p1, p2, p3, p4, p5, p6, p7, p8⟩ := HP2.out.cells
            obtain ⟨r0, r1, r2, r3, r4, r5, r6, r7, r8⟩ := HR2.out.cells
            obtain ⟨e0, e1, e2, e3, e4, e5, e6, e7, e8⟩ := HR2.out.free
            have hlong : (64 < wh ∧ Hid (decide (64 < wh ∨ 64 < xf) = true)) ∨ (¬ 64 < wh ∧ 64 < xf ∧ Hid (decide (64 < wh ∨ 64 < xf) = true)) ∨ (¬ 64 < wh ∧ ¬ 64 < xf ∧ Hid (decide (64 < wh ∨ 64 < xf) = false)) := by
              by_cases l1 : 64 < wh
              · exact .inl ⟨l1, Lib.hid (decide_eq_true (.inl l1))⟩
              · by_cases l2 : 64 < xf
                · exact .inr (.inl ⟨l1, l2, Lib.hid (decide_eq_true (.inr l2))⟩)
                · exact .inr (.inr ⟨l1, l2, Lib.hid (decide_eq_false (by omega))⟩)
            rcases hlong with ⟨l1, l3⟩ | ⟨l1, l2, l3⟩ | ⟨l1, l2, l3⟩
            all_goals
              go_region
              all_goals
                go_wp2_with fail
                exact ret_p3 rfl rfl rfl rfl (PB.drew (PB.all HR2.out)) rfl ⟨.inr ⟨_, HX.out, by simp only; rw [l3.out]; first | done | rfl⟩, Q.drew (Q.puts HQ2.out (Nat.le_refl _) _ _ _ _ _ _ _ _ _)⟩
          · have hv : (⟨if 0 < co then si else 0, if 1 < co then gr else if 0 < co then si else 0, ze, mf, xf, decide (64 < wh ∨ 64 < xf)⟩ : Nm) = ⟨si, si, ze, mf, xf, decide (64 < wh ∨ 64 < xf)⟩ := by rw [if_pos c1, if_neg c2]
            have hx2 := hx.out
            rw [hv] at hx2
            have HX := Lib.hid hx2
            clear hx hx2 hv
            go_upto_region 42 with fail
            have hp2 : PB (((wr.setCell ⟨w.heap.size + 1, 6, none⟩ (.int .i64 ze)).setCell ⟨w.heap.size + 1, 4, none⟩ (.int .i64 si)).setCell ⟨w.heap.size + 1, 5, none⟩ (.int .i64 si)) (w.heap.size + 1) nilV nilV nilV nilV si si ze mf xf := (((HPB.out).set6 _).set4 _).set5 _
            have hr2 : PB (((wr.setCell ⟨w.heap.size + 1, 6, none⟩ (.int .i64 ze)).setCell ⟨w.heap.size + 1, 4, none⟩ (.int .i64 si)).setCell ⟨w.heap.size + 1, 5, none⟩ (.int .i64 si)) w.heap.size nilV nilV nilV nilV 0 0 0 0 0 := (((HRB.out).other (ad := ⟨w.heap.size + 1, 6, none⟩) (by simp) _).other (ad := ⟨w.heap.size + 1, 4, none⟩) (by simp) _).other (ad := ⟨w.heap.size + 1, 5, none⟩) (by simp) _
            have hq2 : Q w (((wr.setCell ⟨w.heap.size + 1, 6, none⟩ (.int .i64 ze)).setCell ⟨w.heap.size + 1, 4, none⟩ (.int .i64 si)).setCell ⟨w.heap.size + 1, 5, none⟩ (.int .i64 si)) := (((HQ.out).setCell (ad := ⟨w.heap.size + 1, 6, none⟩) (Nat.le_succ _) _).setCell (ad := ⟨w.heap.size + 1, 4, none⟩) (Nat.le_succ _) _).setCell (ad := ⟨w.heap.size + 1, 5, none⟩) (Nat.le_succ _) _
            have HP2 := Lib.hid hp2
            have HR2 := Lib.hid hr2
            have HQ2 := Lib.hid hq2
            clear hp2 hr2 hq2 p0 p1 p2 p3 p4 p5 p6 p7 p8 f0 f1 f2 f3 f4 f5 f6 f7 f8 r0 r1 r2 r3 r4 r5 r6 r7 r8 e0 e1 e2 e3 e4 e5 e6 e7 e8 HRB HPB HQ
            generalize (((wr.setCell ⟨w.heap.size + 1, 6, none⟩ (.int .i64 ze)).setCell ⟨w.heap.size + 1, 4, none⟩ (.int .i64 si)).setCell ⟨w.heap.size + 1, 5, none⟩ (.int .i64 si)) = wz at *
            obtain ⟨p0, p1, p2, p3, p4, p5, p6, p7, p8⟩ := HP2.out.cells
            obtain ⟨r0, r1, r2, r3, r4, r5, r6, r7, r8⟩ := HR2.out.cells
            obtain ⟨e0, e1, e2, e3, e4, e5, e6, e7, e8⟩ := HR2.out.free
            have hlong : (64 < wh ∧ Hid (decide (64 < wh ∨ 64 < xf) = true)) ∨ (¬ 64 < wh ∧ 64 < xf ∧ Hid (decide (64 < wh ∨ 64 < xf) = true)) ∨ (¬ 64 < wh ∧ ¬ 64 < xf ∧ Hid (decide (64 < wh ∨ 64 < xf) = false)) := by
              by_cases l1 : 64 < wh
              · exact .inl ⟨l1, Lib.hid (decide_eq_true (.inl l1))⟩
              · by_cases l2 : 64 < xf
                · exact .inr (.inl ⟨l1, l2, Lib.hid (decide_eq_true (.inr l2))⟩)
                · exact .inr (.inr ⟨l1, l2, Lib.hid (decide_eq_false (by omega))⟩)
            rcases hlong with ⟨l1, l3⟩ | ⟨l1, l2, l3⟩ | ⟨l1, l2, l3⟩
            all_goals
              go_region
              all_goals
                go_wp2_with fail
                exact ret_p3 rfl rfl rfl rfl (PB.drew (PB.all HR2.out)) rfl ⟨.inr ⟨_, HX.out, by simp only; rw [l3.out]; first | done | rfl⟩, Q.drew (Q.puts HQ2.out (Nat.le_refl _) _ _ _ _ _ _ _ _ _)⟩
          · have hv : (⟨if 0 < co then si else 0, if 1 < co then gr else if 0 < co then si else 0, ze, mf, xf, decide (64 < wh ∨ 64 < xf)⟩ : Nm) = ⟨si, gr, ze, mf, xf, decide (64 < wh ∨ 64 < xf)⟩ := by rw [if_pos c1, if_pos c2]
            have hx2 := hx.out
            rw [hv] at hx2
            have HX := Lib.hid hx2
            clear hx hx2 hv
            go_upto_region 42 with fail
            have hp2 : PB ((((wr.setCell ⟨w.heap.size + 1, 6, none⟩ (.int .i64 ze)).setCell ⟨w.heap.size + 1, 4, none⟩ (.int .i64 si)).setCell ⟨w.heap.size + 1, 5, none⟩ (.int .i64 si)).setCell ⟨w.heap.size + 1, 5, none⟩ (.int .i64 gr)) (w.heap.size + 1) nilV nilV nilV nilV si gr ze mf xf := ((((HPB.out).set6 _).set4 _).set5 _).set5 _
            have hr2 : PB ((((wr.setCell ⟨w.heap.size + 1, 6, none⟩ (.int .i64 ze)).setCell ⟨w.heap.size + 1, 4, none⟩ (.int .i64 si)).setCell ⟨w.heap.size + 1, 5, none⟩ (.int .i64 si)).setCell ⟨w.heap.size + 1, 5, none⟩ (.int .i64 gr)) w.heap.size nilV nilV nilV nilV 0 0 0 0 0 := ((((HRB.out).other (ad := ⟨w.heap.size + 1, 6, none⟩) (by simp) _).other (ad := ⟨w.heap.size + 1, 4, none⟩) (by simp) _).other (ad := ⟨w.heap.size + 1, 5, none⟩) (by simp) _).other (ad := ⟨w.heap.size + 1, 5, none⟩) (by simp) _
            have hq2 : Q w ((((wr.setCell ⟨w.heap.size + 1, 6, none⟩ (.int .i64 ze)).setCell ⟨w.heap.size + 1, 4, none⟩ (.int .i64 si)).setCell ⟨w.heap.size + 1, 5, none⟩ (.int .i64 si)).setCell ⟨w.heap.size + 1, 5, none⟩ (.int .i64 gr)) := ((((HQ.out).setCell (ad := ⟨w.heap.size + 1, 6, none⟩) (Nat.le_succ _) _).setCell (ad := ⟨w.heap.size + 1, 4, none⟩) (Nat.le_succ _) _).setCell (ad := ⟨w.heap.size + 1, 5, none⟩) (Nat.le_succ _) _).setCell (ad := ⟨w.heap.size + 1, 5, none⟩) (Nat.le_succ _) _
            have HP2 := Lib.hid hp2
            have HR2 := Lib.hid hr2
            have HQ2 := Lib.hid hq2
            clear hp2 hr2 hq2 p0 p1 p2 p3 p4 p5 p6 p7 p8 f0 f1 f2 f3 f4 f5 f6 f7 f8 r0 r1 r2 r3 r4 r5 r6 r7 r8 e0 e1 e2 e3 e4 e5 e6 e7 e8 HRB HPB HQ
            generalize ((((wr.setCell ⟨w.heap.size + 1, 6, none⟩ (.int .i64 ze)).setCell ⟨w.heap.size + 1, 4, none⟩ (.int .i64 si)).setCell ⟨w.heap.size + 1, 5, none⟩ (.int .i64 si)).setCell ⟨w.heap.size + 1, 5, none⟩ (.int .i64 gr)) = wz at *
            obtain ⟨p0, p1, p2, p3, p4, p5, p6, p7, p8⟩ := HP2.out.cells
            obtain ⟨r0, r1, r2, r3, r4, r5, r6, r7, r8⟩ := HR2.out.cells
            obtain ⟨e0, e1, e2, e3, e4, e5, e6, e7, e8⟩ := HR2.out.free
            have hlong : (64 < wh ∧ Hid (decide (64 < wh ∨ 64 < xf) = true)) ∨ (¬ 64 < wh ∧ 64 < xf ∧ Hid (decide (64 < wh ∨ 64 < xf) = true)) ∨ (¬ 64 < wh ∧ ¬ 64 < xf ∧ Hid (decide (64 < wh ∨ 64 < xf) = false)) := by
              by_cases l1 : 64 < wh
              · exact .inl ⟨l1, Lib.hid (decide_eq_true (.inl l1))⟩
              · by_cases l2 : 64 < xf
                · exact .inr (.inl ⟨l1, l2, Lib.hid (decide_eq_true (.inr l2))⟩)
                · exact .inr (.inr ⟨l1, l2, Lib.hid (decide_eq_false (by omega))⟩)
            rcases hlong with ⟨l1, l3⟩ | ⟨l1, l2, l3⟩ | ⟨l1, l2, l3⟩
            all_goals
              go_region
              all_goals
                go_wp2_with fail
                exact ret_p3 rfl rfl rfl rfl (PB.drew (PB.all HR2.out)) rfl ⟨.inr ⟨_, HX.out, by simp only; rw [l3.out]; first | done | rfl⟩, Q.drew (Q.puts HQ2.out (Nat.le_refl _) _ _ _ _ _ _ _ _ _)⟩

end Pr
end Go.Proofs.YtglljkbpdbnhaaaGreatDoor

set_option linter.unusedVariables false
set_option linter.unusedSimpArgs false
namespace Go.Proofs.YtglljkbpdbnhaaaGreatDoor
open Go.RowKit
namespace Pr
open Pt Um

set_option maxRecDepth 100000 in
set_option maxHeartbeats 4000000 in
theorem none_any (a b c d : Value) (p s i m x : Int) (l : List Pc.E) (w : World) (ha : Pc.LstP w a l) (hl : l.length ≤ 1000000) :
    Calls Tryz.prog 55 #[pv a b c d p s i m x] w fun e w' => ∃ u, e = .returned u ∧ OwnB w' w.heap.size u ((3, []) :: l) ∧ Q w w' := by
  unfold pv
  have hb0 : PB (w.alloc (.cells #[a, b, c, d, .int .i64 p, .int .i64 s, .int .i64 i, .int .i64 m, .int .i64 x] 36)) w.heap.size a b c d p s i m x := heap_alloc_new _ _
  have hq0 : Q w (w.alloc (.cells #[a, b, c, d, .int .i64 p, .int .i64 s, .int .i64 i, .int .i64 m, .int .i64 x] 36)) := (Q.refl w).alloc _
  have hsz : (w.alloc (.cells #[a, b, c, d, .int .i64 p, .int .i64 s, .int .i64 i, .int .i64 m, .int .i64 x] 36)).heap.size = w.heap.size + 1 := Array.size_push _
  obtain ⟨n, hn⟩ : ∃ n, l.length = n := ⟨_, rfl⟩
  obtain ⟨aa, ac, rfl, ac1, ac2⟩ := ha.form0 hn
  rw [hn] at hl
  have HA := Lib.hid ha
  have HB0 := Lib.hid hb0
  have HQ0 := Lib.hid hq0
  have HSZ := Lib.hid hsz
  have HN := Lib.hid hn
  clear ha hb0 hq0 hsz hn
  go_enter Tryz.func55, Tryz.ntmps55
  go_wp2_with (at_builtin; refine Pc.push elB (Pc.OwnE.nil 110 _ (w.heap.size + 1)) rfl _ _ rfl 3 ⟨#[]⟩ (by rfl) (by rw [HSZ.out]; rfl) (by decide) (Nat.le_of_eq HSZ.out.symm) ?_)
  intro v' w4 ho4 hg4 hat4
  have hq4 := (Q.refl _).grown hg4 (fun j h => nomatch h)
  have hb4 := HB0.out.q hq4
  have HQ4 := Lib.hid (HQ0.out.trans hq4)
  have HB4 := Lib.hid hb4
  have hs4 : w.heap.size + 1 ≤ w4.heap.size := hb4.lt
  obtain ⟨va, vc, rfl, vc1, vc2⟩ := ho4.lst.form0 (n := 1) rfl
  have HO4 := Lib.hid ho4
  obtain ⟨r0, -⟩ := hb4.cells
  clear hb4 hq4 hg4 hat4 ho4
  go_wp2_with (at_builtin; refine Pc.pushl elB HO4.out (HA.out.q HQ4.out) rfl _ _ rfl (by rfl) (by rfl) (by rw [HN.out]; show 1 + n < _; omega) hs4 ?_)
  intro v5 w5 ho5 hg5 hat5
  have hq5 := HQ4.out.grown hg5 (fun j h => Nat.le_of_succ_le (HO4.out.lt j h).1)
  go_wp2_with fail
  go_ret
  exact ⟨_, rfl, ho5.mono (Nat.le_succ _), hq5⟩

/-- The bytes of one of the ten signs. -/
def tb (x : Nat) : List UInt8 := (sgn.getD x []).flatMap encL
theorem tb_eq : ∀ x, x < 10 → tb x = ([[97], [194, 164], [37], [45], [39, 35, 39], [39, 39], [194, 160], [101, 204, 129], [39, 46, 59, 39], [120, 39, 121, 39]] : List (List UInt8)).getD x [] := by decide +kernel
theorem tb_len : ∀ x, x < 10 → (tb x).length ≤ 4 := by decide +kernel
theorem tb_cell (w : World) : ∀ x, x < 10 → (w.alloc (.cells #[.string ⟨#[97]⟩, .string ⟨#[194, 164]⟩, .string ⟨#[37]⟩, .string ⟨#[45]⟩, .string ⟨#[39, 35, 39]⟩, .string ⟨#[39, 39]⟩, .string ⟨#[194, 160]⟩, .string ⟨#[101, 204, 129]⟩, .string ⟨#[39, 46, 59, 39]⟩, .string ⟨#[120, 39, 121, 39]⟩] 9)).cell? ⟨w.heap.size, x, none⟩ = some (.string ⟨(tb x).toArray⟩) := by
  intro x hx
  rw [tb_eq x hx]
  have hb : (w.alloc (.cells #[.string ⟨#[97]⟩, .string ⟨#[194, 164]⟩, .string ⟨#[37]⟩, .string ⟨#[45]⟩, .string ⟨#[39, 35, 39]⟩, .string ⟨#[39, 39]⟩, .string ⟨#[194, 160]⟩, .string ⟨#[101, 204, 129]⟩, .string ⟨#[39, 46, 59, 39]⟩, .string ⟨#[120, 39, 121, 39]⟩] 9)).heap[w.heap.size]? = some (.cells #[.string ⟨#[97]⟩, .string ⟨#[194, 164]⟩, .string ⟨#[37]⟩, .string ⟨#[45]⟩, .string ⟨#[39, 35, 39]⟩, .string ⟨#[39, 39]⟩, .string ⟨#[194, 160]⟩, .string ⟨#[101, 204, 129]⟩, .string ⟨#[39, 46, 59, 39]⟩, .string ⟨#[120, 39, 121, 39]⟩] 9) := heap_alloc_new _ _
  unfold World.cell?
  simp only [hb]
  rcases (show x = 0 ∨ x = 1 ∨ x = 2 ∨ x = 3 ∨ x = 4 ∨ x = 5 ∨ x = 6 ∨ x = 7 ∨ x = 8 ∨ x = 9 from by omega) with rfl | rfl | rfl | rfl | rfl | rfl | rfl | rfl | rfl | rfl <;> rfl
def sgX (l : List Int) (k : Nat) : List UInt8 := (sgL (l.take k)).flatMap encL
theorem sgX_step (l : List Int) (k : Nat) (hk : k < l.length) (h5 : k < 5) : sgX l (k + 1) = sgX l k ++ tb (around (l.getD k 0) 10).toNat := by
  unfold sgX sgL tb
  rw [List.take_of_length_le (l := l.take (k + 1)) (by rw [List.length_take]; omega), List.take_of_length_le (l := l.take k) (by rw [List.length_take]; omega), List.take_succ_eq_append_getElem hk, List.flatMap_append, List.flatMap_append, List.flatMap_cons, List.flatMap_nil, List.append_nil]
  have e : l.getD k 0 = l[k] := by rw [List.getD_eq_getElem?_getD, List.getElem?_eq_getElem hk]; rfl
  rw [e]
theorem sgX_end (l : List Int) (k : Nat) (h : l.length ≤ k ∨ 5 ≤ k) : sgX l k = (sgL l).flatMap encL := by
  unfold sgX sgL
  rw [List.take_take]
  rcases h with h | h
  · congr 2
    by_cases h5 : 5 ≤ k
    · rw [Nat.min_eq_left h5]
    · rw [List.take_of_length_le (by omega), List.take_of_length_le (by omega)]
  · rw [Nat.min_eq_left h]

end Pr
end Go.Proofs.YtglljkbpdbnhaaaGreatDoor

set_option linter.unusedVariables false
set_option linter.unusedSimpArgs false
namespace Go.Proofs.YtglljkbpdbnhaaaGreatDoor
open Go.RowKit
namespace Pr
open Pt Um

set_option maxRecDepth 100000 in
open Pt Um

/-- What a piece is put for. -/
def resF (a b c : ByteArray) (p : Pc.E) : List UInt8 := if 0 < p.1 ∧ p.1 < 4 then (if p.1 = 1 then a.data.toList else if p.1 = 2 then b.data.toList else c.data.toList) else p.2
def resL (a b c : ByteArray) (l : List Pc.E) : List UInt8 := l.flatMap (resF a b c)
theorem resL_step (a b c : ByteArray) (l : List Pc.E) (k : Nat) (hk : k < l.length) : resL a b c (l.take (k + 1)) = resL a b c (l.take k) ++ resF a b c (l.getD k (0, [])) := by
  unfold resL
  rw [List.take_succ_eq_append_getElem hk, List.flatMap_append, List.flatMap_cons, List.flatMap_nil, List.append_nil, List.getD_eq_getElem?_getD, List.getElem?_eq_getElem hk]
  rfl
theorem resL_le (a b c : ByteArray) (l : List Pc.E) (k : Nat) : (resL a b c (l.take k)).length ≤ (resL a b c l).length := by
  have h : resL a b c l = resL a b c (l.take k) ++ resL a b c (l.drop k) := by
    unfold resL
    rw [← List.flatMap_append, List.take_append_drop]
  rw [h, List.length_append]
  omega
theorem txt_cell (w : World) (a b c : ByteArray) (z : ByteArray) : let w' := w.alloc (.cells #[.string z, .string a, .string b, .string c] 9); w'.cell? ⟨w.heap.size, 1, none⟩ = some (.string a) ∧ w'.cell? ⟨w.heap.size, 2, none⟩ = some (.string b) ∧ w'.cell? ⟨w.heap.size, 3, none⟩ = some (.string c) := by
  have hb : (w.alloc (.cells #[.string z, .string a, .string b, .string c] 9)).heap[w.heap.size]? = some (.cells #[.string z, .string a, .string b, .string c] 9) := heap_alloc_new _ _
  simp only [World.cell?, hb]
  exact ⟨rfl, rfl, rfl⟩

set_option maxRecDepth 100000 in
set_option maxHeartbeats 4000000 in
theorem resolve_any (v : Value) (l : List Pc.E) (a b c : ByteArray) (w : World) (hv : Pc.LstP w v l) (hl : l.length ≤ 1000000) (hr : (resL a b c l).length ≤ 1000000000000) :
    Calls Tryz.prog 95 #[v, .string a, .string b, .string c] w fun e w' => e = .returned (.string ⟨(resL a b c l).toArray⟩) ∧ Q w w' := by
  obtain ⟨n, hn⟩ : ∃ n, l.length = n := ⟨_, rfl⟩
  obtain ⟨ad, cp, rfl, hc1, hc2⟩ := hv.form0 hn
  have HV := Lib.hid hv
  have HN := Lib.hid hn
  have HTB := Lib.hid (txt_cell w a b c ⟨#[]⟩)
  rw [hn] at hl
  have HLE := Lib.hid (fun k => Nat.le_trans (resL_le a b c l k) hr)
  have HEND := Lib.hid (show resL a b c (l.take n) = resL a b c l by rw [List.take_of_length_le (by omega)])
  clear hv hn hr
  obtain ⟨R, hR⟩ : ∃ R, R = resL a b c l := ⟨_, rfl⟩
  rw [← hR] at HEND ⊢
  clear hR
  go_enter Tryz.func95, Tryz.ntmps95
  go_wp2_with fail
  go_loopw [10, 11] (fun s i wr => ∃ k : Nat, i = .int .i64 k ∧ k ≤ n ∧ s = .string ⟨(resL a b c (l.take k)).toArray⟩ ∧ Hid (wr.cell? ⟨w.heap.size, 1, none⟩ = some (.string a) ∧ wr.cell? ⟨w.heap.size, 2, none⟩ = some (.string b) ∧ wr.cell? ⟨w.heap.size, 3, none⟩ = some (.string c)) ∧ Q w wr) (fun _ i _ => n - (intOf i).toNat)
  case atStart => exact ⟨0, rfl, by omega, rfl, HTB, (Q.refl w).alloc _⟩
  case round =>
    obtain ⟨k, rfl, hkn, rfl, HT, hq⟩ := hrel
    have HQ := Lib.hid hq
    by_cases h1 : k < n
    · have h1i : (k : Int) < (n : Int) := by omega
      obtain ⟨g, off, cap, hvv, hg, _, _, c1, d1⟩ := HV.out.cellOf HN.out h1
      cases hvv
      have c2 := (World.cell?_of_block (w := w) (hq.block hg)).trans c1
      have d2 := (World.cell?_of_block (w := w) (hq.block hg)).trans d1
      have hst := resL_step a b c l k (by rw [HN.out]; exact h1)
      obtain ⟨p, hp⟩ : ∃ p, p = l.getD k (0, []) := ⟨_, rfl⟩
      rw [← hp] at c2 d2 hst
      obtain ⟨x, t⟩ := p
      simp only at c2 d2
      obtain ⟨T, hT⟩ : ∃ T : ByteArray, T = ⟨(resF a b c (x, t)).toArray⟩ := ⟨_, rfl⟩
      have hap := app_eq (resL a b c (l.take k)) (resF a b c (x, t))
      rw [← hst, ← hT] at hap
      have hle := HLE.out (k + 1)
      have hle0 := HLE.out k
      rw [hst, List.length_append] at hle
      have s1 : (⟨(resL a b c (l.take k)).toArray⟩ : ByteArray).size ≤ 1000000000000 := by rw [← size_list]; exact hle0
      have s2 : T.size ≤ 1000000000000 := by rw [hT, ← size_list]; show (resF a b c (x, t)).length ≤ _; omega
      have hcs : (x = 1 ∧ T = a) ∨ (x = 2 ∧ T = b) ∨ (x = 3 ∧ T = c) ∨ (x ≤ 0 ∧ T = ⟨t.toArray⟩) ∨ (0 < x ∧ 4 ≤ x ∧ T = ⟨t.toArray⟩) := by
        unfold resF at hT
        by_cases h : 0 < x ∧ x < 4
        · rw [if_pos h] at hT
          rcases (show x = 1 ∨ x = 2 ∨ x = 3 from by omega) with rfl | rfl | rfl
          · exact .inl ⟨rfl, by rw [hT]; rfl⟩
          · exact .inr (.inl ⟨rfl, by rw [hT]; rfl⟩)
          · exact .inr (.inr (.inl ⟨rfl, by rw [hT]; rfl⟩))
        · rw [if_neg h] at hT
          by_cases h0 : x ≤ 0
          · exact .inr (.inr (.inr (.inl ⟨h0, hT⟩)))
          · exact .inr (.inr (.inr (.inr ⟨by omega, by omega, hT⟩)))
      generalize (⟨(resL a b c (l.take k)).toArray⟩ : ByteArray) = S at *
      have HAP := Lib.hid hap
      clear c1 d1 hp hst hT hap hle hle0 hq
      obtain ⟨q1, q2, q3⟩ := HT.out
      rcases hcs with ⟨rfl, rfl⟩ | ⟨rfl, rfl⟩ | ⟨rfl, rfl⟩ | ⟨hx, hT⟩ | ⟨hx, hx4, hT⟩
      · go_wp2_with fail
        exact ⟨⟨k + 1, by go_num, by omega, by rw [HAP.out], HT, HQ.out⟩, by simp [intOf]; omega⟩
      · go_wp2_with fail
        exact ⟨⟨k + 1, by go_num, by omega, by rw [HAP.out], HT, HQ.out⟩, by simp [intOf]; omega⟩
      · go_wp2_with fail
        exact ⟨⟨k + 1, by go_num, by omega, by rw [HAP.out], HT, HQ.out⟩, by simp [intOf]; omega⟩
      · have d3 : wr.cell? ⟨g, off + k * 2 + 1, none⟩ = some (.string T) := by rw [hT]; exact d2
        clear d2
        have hx0 : ¬ 0 < x := by omega
        clear hT q1 q2 q3
        go_wp2_with fail
        exact ⟨⟨k + 1, by go_num, by omega, by rw [HAP.out], HT, HQ.out⟩, by simp [intOf]; omega⟩
      · have d3 : wr.cell? ⟨g, off + k * 2 + 1, none⟩ = some (.string T) := by rw [hT]; exact d2
        clear d2
        have hx0 : ¬ x < 4 := by omega
        clear hT q1 q2 q3
        go_wp2_with fail
        exact ⟨⟨k + 1, by go_num, by omega, by rw [HAP.out], HT, HQ.out⟩, by simp [intOf]; omega⟩
    · have hk : k = n := by omega
      subst hk
      have hno : ¬ (k : Int) < (k : Int) := by omega
      rw [HEND.out]
      clear hq
      go_wp2_with fail
      go_ret
      exact ⟨rfl, HQ.out⟩

end Pr
end Go.Proofs.YtglljkbpdbnhaaaGreatDoor
