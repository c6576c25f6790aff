/- Pieces: whether two lists are the same; a list's copy; what stands for a negative half; how many are of a kind; their texts. Whether two patterns are the same, as the program tells it. Pieces' texts. Halves, side by side in memory. -/
import Derived.Test.YtglljkbpdbnhaaaGreatDoorRows
import Derived.Test.YtglljkbpdbnhaaaGreatDoorMA
import Derived.Test.YtglljkbpdbnhaaaGreatDoorMB
import Derived.Test.YtglljkbpdbnhaaaGreatDoorMG
import Derived.Test.YtglljkbpdbnhaaaGreatDoorMBP
import Derived.Test.YtglljkbpdbnhaaaGreatDoorMN
import Derived.Deep.QuietTactic
import Derived.BigQuiet
import Derived.IntWalk
import Derived.Lib.SliceRun
import Derived.Test.YtglljkbpdbnhaaaGreatDoorPgG
set_option linter.unusedVariables false
set_option linter.unusedSimpArgs false
namespace Go.Proofs.YtglljkbpdbnhaaaGreatDoor
open Go.RowKit
namespace Pg
open Pt Um

theorem OwnP.one (w : World) (k : Int) (t : ByteArray) : OwnP (w.alloc (.cells #[.int .i64 k, .string t] 130)) w.heap.size (.slice (some ⟨w.heap.size, 0, none⟩) 1 1) [(k, t.data.toList)] :=
  ⟨rfl, .inr ⟨w.heap.size, 1, #[.int .i64 k, .string t], rfl, Nat.le_refl _, heap_alloc_new _ _, Nat.le_refl _, by unfold maxLen; omega, rfl, rfl⟩⟩
theorem OwnP.none (w : World) : OwnP (w.alloc (.cells #[] 130)) w.heap.size (.slice (some ⟨w.heap.size, 0, none⟩) 0 0) [] :=
  ⟨rfl, .inr ⟨w.heap.size, 0, #[], rfl, Nat.le_refl _, heap_alloc_new _ _, Nat.le_refl _, by unfold maxLen; omega, rfl, rfl⟩⟩
set_option maxRecDepth 100000 in
set_option maxHeartbeats 1000000 in
theorem clone_any (v : Value) (l : List Pc.E) (w : World) (hv : Pc.LstP w v l) (hl : l.length ≤ 1000000) :
    Calls Tryz.prog 139 #[v] w fun e w' => ∃ u, e = .returned u ∧ Pc.New w' w.heap.size u l ∧ Q w w' := by
  obtain ⟨n, hn⟩ : ∃ n, n = l.length := ⟨_, rfl⟩
  have HV := Lib.hid hv
  obtain ⟨a, cp, rfl, hc1, hc2⟩ := hv.form0 hn.symm
  have HN := Lib.hid hn
  cases a with
  | none =>
    have hl0 : l = [] := by
      rcases hv with ⟨h, _⟩ | ⟨g, off, cap, h, _⟩
      · exact h
      · cases h
    subst hl0
    have q22 : ∀ (w : World) (a : Option Addr) (n c n' c' : Nat), (binOp .eql 76 (.slice a n c) (.slice none n' c')).run Tryz.prog w = .ok (.bool a.isNone) w := fun w a n c n' c' => Lib.run_eql_slice_nil w _ _ a n c n' c' Tryz.underlying76
    go_enter Tryz.func139, Tryz.ntmps139
    go_wp2_with fail
    go_ret
    exact ⟨_, rfl, ⟨Pc.LstP.nil _ _ _ (by unfold maxLen; omega) (fun _ => rfl), fun a n c h => by cases h⟩, Q.refl _⟩
  | some ad =>
    have ho := OwnP.none w
    have hqa := (Q.refl w).alloc (.cells #[] 130)
    have HVA := Lib.hid (HV.out.q hqa)
    clear hv hn
    have q22 : ∀ (w : World) (a : Option Addr) (n c n' c' : Nat), (binOp .eql 76 (.slice a n c) (.slice none n' c')).run Tryz.prog w = .ok (.bool a.isNone) w := fun w a n c n' c' => Lib.run_eql_slice_nil w _ _ a n c n' c' Tryz.underlying76
    go_enter Tryz.func139, Tryz.ntmps139
    go_wp2_with (at_builtin; refine Pc.pushl elP ho HVA.out rfl _ _ rfl (by rfl) (by rfl) (by simp; omega) hqa.le ?_)
    intro v' w4 ho4 hg4 hat4
    have hq4 := hqa.grown hg4 (fun j h => (ho.lt j h).1)
    have HO := Lib.hid (show OwnP w4 w.heap.size v' l from ho4)
    clear ho4
    go_wp2_with fail
    go_ret
    exact ⟨_, rfl, HO.out.new, hq4⟩
set_option maxRecDepth 100000 in
set_option maxHeartbeats 1000000 in
theorem negative_any (va vb : Value) (l k : List Pc.E) (w : World) (hv : Pc.LstP w va l) (hu : Pc.LstP w vb k) (hl : l.length ≤ 1000000) (hk : k.length ≤ 1000000) :
    Calls Tryz.prog 109 #[va, vb] w fun e w' => ∃ u v, e = .returned (.tuple #[u, v]) ∧ Pc.New w' w.heap.size u ((3, []) :: l) ∧ Pc.New w' w.heap.size v k ∧ Q w w' := by
  obtain ⟨a, c, rfl, _, _⟩ := hv.shape2
  obtain ⟨b, d, rfl, _, _⟩ := hu.shape2
  have ho := OwnP.one w 3 ByteArray.empty
  have hqa := (Q.refl w).alloc (.cells #[.int .i64 3, .string ByteArray.empty] 130)
  have HVA := Lib.hid (hv.q hqa)
  have HU := Lib.hid (fun u (hq : Q w u) => clone_any _ k u (hu.q hq) hk)
  obtain ⟨n, hn⟩ : ∃ n, n = l.length := ⟨_, rfl⟩
  obtain ⟨m, hm⟩ : ∃ m, m = k.length := ⟨_, rfl⟩
  have hlen : ([(3, ByteArray.empty.data.toList)] : List Pc.E).length + l.length < 1073741824 := by simp; omega
  rw [← hn] at HVA ⊢
  rw [← hm] at HU ⊢
  clear hv hu hn hm
  go_enter Tryz.func109, Tryz.ntmps109
  go_wp2_with (at_builtin; refine Pc.pushl elP ho HVA.out rfl _ _ rfl (by rfl) (by rfl) hlen hqa.le ?_)
  intro v' w4 ho4 hg4 hat4
  have hq4 := hqa.grown hg4 (fun j h => (ho.lt j h).1)
  have HO := Lib.hid (show OwnP w4 w.heap.size v' ((3, []) :: l) from ho4)
  clear ho4
  go_wp2_with fail
  refine (HU.out _ hq4).mono ?_
  rintro e w5 ⟨v5, rfl, hn5, hq5⟩
  have HN5 := Lib.hid (hn5.mono hq4.le)
  have HO5 := Lib.hid (HO.out.new.q hq5)
  clear hn5
  go_wp2_with fail
  go_ret2
  exact ⟨_, _, rfl, HO5.out, HN5.out, hq4.trans hq5⟩

set_option maxRecDepth 100000 in
set_option maxHeartbeats 1000000 in
theorem countP_any (v : Value) (l : List Pc.E) (kind : Int) (w : World) (hv : Pc.LstP w v l) (hl : l.length ≤ 1000000) :
    Calls Tryz.prog 113 #[v, .int .i64 kind] w fun e w' => e = .returned (.int .i64 ((l.countP fun p => p.1 == kind : Nat) : Int)) ∧ Q w w' := by
  obtain ⟨n, hn⟩ : ∃ n, n = l.length := ⟨_, rfl⟩
  have HN := Lib.hid hn
  have HV := Lib.hid hv
  obtain ⟨a, cp, rfl, hc1, hc2⟩ := hv.form0 hn.symm
  rw [← hn] at hl
  obtain ⟨T, hT⟩ : ∃ T : Nat → Nat, T = fun k => (l.take k).countP fun p => p.1 == kind := ⟨_, rfl⟩
  have HT1 := Lib.hid (show (l.countP fun p => p.1 == kind) = T n by rw [hT, hn]; simp)
  have HT0 := Lib.hid (show T 0 = 0 by rw [hT]; rfl)
  have HTS := Lib.hid (show ∀ k, k < n → T (k + 1) = T k + (if (l.getD k (0, [])).1 = kind then 1 else 0) from fun k hk => by
    have hk' : k < l.length := by omega
    rw [hT]
    simp only
    rw [List.take_succ_eq_append_getElem hk', List.countP_append, List.getD_eq_getElem?_getD, List.getElem?_eq_getElem hk']
    simp [List.countP_cons])
  have HTL := Lib.hid (show ∀ k, T k ≤ k from fun k => by rw [hT]; exact Nat.le_trans List.countP_le_length (List.length_take_le _ _))
  rw [HT1.out]
  clear hn hv hT
  go_enter Tryz.func113, Tryz.ntmps113
  go_wp2_with fail
  go_loopw [5, 10] (fun m i wr => ∃ k : Nat, i = .int .i64 k ∧ m = .int .i64 (T k) ∧ k ≤ n ∧ Q w wr) (fun _ i _ => n - (intOf i).toNat)
  case atStart => exact ⟨0, rfl, by rw [HT0.out]; rfl, by omega, Q.refl _⟩
  case round =>
    obtain ⟨k, rfl, rfl, hk, hq⟩ := hrel
    by_cases hlt : k < n
    · have hlti : (k : Int) < (n : Int) := by omega
      obtain ⟨g, off, cap, hvv, hg, _, _, c1, c2⟩ := (HV.out.q hq).cellOf HN.out.symm hlt
      cases hvv
      have hts := HTS.out k hlt
      have htl := HTL.out k
      obtain ⟨x, hx⟩ : ∃ x, x = l.getD k (0, []) := ⟨_, rfl⟩
      rw [← hx] at c1 c2 hts
      obtain ⟨xk, xt⟩ := x
      unfold Pc.txt at c2
      generalize (⟨xt.toArray⟩ : ByteArray) = X at *
      clear hx
      by_cases hxk : xk = kind
      · rw [if_pos hxk] at hts
        subst hxk
        have HF := Lib.hid hts
        clear hts
        go_wp2_with fail
        exact ⟨⟨k + 1, by go_num, by rw [HF.out]; go_num, by omega, by first | exact hq.alloc _ | exact Q.setCell (Q.setCell (hq.alloc _) hq.le _) hq.le _⟩, by simp [intOf]; omega⟩
      · rw [if_neg hxk] at hts
        have HF := Lib.hid hts
        have hb : (xk == kind) = false := beq_eq_false_iff_ne.2 hxk
        clear hts
        go_wp2_with fail
        exact ⟨⟨k + 1, by go_num, by rw [HF.out]; go_num, by omega, by first | exact hq.alloc _ | exact Q.setCell (Q.setCell (hq.alloc _) hq.le _) hq.le _⟩, by simp [intOf]; omega⟩
    · have hnlt : ¬ (k : Int) < (n : Int) := by omega
      obtain rfl : k = n := by omega
      go_wp2_with fail
      go_ret
      exact ⟨rfl, hq⟩

end Pg
end Go.Proofs.YtglljkbpdbnhaaaGreatDoor

set_option linter.unusedVariables false
set_option linter.unusedSimpArgs false
namespace Go.Proofs.YtglljkbpdbnhaaaGreatDoor
open Go.RowKit
namespace Pg
open Pt Um

@[reducible] def pv (a b c d : Value) (p s i m x : Int) : Value := .agg #[a, b, c, d, .int .i64 p, .int .i64 s, .int .i64 i, .int .i64 m, .int .i64 x]
/-- A value that reads as a pattern, its lists in blocks from B on. -/
def PV (w : World) (B : Nat) (v : Value) (X : Pat) : Prop := ∃ a b c d, v = pv a b c d X.pr X.se X.mi X.mf X.xf ∧ Pc.New w B a X.pre ∧ Pc.New w B b X.suf ∧ Pc.New w B c X.npre ∧ Pc.New w B d X.nsuf
theorem PV.q {w w' : World} {B : Nat} {v : Value} {X : Pat} (h : PV w B v X) (hq : Q w w') : PV w' B v X := by
  obtain ⟨a, b, c, d, h, h1, h2, h3, h4⟩ := h
  exact ⟨a, b, c, d, h, h1.q hq, h2.q hq, h3.q hq, h4.q hq⟩
theorem PV.mono {w : World} {B B' : Nat} {v : Value} {X : Pat} (h : PV w B v X) (hB : B' ≤ B) : PV w B' v X := by
  obtain ⟨a, b, c, d, h, h1, h2, h3, h4⟩ := h
  exact ⟨a, b, c, d, h, h1.mono hB, h2.mono hB, h3.mono hB, h4.mono hB⟩
/-- Its lists are not too long. -/
def PS (X : Pat) : Prop := X.pre.length ≤ 1000000 ∧ X.suf.length ≤ 1000000 ∧ X.npre.length ≤ 1000000 ∧ X.nsuf.length ≤ 1000000

end Pg
end Go.Proofs.YtglljkbpdbnhaaaGreatDoor

set_option linter.unusedVariables false
set_option linter.unusedSimpArgs false
namespace Go.Proofs.YtglljkbpdbnhaaaGreatDoor
open Go.RowKit
namespace Pg
open Pt Um

theorem fm_snoc {α : Type} (f : α → List UInt8) (l : List α) (k : Nat) (x : α) (hk : l[k]? = some x) : (l.take (k + 1)).flatMap f = (l.take k).flatMap f ++ f x := by
  have hk' := (List.getElem?_eq_some_iff.1 hk).1
  have e := (List.getElem?_eq_some_iff.1 hk).2
  rw [List.take_succ_eq_append_getElem hk', List.flatMap_append, e]
  simp
theorem fm_le {α : Type} (f : α → List UInt8) (l : List α) (k : Nat) : ((l.take k).flatMap f).length ≤ (l.flatMap f).length := by
  conv => rhs; rw [← List.take_append_drop k l, List.flatMap_append, List.length_append]
  omega
/-- A piece's text. -/
def rsP (c p m : ByteArray) (x : Pc.E) : List UInt8 := if x.1 = 0 then x.2 else if x.1 = 1 then c.data.toList else if x.1 = 2 then p.data.toList else if x.1 = 3 then m.data.toList else []

set_option maxRecDepth 100000 in
set_option maxHeartbeats 2000000 in
theorem resolveP_any (v : Value) (l : List Pc.E) (c p m : ByteArray) (w : World) (hv : Pc.LstP w v l) (hl : l.length ≤ 1000000) (hz : (l.flatMap (rsP c p m)).length ≤ 1000000) :
    Calls Tryz.prog 124 #[v, .string c, .string p, .string m] w fun e w' => e = .returned (.string ⟨(l.flatMap (rsP c p m)).toArray⟩) ∧ Q w w' := by
  obtain ⟨n, hn⟩ : ∃ n, n = l.length := ⟨_, rfl⟩
  have HN := Lib.hid hn
  have HV := Lib.hid hv
  obtain ⟨a, cp, rfl, hc1, hc2⟩ := hv.form0 hn.symm
  rw [← hn] at hl
  obtain ⟨T, hT⟩ : ∃ T : Nat → List UInt8, T = fun k => (l.take k).flatMap (rsP c p m) := ⟨_, rfl⟩
  have HT1 := Lib.hid (show l.flatMap (rsP c p m) = T n by rw [hT, hn]; simp)
  have HTS := Lib.hid (show ∀ k x, l[k]? = some x → T (k + 1) = T k ++ rsP c p m x from fun k x hk => by rw [hT]; exact fm_snoc _ _ _ _ hk)
  have HTL := Lib.hid (show ∀ k, (T k).length ≤ 1000000 from fun k => by rw [hT]; exact Nat.le_trans (fm_le _ _ _) hz)
  have HB0 := Lib.hid (show Bl.Is w.heap.size w.heap.size (Lib.byteCells (T 0)) (w.alloc (.cells #[.pointer none, .slice none 0 0] 192)) by
    rw [show T 0 = [] by rw [hT]; rfl]; exact Bl.Is.fresh w)
  rw [HT1.out]
  clear hn hv hT hz
  go_enter Tryz.func124, Tryz.ntmps124
  go_wp2_with fail
  go_loopw [14] (fun i wr => ∃ k : Nat, i = .int .i64 k ∧ k ≤ n ∧ Bl.Is w.heap.size w.heap.size (Lib.byteCells (T k)) wr ∧ Q w wr) (fun i _ => n - (intOf i).toNat)
  case atStart => exact ⟨0, rfl, by omega, HB0.out, (Q.refl _).alloc _⟩
  case round =>
    obtain ⟨k, rfl, hk, hI, hq⟩ := hrel
    have hqs := hq.le
    by_cases hlt : k < n
    · have hlti : (k : Int) < (n : Int) := by omega
      have hkl : k < l.length := by have := HN.out; omega
      obtain ⟨g, off, cap, hvv, hg, _, _, c1, c2⟩ := (HV.out.q hq).cellOf HN.out.symm hlt
      cases hvv
      have hx : l[k]? = some (l.getD k (0, [])) := by rw [List.getD_eq_getElem?_getD, List.getElem?_eq_getElem hkl]; rfl
      have hts := HTS.out k _ hx
      have htl := HTL.out (k + 1)
      obtain ⟨x, hx⟩ : ∃ x, x = l.getD k (0, []) := ⟨_, rfl⟩
      rw [← hx] at c1 c2 hts
      obtain ⟨xk, xt⟩ := x
      unfold Pc.txt at c2
      have hsx : xt = (⟨xt.toArray⟩ : ByteArray).data.toList := by simp
      obtain ⟨X, hX⟩ : ∃ X : ByteArray, X = ⟨xt.toArray⟩ := ⟨_, rfl⟩
      rw [← hX] at c2 hsx
      clear hx hX
      have hqa := hq.alloc (.cells #[.int .i64 xk, .string X] 130)
      have hIa := hI.q ((Q.refl wr).alloc (.cells #[.int .i64 xk, .string X] 130))
      have hqsa := hqa.le
      rw [hts, List.length_append] at htl
      have HTS1 := Lib.hid hts
      have HTL1 := Lib.hid htl
      clear hts htl
      have main : ∀ (Y : ByteArray), rsP c p m (xk, xt) = Y.data.toList → Hid (T (k + 1) = T k ++ Y.data.toList) ∧ (T k).length + Y.size ≤ 1000000 := fun Y hY => by
        have h1 := HTS1.out
        have h2 := HTL1.out
        rw [hY] at h1 h2
        rw [size_list] at h2
        exact ⟨Lib.hid h1, h2⟩
      by_cases h0 : xk = 0
      · subst h0
        obtain ⟨HM, hml⟩ := main X (by rw [← hsx]; rfl)
        clear main
        go_wp2_with fail
        refine (Bl.write_any _ _ _ _ _ hIa (by rw [Bl.cells_length]; omega) hqsa).mono ?_
        rintro e w4 ⟨rfl, hI2, hb2, _⟩
        go_wp2_with fail
        exact ⟨⟨k + 1, by go_num, by omega, by rw [HM.out]; exact hI2.write, Below.trans hqa hb2⟩, by simp [intOf]; omega⟩
      · have h0b : (xk == 0) = false := beq_eq_false_iff_ne.2 h0
        by_cases h1 : xk = 1
        · subst h1
          obtain ⟨HM, hml⟩ := main c rfl
          clear main
          go_wp2_with fail
          refine (Bl.write_any _ _ _ _ _ hIa (by rw [Bl.cells_length]; omega) hqsa).mono ?_
          rintro e w4 ⟨rfl, hI2, hb2, _⟩
          go_wp2_with fail
          exact ⟨⟨k + 1, by go_num, by omega, by rw [HM.out]; exact hI2.write, Below.trans hqa hb2⟩, by simp [intOf]; omega⟩
        · have h1b : (xk == 1) = false := beq_eq_false_iff_ne.2 h1
          by_cases h2 : xk = 2
          · subst h2
            obtain ⟨HM, hml⟩ := main p rfl
            clear main
            go_wp2_with fail
            refine (Bl.write_any _ _ _ _ _ hIa (by rw [Bl.cells_length]; omega) hqsa).mono ?_
            rintro e w4 ⟨rfl, hI2, hb2, _⟩
            go_wp2_with fail
            exact ⟨⟨k + 1, by go_num, by omega, by rw [HM.out]; exact hI2.write, Below.trans hqa hb2⟩, by simp [intOf]; omega⟩
          · have h2b : (xk == 2) = false := beq_eq_false_iff_ne.2 h2
            by_cases h3 : xk = 3
            · subst h3
              obtain ⟨HM, hml⟩ := main m rfl
              clear main
              go_wp2_with fail
              refine (Bl.write_any _ _ _ _ _ hIa (by rw [Bl.cells_length]; omega) hqsa).mono ?_
              rintro e w4 ⟨rfl, hI2, hb2, _⟩
              go_wp2_with fail
              exact ⟨⟨k + 1, by go_num, by omega, by rw [HM.out]; exact hI2.write, Below.trans hqa hb2⟩, by simp [intOf]; omega⟩
            · have h3b : (xk == 3) = false := beq_eq_false_iff_ne.2 h3
              have HM := Lib.hid (show T (k + 1) = T k by
                rw [HTS1.out]; unfold rsP
                rw [if_neg h0, if_neg h1, if_neg h2, if_neg h3, List.append_nil])
              clear main
              go_wp2_with fail
              exact ⟨⟨k + 1, by go_num, by omega, by rw [HM.out]; exact hIa, hqa⟩, by simp [intOf]; omega⟩
    · have hnlt : ¬ (k : Int) < (n : Int) := by omega
      obtain rfl : k = n := by omega
      go_wp2_with fail
      refine (Bl.done_any _ _ _ _ hI hqs).mono ?_
      rintro e w' ⟨rfl, hb2⟩
      go_wp2_with fail
      go_ret
      exact ⟨rfl, Below.trans hq hb2⟩
end Pg
end Go.Proofs.YtglljkbpdbnhaaaGreatDoor

set_option linter.unusedVariables false
set_option linter.unusedSimpArgs false
namespace Go.Proofs.YtglljkbpdbnhaaaGreatDoor
open Go.RowKit
namespace Pg
open Pt Um

structure Hm where
  pa : Option Addr
  pc : Nat
  sa : Option Addr
  sc : Nat
  P : List Pc.E
  S : List Pc.E
  nb : Nb
def Hm.pv (h : Hm) : Value := .slice h.pa h.P.length h.pc
def Hm.sv (h : Hm) : Value := .slice h.sa h.S.length h.sc
def Hm.cells (h : Hm) : List Value := [h.pv, h.sv, .int .i64 h.nb.p, .int .i64 h.nb.s, .int .i64 h.nb.mi, .int .i64 h.nb.xi, .int .i64 h.nb.mf, .int .i64 h.nb.xf]
def Hm.ok (w : World) (B : Nat) (h : Hm) : Prop := Pc.New w B h.pv h.P ∧ Pc.New w B h.sv h.S
theorem Hm.ok.q {w w' : World} {B : Nat} {h : Hm} (k : h.ok w B) (hq : Q w w') : h.ok w' B := ⟨k.1.q hq, k.2.q hq⟩
def flatH (hs : List Hm) : List Value := hs.flatMap Hm.cells
theorem flatH_len (hs : List Hm) : (flatH hs).length = hs.length * 8 := by
  induction hs with
  | nil => rfl
  | cons x r ih => unfold flatH at *; rw [List.flatMap_cons, List.length_append, ih]; simp [Hm.cells]; omega
theorem flatH_app (a b : List Hm) : flatH (a ++ b) = flatH a ++ flatH b := by simp [flatH]
theorem flatH_get (hs : List Hm) (i : Nat) (h : Hm) (hi : hs[i]? = some h) (j : Nat) (hj : j < 8) : (flatH hs)[i * 8 + j]? = h.cells[j]? := by
  induction hs generalizing i with
  | nil => simp at hi
  | cons x r ih =>
    unfold flatH at *
    rw [List.flatMap_cons]
    have hx : x.cells.length = 8 := rfl
    cases i with
    | zero =>
      simp at hi
      subst hi
      rw [Nat.zero_mul, Nat.zero_add, List.getElem?_append_left (by rw [hx]; exact hj)]
    | succ i =>
      rw [List.getElem?_append_right (by rw [hx]; omega), hx, show (i + 1) * 8 + j - 8 = i * 8 + j by omega]
      exact ih i (by simpa using hi)

/-- A list of halves that the call has made, from block B on. -/
def OwnH (w : World) (B : Nat) (v : Value) (hs : List Hm) : Prop := w.ownsRow B 155 8 v hs.length (flatH hs)
theorem OwnH.nil (w : World) (B : Nat) : OwnH w B (.slice none 0 0) [] := World.ownsRow_nil w B 155 8
theorem OwnH.same {w w' : World} {B : Nat} {v : Value} {hs : List Hm} (h : OwnH w B v hs) (k : ∀ g, v.ownBlock = some g → w'.heap[g]? = w.heap[g]?) : OwnH w' B v hs := by
  obtain ⟨h1, h2⟩ := h
  refine ⟨h1, ?_⟩
  rcases h2 with h2 | ⟨g, cap, cur, hv, hg, hh, r⟩
  · exact .inl h2
  · exact .inr ⟨g, cap, cur, hv, hg, by rw [k g (by rw [hv]; rfl)]; exact hh, r⟩
theorem OwnH.lt {w : World} {B : Nat} {v : Value} {hs : List Hm} (h : OwnH w B v hs) : ∀ g, v.ownBlock = some g → B ≤ g ∧ g < w.heap.size := World.ownsRow.lt h
theorem OwnH.q {w w' : World} {B : Nat} {v : Value} {hs : List Hm} (h : OwnH w B v hs) (hq : Q w w') : OwnH w' B v hs := h.same fun g hg => hq.block (h.lt g hg).2
theorem OwnH.shape {w : World} {B : Nat} {v : Value} {hs : List Hm} {n : Nat} (h : OwnH w B v hs) (hn : hs.length = n) : ∃ a c, v = .slice a n c ∧ n ≤ c ∧ c ≤ maxLen := by
  subst hn
  rcases h.2 with ⟨hv, hn⟩ | ⟨g, cap, cur, hv, _, hh, hnc, hcm, _⟩
  · have : hs = [] := List.eq_nil_of_length_eq_zero hn
    subst this
    exact ⟨none, 0, hv, by simp, by unfold maxLen; omega⟩
  · exact ⟨_, cap, hv, hnc, hcm⟩
theorem OwnH.cellOf {w : World} {B : Nat} {v : Value} {hs : List Hm} {n i : Nat} {h : Hm} (k : OwnH w B v hs) (hn : hs.length = n) (hi : hs[i]? = some h) :
    ∃ g cap, v = .slice (some ⟨g, 0, none⟩) n cap ∧ B ≤ g ∧ g < w.heap.size ∧ n ≤ cap ∧ cap ≤ maxLen ∧ ∀ j u, h.cells[j]? = some u → w.cell? ⟨g, i * 8 + j, none⟩ = some u := by
  subst hn
  have hil := (List.getElem?_eq_some_iff.1 hi).1
  rcases k.2 with ⟨hv, hn⟩ | ⟨g, cap, cur, hv, hB, hh, hnc, hcm, hcs, ht⟩
  · omega
  · refine ⟨g, cap, hv, hB, (Array.getElem?_eq_some_iff.1 hh).1, hnc, hcm, fun j u hj => ?_⟩
    have hj8 : j < 8 := (List.getElem?_eq_some_iff.1 hj).1
    rw [cell_of_row w g (i * 8 + j) cur 155 (0, 0) hh]
    have h1 := congrArg (fun x => x[i * 8 + j]?) ht
    rw [List.getElem?_take, if_pos (by omega), flatH_get hs i h hi j hj8, hj] at h1
    rw [← Array.getElem?_toList, h1]
theorem infoH3 : (Tryz.prog.info? 155).map (fun i => (i.zero, i.size, i.bytes)) = some (some (.agg #[.slice none 0 0, .slice none 0 0, .int .i64 0, .int .i64 0, .int .i64 0, .int .i64 0, .int .i64 0, .int .i64 0]), 8, 96) := by kernel_rfl
/-- One half more. -/
theorem pushH {w : World} {B : Nat} {v : Value} {hs : List Hm} (hown : OwnH w B v hs) {ops : Array Oper} {rest : List Oper} {o : Oper} {a : Act} {R : Exit → Act → World → Prop} (hgd : o.guard = none) (s x : Operand)
    (ho : o.op = .call { callee := .builtin .append, args := #[s, x], argTypes := #[151, 151] })
    (h : Hm) (hsv : a.eval s = v) (hx : a.eval x = .slice (some ⟨w.heap.size, 0, none⟩) 1 1) (hlen : hs.length < 1000000) (hB : B ≤ w.heap.size)
    (k : ∀ v' w', OwnH w' B v' (hs ++ [h]) → w.grownBy w' v.ownBlock → (v'.ownBlock = v.ownBlock ∨ v'.ownBlock = some (w.heap.size + 1)) → wpList Tryz.prog ops R rest (a.put o.dst v') w') :
    wpList Tryz.prog ops R (o :: rest) a (w.alloc (.cells h.cells.toArray 155)) := by
  obtain ⟨i0, hi, hz0, hz1, hz2⟩ := info_parts infoH3
  refine wpList_append_own_at _ hgd s x 151 ho B 155 i0 _ 8 96 Tryz.underlying151 hi hz0 hz1 hz2 rfl (by decide) v hs.length _ hsv (World.ownsRow.alloc hown _)
    ⟨w.heap.size, 0, none⟩ 1 1 h.cells hx rfl ?_ ?_ ?_ ?_ ?_ ?_
  · intro j u hj
    have hadd : (⟨w.heap.size, 0, none⟩ : Addr).add j = ⟨w.heap.size, j, none⟩ := by unfold Addr.add; split <;> simp_all
    rw [hadd, World.cell?_alloc_at _ _ _ _ rfl]
    simpa using hj
  · intro u hu
    unfold Hm.cells at hu
    simp at hu
    rcases hu with rfl | rfl | rfl | rfl | rfl | rfl | rfl | rfl <;> rfl
  · unfold maxLen; omega
  · omega
  · simp; omega
  · intro v' w' hown' hg _ hat
    refine k v' w' ?_ ?_ ?_
    · unfold OwnH
      rw [List.length_append, flatH_app]
      have : flatH [h] = h.cells := by simp [flatH]
      rw [this]
      exact hown'
    · exact (World.grownBy_alloc w _ _).trans hg
    · simpa using hat
/-- A list of pieces stands while another row is written. -/
theorem New.grown {w w' : World} {B : Nat} {v : Value} {l : List Pc.E} {row : Option Nat} (h : Pc.New w B v l) (hg : w.grownBy w' row) (hne : ∀ a n c, v = .slice (some a) n c → n ≠ 0 → row ≠ some a.block) : Pc.New w' B v l := by
  refine ⟨?_, h.2⟩
  rcases h.1 with hn | ⟨g, off, cap, rfl, hl, h1, h2, hc⟩
  · exact .inl hn
  · by_cases h0 : l.length = 0
    · have : l = [] := List.eq_nil_of_length_eq_zero h0
      subst this
      exact .inl ⟨rfl, _, _, rfl, h2, fun h => nomatch h⟩
    · have hb := hg.block g hl (fun e => hne _ _ _ rfl h0 e.symm)
      exact .inr ⟨g, off, cap, rfl, Nat.lt_of_lt_of_le hl hg.size, h1, h2, fun j hj => ⟨(World.cell?_of_block (w := w) hb).trans (hc j hj).1, (World.cell?_of_block (w := w) hb).trans (hc j hj).2⟩⟩
/-- A half's lists lie apart from a row. -/
def Hm.far (h : Hm) (v : Value) : Prop := (∀ a n c, h.pv = .slice (some a) n c → n ≠ 0 → v.ownBlock ≠ some a.block) ∧ (∀ a n c, h.sv = .slice (some a) n c → n ≠ 0 → v.ownBlock ≠ some a.block)
theorem Hm.ok.grown {w w' : World} {B : Nat} {h : Hm} {v : Value} (k : h.ok w B) (hg : w.grownBy w' v.ownBlock) (hf : h.far v) : h.ok w' B := ⟨New.grown k.1 hg hf.1, New.grown k.2 hg hf.2⟩
theorem New.lt {w : World} {B : Nat} {v : Value} {l : List Pc.E} (h : Pc.New w B v l) : ∀ a n c, v = .slice (some a) n c → n ≠ 0 → a.block < w.heap.size := by
  intro a n c hv hn
  rcases h.1 with ⟨_, _, _, hv2, _⟩ | ⟨g, off, cap, hv2, hl, _⟩
  · rw [hv2] at hv; cases hv; exact absurd rfl hn
  · rw [hv2] at hv; cases hv; exact hl
theorem Hm.far.push {w : World} {B : Nat} {h : Hm} {v v' : Value} (k : h.ok w B) (hf : h.far v) (hat : v'.ownBlock = v.ownBlock ∨ v'.ownBlock = some (w.heap.size + 1)) : h.far v' := by
  refine ⟨fun a n c e hn e2 => ?_, fun a n c e hn e2 => ?_⟩
  · rcases hat with h1 | h1
    · exact hf.1 a n c e hn (h1 ▸ e2)
    · have := New.lt k.1 a n c e hn
      rw [h1] at e2
      have := Option.some.inj e2
      omega
  · rcases hat with h1 | h1
    · exact hf.2 a n c e hn (h1 ▸ e2)
    · have := New.lt k.2 a n c e hn
      rw [h1] at e2
      have := Option.some.inj e2
      omega
/-- A half made behind a row. -/
theorem Hm.far.new {w w' : World} {B : Nat} {h : Hm} {v : Value} {hs : List Hm} (ho : OwnH w B v hs) (k : h.ok w' w.heap.size) : h.far v :=
  ⟨fun a n c e hn e2 => by have := (ho.lt _ e2).2; have := k.1.2 a n c e hn; omega, fun a n c e hn e2 => by have := (ho.lt _ e2).2; have := k.2.2 a n c e hn; omega⟩
end Pg
end Go.Proofs.YtglljkbpdbnhaaaGreatDoor
