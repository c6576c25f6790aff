/- Pieces: whether two lists are the same; a list's copy; what stands for a negative half; how many are of a kind; their texts. -/
import Derived.Test.YtjloibgjnnknnaaDoorRows
import Derived.Test.YtjloibgjnnknnaaDoorInts
import Derived.Test.YtjloibgjnnknnaaDoorUtfM
import Derived.Test.YtjloibgjnnknnaaDoorBld
import Derived.Test.YtjloibgjnnknnaaDoorEls
import Derived.Test.YtjloibgjnnknnaaDoorBlk
import Derived.Test.YtjloibgjnnknnaaDoorPcs
import Derived.Test.YtjloibgjnnknnaaDoorPatM
import Derived.Test.YtjloibgjnnknnaaDoorPgA
import Derived.Test.YtjloibgjnnknnaaDoorPgC
import Derived.Deep.QuietTactic
import Derived.BigQuiet
import Derived.IntWalk
import Derived.Lib.SliceRun
set_option linter.unusedVariables false
set_option linter.unusedSimpArgs false
namespace Go.Proofs.YtjloibgjnnknnaaDoor
open Go.RowKit
namespace Pg
open Pt Um

set_option maxRecDepth 100000 in
set_option maxHeartbeats 1600000 in
theorem equal_any (va vb : Value) (xs ys : List Pc.E) (w : World) (ha : Pc.LstP w va xs) (hb : Pc.LstP w vb ys) (hx : xs.length < 1099511627776) (hy : ys.length < 1099511627776) :
    Calls Tryd.prog 25 #[va, vb] w fun e w' => e = .returned (.bool (decide (xs = ys))) ∧ Q w w' := by
  by_cases hl : xs.length = ys.length
  · obtain ⟨n, hn⟩ : ∃ n, n = xs.length := ⟨_, rfl⟩
    have hny : ys.length = n := by omega
    have HA := Lib.hid ha
    have HB := Lib.hid hb
    obtain ⟨a1, c1, rfl, _, _⟩ := ha.form0 hn.symm
    obtain ⟨a2, c2, rfl, _, _⟩ := hb.form0 hny
    have HNX := Lib.hid hn
    have HNY := Lib.hid hny
    rw [← hn] at hx
    clear ha hb hl hn hny hy
    go_enter Tryd.func25, Tryd.ntmps25
    go_wp2_with fail
    go_loopw [13] (fun i wr => ∃ k : Nat, i = .int .i64 k ∧ k ≤ n ∧ Q w wr ∧ xs.take k = ys.take k) (fun i _ => n - (intOf i).toNat)
    case atStart => exact ⟨0, rfl, by omega, Q.refl _, by simp⟩
    case round =>
      obtain ⟨k, rfl, hk, hq, he⟩ := hrel
      have HE := Lib.hid he
      clear he
      by_cases hlt : k < n
      · have hki : (k : Int) < (n : Int) := by omega
        have hkx : k < xs.length := by have := HNX.out; omega
        have hky : k < ys.length := by have := HNY.out; omega
        obtain ⟨g, off, cap, hvv, hg, hn1, hn2, d1, d2⟩ := HA.out.cellOf HNX.out.symm hlt
        cases hvv
        obtain ⟨g2, off2, cap2, hvv2, hg2, hn3, hn4, d3, d4⟩ := HB.out.cellOf HNY.out hlt
        cases hvv2
        have e1 := (World.cell?_of_block (w := w) (hq.block hg) (a := ⟨g, off + k * 2, none⟩)).trans d1
        have e2 := (World.cell?_of_block (w := w) (hq.block hg) (a := ⟨g, off + k * 2 + 1, none⟩)).trans d2
        have e3 := (World.cell?_of_block (w := w) (hq.block hg2) (a := ⟨g2, off2 + k * 2, none⟩)).trans d3
        have e4 := (World.cell?_of_block (w := w) (hq.block hg2) (a := ⟨g2, off2 + k * 2 + 1, none⟩)).trans d4
        unfold Pc.txt at e2 e4
        have hsx := List.take_succ_eq_append_getElem hkx
        have hsy := List.take_succ_eq_append_getElem hky
        have gx : xs.getD k (0, []) = xs[k] := by rw [List.getD_eq_getElem?_getD, List.getElem?_eq_getElem hkx]; rfl
        have gy : ys.getD k (0, []) = ys[k] := by rw [List.getD_eq_getElem?_getD, List.getElem?_eq_getElem hky]; rfl
        have hdif : xs[k] ≠ ys[k] → xs ≠ ys := by
          intro h e
          apply h
          subst e; rfl
        rw [gx] at e1 e2
        rw [gy] at e3 e4
        clear d1 d2 d3 d4 gx gy
        generalize xs[k] = p at *
        generalize ys[k] = q at *
        have HSX := Lib.hid hsx
        have HSY := Lib.hid hsy
        have HD := Lib.hid hdif
        clear hsx hsy hdif
        obtain ⟨pk, pt⟩ := p
        obtain ⟨qk, qt⟩ := q
        simp only at e1 e2 e3 e4
        by_cases h1 : pk = qk
        · by_cases h2 : pt = qt
          · subst h1; subst h2
            generalize (⟨pt.toArray⟩ : ByteArray) = T at *
            go_wp2_with fail
            go_quiet (fail)
            go_wp2_with fail
            exact ⟨⟨k + 1, by go_num, by omega, hq.drewN _, by rw [HSX.out, HSY.out, HE.out]⟩, by simp [intOf]; omega⟩
          · subst h1
            have HF : Hid (decide (xs = ys) = false) := Lib.hid (decide_eq_false (HD.out (fun e => h2 (congrArg Prod.snd e))))
            have ht := str_ne (p := ⟨pt.toArray⟩) (q := ⟨qt.toArray⟩) (fun e => h2 (by have := congrArg (fun b => b.data.toList) e; simpa using this))
            generalize (⟨pt.toArray⟩ : ByteArray) = T at *
            generalize (⟨qt.toArray⟩ : ByteArray) = U at *
            clear h2
            go_wp2_with fail
            go_quiet (fail)
            go_wp2_with fail
            go_ret
            rw [HF.out]
            exact ⟨rfl, hq.drewN _⟩
        · have HF : Hid (decide (xs = ys) = false) := Lib.hid (decide_eq_false (HD.out (fun e => h1 (congrArg Prod.fst e))))
          have ht : (pk == qk) = false := beq_eq_false_iff_ne.2 h1
          generalize (⟨pt.toArray⟩ : ByteArray) = T at *
          generalize (⟨qt.toArray⟩ : ByteArray) = U at *
          clear h1
          go_wp2_with fail
          go_quiet (fail)
          go_wp2_with fail
          go_ret
          rw [HF.out]
          exact ⟨rfl, hq.drewN _⟩
      · have HF : Hid (decide (xs = ys) = true) := Lib.hid (decide_eq_true (by
          have h1 := HE.out; have h2 := HNX.out; have h3 := HNY.out
          rw [List.take_of_length_le (by omega), List.take_of_length_le (by omega)] at h1
          exact h1))
        have hki : ¬ (k : Int) < (n : Int) := by omega
        go_wp2_with fail
        go_ret
        rw [HF.out]
        exact ⟨rfl, hq⟩
  · have hne : ((xs.length : Int) == (ys.length : Int)) = false := by rw [beq_eq_false_iff_ne]; omega
    have hne2 : ((xs.length : Int) != (ys.length : Int)) = true := by rw [bne_iff_ne]; omega
    have HF : Hid (decide (xs = ys) = false) := Lib.hid (decide_eq_false (fun h => hl (by rw [h])))
    obtain ⟨a, c, rfl⟩ := ha.shape
    obtain ⟨b, d, rfl⟩ := hb.shape
    clear ha hb hl
    go_enter Tryd.func25, Tryd.ntmps25
    go_wp2_with fail
    go_ret
    rw [HF.out]
    exact ⟨rfl, Q.refl _⟩


theorem OwnP.one (w : World) (k : Int) (t : ByteArray) : OwnP (w.alloc (.cells #[.int .i64 k, .string t] 56)) w.heap.size (.slice (some ⟨w.heap.size, 0, none⟩) 1 1) [(k, t.data.toList)] :=
  ⟨rfl, .inr ⟨w.heap.size, 1, #[.int .i64 k, .string t], rfl, Nat.le_refl _, heap_alloc_new _ _, Nat.le_refl _, by unfold maxLen; omega, rfl, rfl⟩⟩
theorem OwnP.none (w : World) : OwnP (w.alloc (.cells #[] 56)) w.heap.size (.slice (some ⟨w.heap.size, 0, none⟩) 0 0) [] :=
  ⟨rfl, .inr ⟨w.heap.size, 0, #[], rfl, Nat.le_refl _, heap_alloc_new _ _, Nat.le_refl _, by unfold maxLen; omega, rfl, rfl⟩⟩
set_option maxRecDepth 100000 in
set_option maxHeartbeats 1000000 in
theorem clone_any (v : Value) (l : List Pc.E) (w : World) (hv : Pc.LstP w v l) (hl : l.length ≤ 1000000) :
    Calls Tryd.prog 42 #[v] w fun e w' => ∃ u, e = .returned u ∧ Pc.New w' w.heap.size u l ∧ Q w w' := by
  obtain ⟨n, hn⟩ : ∃ n, n = l.length := ⟨_, rfl⟩
  have HV := Lib.hid hv
  obtain ⟨a, cp, rfl, hc1, hc2⟩ := hv.form0 hn.symm
  have HN := Lib.hid hn
  cases a with
  | none =>
    have hl0 : l = [] := by
      rcases hv with ⟨h, _⟩ | ⟨g, off, cap, h, _⟩
      · exact h
      · cases h
    subst hl0
    have q22 : ∀ (w : World) (a : Option Addr) (n c n' c' : Nat), (binOp .eql 28 (.slice a n c) (.slice none n' c')).run Tryd.prog w = .ok (.bool a.isNone) w := fun w a n c n' c' => Lib.run_eql_slice_nil w _ _ a n c n' c' Tryd.underlying28
    go_enter Tryd.func42, Tryd.ntmps42
    go_wp2_with fail
    go_ret
    exact ⟨_, rfl, ⟨Pc.LstP.nil _ _ _ (by unfold maxLen; omega) (fun _ => rfl), fun a n c h => by cases h⟩, Q.refl _⟩
  | some ad =>
    have ho := OwnP.none w
    have hqa := (Q.refl w).alloc (.cells #[] 56)
    have HVA := Lib.hid (HV.out.q hqa)
    clear hv hn
    have q22 : ∀ (w : World) (a : Option Addr) (n c n' c' : Nat), (binOp .eql 28 (.slice a n c) (.slice none n' c')).run Tryd.prog w = .ok (.bool a.isNone) w := fun w a n c n' c' => Lib.run_eql_slice_nil w _ _ a n c n' c' Tryd.underlying28
    go_enter Tryd.func42, Tryd.ntmps42
    go_wp2_with (at_builtin; refine Pc.pushl elP ho HVA.out rfl _ _ rfl (by rfl) (by rfl) (by simp; omega) hqa.le ?_)
    intro v' w4 ho4 hg4 hat4
    have hq4 := hqa.grown hg4 (fun j h => (ho.lt j h).1)
    have HO := Lib.hid (show OwnP w4 w.heap.size v' l from ho4)
    clear ho4
    go_wp2_with fail
    go_ret
    exact ⟨_, rfl, HO.out.new, hq4⟩
set_option maxRecDepth 100000 in
set_option maxHeartbeats 1000000 in
theorem negative_any (va vb : Value) (l k : List Pc.E) (w : World) (hv : Pc.LstP w va l) (hu : Pc.LstP w vb k) (hl : l.length ≤ 1000000) (hk : k.length ≤ 1000000) :
    Calls Tryd.prog 30 #[va, vb] w fun e w' => ∃ u v, e = .returned (.tuple #[u, v]) ∧ Pc.New w' w.heap.size u ((3, []) :: l) ∧ Pc.New w' w.heap.size v k ∧ Q w w' := by
  obtain ⟨a, c, rfl, _, _⟩ := hv.shape2
  obtain ⟨b, d, rfl, _, _⟩ := hu.shape2
  have ho := OwnP.one w 3 ByteArray.empty
  have hqa := (Q.refl w).alloc (.cells #[.int .i64 3, .string ByteArray.empty] 56)
  have HVA := Lib.hid (hv.q hqa)
  have HU := Lib.hid (fun u (hq : Q w u) => clone_any _ k u (hu.q hq) hk)
  obtain ⟨n, hn⟩ : ∃ n, n = l.length := ⟨_, rfl⟩
  obtain ⟨m, hm⟩ : ∃ m, m = k.length := ⟨_, rfl⟩
  have hlen : ([(3, ByteArray.empty.data.toList)] : List Pc.E).length + l.length < 1073741824 := by simp; omega
  rw [← hn] at HVA ⊢
  rw [← hm] at HU ⊢
  clear hv hu hn hm
  go_enter Tryd.func30, Tryd.ntmps30
  go_wp2_with (at_builtin; refine Pc.pushl elP ho HVA.out rfl _ _ rfl (by rfl) (by rfl) hlen hqa.le ?_)
  intro v' w4 ho4 hg4 hat4
  have hq4 := hqa.grown hg4 (fun j h => (ho.lt j h).1)
  have HO := Lib.hid (show OwnP w4 w.heap.size v' ((3, []) :: l) from ho4)
  clear ho4
  go_wp2_with fail
  refine (HU.out _ hq4).mono ?_
  rintro e w5 ⟨v5, rfl, hn5, hq5⟩
  have HN5 := Lib.hid (hn5.mono hq4.le)
  have HO5 := Lib.hid (HO.out.new.q hq5)
  clear hn5
  go_wp2_with fail
  go_ret2
  exact ⟨_, _, rfl, HO5.out, HN5.out, hq4.trans hq5⟩

set_option maxRecDepth 100000 in
set_option maxHeartbeats 1000000 in
theorem countP_any (v : Value) (l : List Pc.E) (kind : Int) (w : World) (hv : Pc.LstP w v l) (hl : l.length ≤ 1000000) :
    Calls Tryd.prog 12 #[v, .int .i64 kind] w fun e w' => e = .returned (.int .i64 ((l.countP fun p => p.1 == kind : Nat) : Int)) ∧ Q w w' := by
  obtain ⟨n, hn⟩ : ∃ n, n = l.length := ⟨_, rfl⟩
  have HN := Lib.hid hn
  have HV := Lib.hid hv
  obtain ⟨a, cp, rfl, hc1, hc2⟩ := hv.form0 hn.symm
  rw [← hn] at hl
  obtain ⟨T, hT⟩ : ∃ T : Nat → Nat, T = fun k => (l.take k).countP fun p => p.1 == kind := ⟨_, rfl⟩
  have HT1 := Lib.hid (show (l.countP fun p => p.1 == kind) = T n by rw [hT, hn]; simp)
  have HT0 := Lib.hid (show T 0 = 0 by rw [hT]; rfl)
  have HTS := Lib.hid (show ∀ k, k < n → T (k + 1) = T k + (if (l.getD k (0, [])).1 = kind then 1 else 0) from fun k hk => by
    have hk' : k < l.length := by omega
    rw [hT]
    simp only
    rw [List.take_succ_eq_append_getElem hk', List.countP_append, List.getD_eq_getElem?_getD, List.getElem?_eq_getElem hk']
    simp [List.countP_cons])
  have HTL := Lib.hid (show ∀ k, T k ≤ k from fun k => by rw [hT]; exact Nat.le_trans List.countP_le_length (List.length_take_le _ _))
  rw [HT1.out]
  clear hn hv hT
  go_enter Tryd.func12, Tryd.ntmps12
  go_wp2_with fail
  go_loopw [5, 10] (fun m i wr => ∃ k : Nat, i = .int .i64 k ∧ m = .int .i64 (T k) ∧ k ≤ n ∧ Q w wr) (fun _ i _ => n - (intOf i).toNat)
  case atStart => exact ⟨0, rfl, by rw [HT0.out]; rfl, by omega, Q.refl _⟩
  case round =>
    obtain ⟨k, rfl, rfl, hk, hq⟩ := hrel
    by_cases hlt : k < n
    · have hlti : (k : Int) < (n : Int) := by omega
      obtain ⟨g, off, cap, hvv, hg, _, _, c1, c2⟩ := (HV.out.q hq).cellOf HN.out.symm hlt
      cases hvv
      have hts := HTS.out k hlt
      have htl := HTL.out k
      obtain ⟨x, hx⟩ : ∃ x, x = l.getD k (0, []) := ⟨_, rfl⟩
      rw [← hx] at c1 c2 hts
      obtain ⟨xk, xt⟩ := x
      unfold Pc.txt at c2
      generalize (⟨xt.toArray⟩ : ByteArray) = X at *
      clear hx
      by_cases hxk : xk = kind
      · rw [if_pos hxk] at hts
        subst hxk
        have HF := Lib.hid hts
        clear hts
        go_wp2_with fail
        exact ⟨⟨k + 1, by go_num, by rw [HF.out]; go_num, by omega, by first | exact hq.alloc _ | exact Q.setCell (Q.setCell (hq.alloc _) hq.le _) hq.le _⟩, by simp [intOf]; omega⟩
      · rw [if_neg hxk] at hts
        have HF := Lib.hid hts
        have hb : (xk == kind) = false := beq_eq_false_iff_ne.2 hxk
        clear hts
        go_wp2_with fail
        exact ⟨⟨k + 1, by go_num, by rw [HF.out]; go_num, by omega, by first | exact hq.alloc _ | exact Q.setCell (Q.setCell (hq.alloc _) hq.le _) hq.le _⟩, by simp [intOf]; omega⟩
    · have hnlt : ¬ (k : Int) < (n : Int) := by omega
      obtain rfl : k = n := by omega
      go_wp2_with fail
      go_ret
      exact ⟨rfl, hq⟩

end Pg
end Go.Proofs.YtjloibgjnnknnaaDoor
