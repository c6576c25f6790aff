/- What joins: pair, and the closure that is told characters one behind the other. -/
import Derived.Test.YtmobljfpkdjnpaaRows
import Derived.Test.YtmobljfpkdjnpaaInts
import Derived.Test.YtmobljfpkdjnpaaGap
import Derived.Test.YtmobljfpkdjnpaaCluM
import Derived.Test.YtmobljfpkdjnpaaClsW
import Derived.Deep.QuietTactic
import Derived.BigQuiet
import Derived.BigGuardPart
set_option linter.unusedVariables false
set_option linter.unusedSimpArgs false
namespace Go.Proofs.Ytmobljfpkdjnpaa
open Go.RowKit Um Cm Gm

set_option maxHeartbeats 400000 in
theorem alone_any (k : Int) (w : World) :
    Calls Try.prog 75 #[.int .i64 k] w fun e w' => e = .returned (.bool (alB k)) ∧ w = w' := by
  go_enter Try.func75, Try.ntmps75
  go_wp2_with fail
  all_goals go_ret
  all_goals exact ⟨retB (by simp_all [alB] <;> rfl), rfl⟩
set_option maxHeartbeats 400000 in
theorem syl_any (a k : Int) (w : World) :
    Calls Try.prog 76 #[.int .i64 a, .int .i64 k] w fun e w' => e = .returned (.bool (sylB a k)) ∧ w = w' := by
  go_enter Try.func76, Try.ntmps76
  go_wp2_with fail
  all_goals go_ret
  all_goals exact ⟨retB (by simp_all [sylB] <;> rfl), rfl⟩
set_option maxRecDepth 100000 in
set_option maxHeartbeats 400000 in
theorem pair_any (a k : Int) (w : World) :
    Calls Try.prog 70 #[.int .i64 a, .int .i64 k] w fun e w' => e = .returned (.bool (pairB a k)) ∧ w = w' := by
  go_enter Try.func70, Try.ntmps70
  go_wp2_with (first | (go_at_call 75; refine (alone_any _ _).mono ?_; rintro e w' ⟨rfl, rfl⟩) | (go_at_call 76; refine (syl_any _ _ _).mono ?_; rintro e w' ⟨rfl, rfl⟩))
  all_goals go_ret
  all_goals exact ⟨retB (by simp_all [pairB] <;> rfl), rfl⟩

/-- The closure's four variables, in blocks of their own, one behind the other. -/
def JS (w : World) (b : Nat) (t : St) : Prop :=
  Boxed w b 3 (.int .i64 t.k) ∧ Boxed w (b + 1) 4 (.bool t.d) ∧ Boxed w (b + 1 + 1) 4 (.bool t.s) ∧ Boxed w (b + 1 + 1 + 1) 4 (.bool t.o)
theorem JS.q {w w' : World} {b : Nat} {t : St} (h : JS w b t) (hq : Q w w') : JS w' b t := ⟨bx_q h.1 hq, bx_q h.2.1 hq, bx_q h.2.2.1 hq, bx_q h.2.2.2 hq⟩
theorem JS.gap {w w' : World} {b lo hi : Nat} {t : St} (h : JS w b t) (hg : Gap lo hi w w') (ho : b + 4 ≤ lo ∨ hi ≤ b) : JS w' b t :=
  ⟨bx_gap h.1 hg (by omega), bx_gap h.2.1 hg (by omega), bx_gap h.2.2.1 hg (by omega), bx_gap h.2.2.2 hg (by omega)⟩
theorem JS.lt {w : World} {b : Nat} {t : St} (h : JS w b t) : b + 4 ≤ w.heap.size := by have := h.2.2.2.lt; omega

set_option maxHeartbeats 400000 in
theorem joiner_any (w : World) :
    Calls Try.prog 63 #[] w fun e w' => e = .returned (.func (.func 68) #[] #[.pointer (some ⟨w.heap.size, 0, none⟩), .pointer (some ⟨w.heap.size + 1 + 1, 0, none⟩), .pointer (some ⟨w.heap.size + 1 + 1 + 1, 0, none⟩), .pointer (some ⟨w.heap.size + 1, 0, none⟩)])
      ∧ JS w' w.heap.size st0 ∧ Q w w' ∧ w'.heap.size = w.heap.size + 4 := by
  go_enter Try.func63, Try.ntmps63
  go_wp2_with fail
  go_ret
  refine ⟨rfl, ⟨?_, ?_, ?_, ?_⟩, (((Q.refl w).alloc _).alloc _ |>.alloc _).alloc _, by simp⟩
  · exact (((Boxed.new w _ _).alloc _).alloc _).alloc _
  · have := ((Boxed.new (w.alloc (.cells #[.int .i64 (-1)] 3)) 4 (.bool false)).alloc (.cells #[.bool false] 4)).alloc (.cells #[.bool false] 4)
    rw [World.size_alloc] at this
    exact this
  · have := (Boxed.new ((w.alloc (.cells #[.int .i64 (-1)] 3)).alloc (.cells #[.bool false] 4)) 4 (.bool false)).alloc (.cells #[.bool false] 4)
    rw [World.size_alloc, World.size_alloc] at this
    exact this
  · have := Boxed.new (((w.alloc (.cells #[.int .i64 (-1)] 3)).alloc (.cells #[.bool false] 4)).alloc (.cells #[.bool false] 4)) 4 (.bool false)
    rw [World.size_alloc, World.size_alloc, World.size_alloc] at this
    exact this

theorem JS.set4 {w : World} {b : Nat} {t t' : St} (h : JS w b t) {v0 : Int} {v1 v2 v3 : Bool} (e0 : v0 = t'.k) (e1 : v1 = t'.d) (e2 : v2 = t'.s) (e3 : v3 = t'.o) :
    JS ((((w.setCell ⟨b + 1 + 1, 0, none⟩ (.bool v2)).setCell ⟨b + 1, 0, none⟩ (.bool v1)).setCell ⟨b + 1 + 1 + 1, 0, none⟩ (.bool v3)).setCell ⟨b, 0, none⟩ (.int .i64 v0)) b t'
    ∧ Gap b (b + 4) w ((((w.setCell ⟨b + 1 + 1, 0, none⟩ (.bool v2)).setCell ⟨b + 1, 0, none⟩ (.bool v1)).setCell ⟨b + 1 + 1 + 1, 0, none⟩ (.bool v3)).setCell ⟨b, 0, none⟩ (.int .i64 v0)) := by
  subst e0 e1 e2 e3
  obtain ⟨h0, h1, h2, h3⟩ := h
  refine ⟨⟨?_, ?_, ?_, ?_⟩, ?_⟩
  · exact (bx_past (bx_past (bx_past h0 _ _ _ (by omega)) _ _ _ (by omega)) _ _ _ (by omega)).set _
  · exact bx_past (bx_past ((bx_past h1 _ _ _ (by omega)).set _) _ _ _ (by omega)) _ _ _ (by omega)
  · exact bx_past (bx_past (bx_past (h2.set _) _ _ _ (by omega)) _ _ _ (by omega)) _ _ _ (by omega)
  · exact bx_past ((bx_past (bx_past h3 _ _ _ (by omega)) _ _ _ (by omega)).set _) _ _ _ (by omega)
  · exact (((Gap.setCell _ _ _ _ _ _ (by omega) (by omega)).trans (Gap.setCell _ _ _ _ _ _ (by omega) (by omega))).trans (Gap.setCell _ _ _ _ _ _ (by omega) (by omega))).trans (Gap.setCell _ _ _ _ _ _ (by omega) (by omega))

theorem JS.put4 {w0 w : World} {b : Nat} {t : St} (h : JS w b t) (t' : St) {v0 : Int} {v1 v2 v3 : Bool} (e0 : v0 = t'.k) (e1 : v1 = t'.d) (e2 : v2 = t'.s) (e3 : v3 = t'.o) (hg : Gap b (b + 4) w0 w) :
    JS ((((w.setCell ⟨b + 1 + 1, 0, none⟩ (.bool v2)).setCell ⟨b + 1, 0, none⟩ (.bool v1)).setCell ⟨b + 1 + 1 + 1, 0, none⟩ (.bool v3)).setCell ⟨b, 0, none⟩ (.int .i64 v0)) b t'
    ∧ Gap b (b + 4) w0 ((((w.setCell ⟨b + 1 + 1, 0, none⟩ (.bool v2)).setCell ⟨b + 1, 0, none⟩ (.bool v1)).setCell ⟨b + 1 + 1 + 1, 0, none⟩ (.bool v3)).setCell ⟨b, 0, none⟩ (.int .i64 v0)) :=
  ⟨(JS.set4 h e0 e1 e2 e3).1, hg.trans (JS.set4 h e0 e1 e2 e3).2⟩

set_option maxRecDepth 100000 in
set_option maxHeartbeats 4000000 in
theorem joins_any (c : Int) (b : Nat) (t : St) (w : World) (h : JS w b t) :
    Calls Try.prog 68 #[.int .i64 c, .pointer (some ⟨b, 0, none⟩), .pointer (some ⟨b + 1 + 1, 0, none⟩), .pointer (some ⟨b + 1 + 1 + 1, 0, none⟩), .pointer (some ⟨b + 1, 0, none⟩)] w
      fun e w' => e = .returned (.bool (jn t (cls c))) ∧ JS w' b (stp t (cls c)) ∧ Gap b (b + 4) w w' := by
  obtain ⟨a, d, s, o⟩ := t
  obtain ⟨k, hk⟩ : ∃ k : Int, k = (cls c : Int) := ⟨_, rfl⟩
  have hof := fun w => of_any c w
  rw [← hk] at hof ⊢
  have HOF := Lib.hid hof
  clear hof hk
  go_enter Try.func68, Try.ntmps68
  go_wp2_with fail
  refine (HOF.out _).mono ?_
  rintro e w1 ⟨rfl, hq1⟩
  have hj := h.q hq1
  have hg := hq1.gap b (b + 4)
  obtain ⟨b0, b1, b2, b3⟩ := id hj
  have c0 := b0.cell; have c1 := b1.cell; have c2 := b2.cell; have c3 := b3.cell
  have f0 := b0.frozen; have f1 := b1.frozen; have f2 := b2.frozen; have f3 := b3.frozen
  simp only at c0 c1 c2 c3
  clear b0 b1 b2 b3 h
  cases hp : pairB a k <;> cases d <;> cases s <;> cases o
  all_goals
    have hpp := fun w => pair_any a k w
    rw [hp] at hpp
    have HPP := Lib.hid hpp
    have HP := Lib.hid hp
    clear hpp hp
    go_wp2_with (go_at_call 70; refine (HPP.out _).mono ?_; rintro e w' ⟨rfl, rfl⟩)
    all_goals
      go_ret
      have hp := HP.out
      refine ⟨retB ?_, JS.put4 hj _ ?_ ?_ ?_ ?_ hg⟩
      all_goals first | rfl | (simp_all [stp, jn] <;> rfl)

end Go.Proofs.Ytmobljfpkdjnpaa
