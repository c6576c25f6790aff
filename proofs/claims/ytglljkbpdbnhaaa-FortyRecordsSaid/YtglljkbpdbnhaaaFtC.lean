/- All names. -/
import Derived.Test.YtglljkbpdbnhaaaRows
import Derived.Test.YtglljkbpdbnhaaaInts
import Derived.Test.YtglljkbpdbnhaaaUtfM
import Derived.Test.YtglljkbpdbnhaaaGap
import Derived.Test.YtglljkbpdbnhaaaEls
import Derived.Test.YtglljkbpdbnhaaaBlk
import Derived.Test.YtglljkbpdbnhaaaRng
import Derived.Test.YtglljkbpdbnhaaaRng2
import Derived.Test.YtglljkbpdbnhaaaFtM
import Derived.Test.YtglljkbpdbnhaaaFtA
import Derived.Test.YtglljkbpdbnhaaaFtB
import Derived.Maps.AppendAt
import Derived.Deep.Cut
import Derived.OwnWalkIn
import Derived.TacticsInMore
import Derived.LoopNIn
import Derived.LoopIn
set_option linter.unusedVariables false
set_option linter.unusedSimpArgs false
namespace Go.Proofs.Ytglljkbpdbnhaaa
open Go.RowKit Go.Shelf Um
attribute [local go_sem] Oper.semAt_some
namespace Ft

/-- One element more behind a list of the call's own, in a fence. -/
theorem gpush_in {F : Fence} {n : Nat} {α : Type} {T ST : TypeId} {z : Value} {bytes : Nat} (he : Elem T ST z bytes) {en : α → Value} {w : World} {B : Nat} {v : Value} {zs : List α} (hown : GOwn T en w B v zs) {ops : Array Oper} {rest : List Oper} {o : Oper} {a : Act} {R : Exit → Act → World → Prop} (hgd : o.guard = none) (s x : Operand)
    (ho : o.op = .call { callee := .builtin .append, args := #[s, x], argTypes := #[ST, ST] })
    (y : α) (h1c : (en y).oneCell' = true) (hs : a.eval s = v) (hx : a.eval x = .slice (some ⟨w.heap.size, 0, none⟩) 1 1) (hlen : zs.length < 1099511627776) (hB : B ≤ w.heap.size)
    (h : ∀ v' w', GOwn T en w' B v' (zs ++ [y]) → w.grownBy w' v.ownBlock → wpListIn F n Try.prog ops R rest (a.put o.dst v') w') :
    wpListIn F n Try.prog ops R (o :: rest) a (w.alloc (.cells #[en y] T)) := by
  obtain ⟨i0, hi, hz0, hz1, hz2⟩ := info_parts he.info
  refine wpListIn_append_own _ hgd s x ST ho B T i0 z 1 bytes he.under hi hz0 hz1 hz2 he.one (by decide) v zs.length _ hs (World.ownsRow.alloc hown _)
    ⟨w.heap.size, 0, none⟩ 1 1 [en y] hx rfl (cell_one_new _ _ _) ?_ ?_ ?_ ?_ ?_
  · intro u hu; simp at hu; subst hu; exact h1c
  · unfold maxLen; omega
  · have h1 : (zs.length + 1) * bytes ≤ (zs.length + 1) * 64 := Nat.mul_le_mul_left _ he.small
    omega
  · simp; omega
  · intro v' w' hown' hg _
    refine h v' w' ?_ ?_
    · have e1 : (zs ++ [y]).length = zs.length + 1 := by simp
      unfold GOwn
      rw [e1, List.map_append]
      exact hown'
    · exact (World.grownBy_alloc w _ _).trans hg
theorem gbox_not {α : Type} {T : TypeId} {en : α → Value} {W : World} {B b : Nat} {t : TypeId} {u v : Value} {zs : List α} (h : Boxed W b t u) (ho : GOwn T en W B v zs) (ht : t ≠ T) : some b ≠ v.ownBlock := by
  intro e
  obtain ⟨cur, hc⟩ := ho.cells b e.symm
  have := (show W.heap[b]? = _ from h).symm.trans hc
  simp at this
  exact ht this.2
/-- The names in their row. -/
def nms : List ByteArray := (List.range 40).map fun k => Lm.bs (Fm.nam k)
set_option maxRecDepth 100000 in
set_option maxHeartbeats 2000000 in
theorem names_any (w : World) :
    Calls Try.prog 8 #[] w fun e w' => ∃ v, e = .returned v ∧ SLst w' v nms ∧ Q w w' := by
  refine (callsIn_wide (n := 0)).1 ?_
  refine callsIn_of_wp_marks Try.func8 rfl trivial ?_ rfl
  simp only [Try.ntmps8, List.size_toArray, List.length_cons, List.length_nil, Nat.reduceAdd, Nat.reduceSub, Array.replicate_succ, Array.replicate_zero, List.push_toArray, List.append_toArray, List.nil_append, List.cons_append]
  gi_wp2_with fail
  refine ⟨trivial, rfl, (callsIn_wide.2 (all_any _)).mono ?_⟩
  rintro e w' ⟨rfl, hw'⟩
  have bL := Boxed.new w 26 (.slice none 0 0)
  have hq0 : Q w (w.alloc (.cells #[.slice none 0 0] 26)) := (Q.refl w).alloc _
  have hz0 : (w.alloc (.cells #[.slice none 0 0] 26)).heap.size = w.heap.size + 1 := by simp
  rw [← hw'] at bL hq0 hz0
  clear hw'
  gi_wp2_with fail
  have hz1 : w'.heap.size ≤ w.heap.size + 1 := by omega
  have hz2 : w.heap.size + 1 ≤ w'.heap.size := by omega
  clear hz0
  refine range_any (gf := 19) (lb := #[]) rfl (enters_of Try.func19 (by kernel_rfl) rfl) (fun _ => rfl)
    (all_iter (w'.heap.size + 1 + 1) w') (by unfold SetR; omega) (by omega)
    (fun pre W => (∃ v, Boxed W w.heap.size 26 v ∧ SOwn W (w'.heap.size + 1 + 1 + 1) v (pre.map fun k => Lm.bs (Fm.nam k))) ∧ Q w W) (fun _ _ _ => False) ?hI (fun _ _ _ _ h _ => h) ⟨⟨_, bL, GOwn.nil _ _ _ _⟩, hq0⟩
    (fun x => { tmps := #[.slice none 0 0, .pointer (some ⟨w.heap.size, 0, none⟩), .string (Lm.bs (Fm.T x).nam), .func (.func 19) #[] #[], .string (Lm.bs (Fm.T x).nam), rV (Fm.T x), undef, undef, undef, undef, undef], defers := [] }) ?assign ?body ?done ?stop
  case hI =>
    rintro pre A A' ⟨⟨v, hb, ho⟩, hq⟩ hg
    exact ⟨⟨v, bx_gap hb hg (.inl (by omega)), ho.gap hg (fun g hg => .inr (ho.lt g hg).1)⟩, hq.gapped hg (by omega)⟩
  case assign =>
    intro l x W K hK
    gi_wp2
    first | exact hK | simpa using hK
  case body =>
    rintro l pre x W ⟨⟨v, hb, ho⟩, hq⟩ hz ⟨j, hj, hpre⟩
    have hc := hb.cell
    have hf := hb.frozen
    have hpl : (pre.map fun k => Lm.bs (Fm.nam k)).length < 1073741825 := by
      have := congrArg List.length hpre
      simp at this ⊢; omega
    have HP := Lib.hid (show (pre ++ [x]).map (fun k => Lm.bs (Fm.nam k)) = (pre.map fun k => Lm.bs (Fm.nam k)) ++ [Lm.bs (Fm.T x).nam] by rw [List.map_append]; rfl)
    generalize Lm.bs (Fm.T x).nam = s at *
    clear hpre
    gi_wp2_with (gi_at_builtin; refine gpush_in elemS ho rfl _ _ rfl s rfl (by rfl) (by rfl) (by omega) hz ?_; intro v' w1 ho1 hg1; obtain ⟨pa, pc, rfl⟩ := ho1.shape; have hb1 := hb.kept hg1 (gbox_not hb ho (by decide)); have hc1 := hb1.cell; have hf1 := hb1.frozen)
    have hlt : ∀ k, v.ownBlock = some k → w'.heap.size + 1 + 1 + 1 ≤ k := fun k hk => (ho.lt k hk).1
    refine ⟨(Stand.grown hg1 fun k hk => ?_).trans (Stand.setCell _ _ _ _ _ ?_), ⟨_, hb1.set _, ?_⟩, Below.setCell (p := ⟨w.heap.size, 0, none⟩) (hq.grown hg1 fun k hk => ?_) (Nat.le_refl _) _⟩
    · have := hlt k hk; unfold SetR; omega
    · unfold SetR; omega
    · rw [HP.out]
      rw [show ((pre.map fun k => Lm.bs (Fm.nam k)) ++ [s]).length = pre.length + 1 by simp] at ho1
      exact ho1.gap (Gap.setCell _ w.heap.size 0 _ w.heap.size (w.heap.size + 1) (Nat.le_refl _) (Nat.lt_succ_self _)) (fun g hg => .inr (by have := (ho1.lt g hg).1; omega))
    · have := hlt k hk; omega
  case done =>
    rintro xs W rfl ⟨⟨v, hb, ho⟩, hq⟩ hK
    have hc := hb.cell
    have hf := hb.frozen
    gi_wp2_with fail
    refine ⟨by simp, .inl ⟨_, _, rfl, run_takeDeferred hK, ?_⟩⟩
    refine ⟨_, results_tmp rfl _ _ _, _, rfl, ?_, ?_⟩
    · refine (ho.same fun g hg => World.putObj_heap_other fun e => ?_).lst
      obtain ⟨cur, hcu⟩ := ho.cells g hg
      rw [e, hK] at hcu; cases hcu
    · exact hq.gapped (Gap.putObj W _ _ w'.heap.size (w'.heap.size + 1) (by omega) (by omega)) (by omega)
  case stop =>
    rintro c pre W _ h _
    exact h.elim

end Ft
end Go.Proofs.Ytglljkbpdbnhaaa
