/- Where clusters begin, how many there are, how many bytes the first and the last one have: the four that range over the iterator. -/
import Derived.Test.YtmobljfpkdjnpaaRows
import Derived.Test.YtmobljfpkdjnpaaInts
import Derived.Test.YtmobljfpkdjnpaaGap
import Derived.Test.YtmobljfpkdjnpaaRng
import Derived.Test.YtmobljfpkdjnpaaCluM
import Derived.Test.YtmobljfpkdjnpaaCluB
set_option linter.unusedVariables false
set_option linter.unusedSimpArgs false
namespace Go.Proofs.Ytmobljfpkdjnpaa
open Go.RowKit Go.Shelf Um Cm Gm
attribute [local go_sem] Oper.semAt_some

set_option maxRecDepth 100000 in
set_option maxHeartbeats 2000000 in
theorem cstarts_any (s : ByteArray) (w : World) (hs : s.size ≤ 1073741824) :
    Calls Try.prog 41 #[.string s] w fun e w' => ∃ v, e = .returned v ∧ Own w' w.heap.size v (begL s.data.toList ++ [(s.size : Int)]) ∧ Q w w' := by
  have hbl := begL_length s.data.toList
  rw [size_list] at hbl
  refine (callsIn_wide (n := 0)).1 ?_
  refine callsIn_of_wp_marks Try.func41 rfl trivial ?_ rfl
  simp only [Try.ntmps41, List.size_toArray, List.length_cons, List.length_nil, Nat.reduceAdd, Nat.reduceSub, Array.replicate_succ, Array.replicate_zero, List.push_toArray, List.append_toArray, List.nil_append, List.cons_append]
  gi_wp2_with fail
  refine ⟨trivial, rfl, (callsIn_wide.2 (begins_any s _)).mono ?_⟩
  rintro e w' ⟨rfl, rfl⟩
  gi_wp2_with fail
  have bL := (Boxed.new w 23 (.slice none 0 0)).alloc (.cells #[.string s] 9)
  have bS := Boxed.new (w.alloc (.cells #[.slice none 0 0] 23)) 9 (.string s)
  have hq0 : Q w ((w.alloc (.cells #[.slice none 0 0] 23)).alloc (.cells #[.string s] 9)) := ((Q.refl w).alloc _).alloc _
  have hz0 : ((w.alloc (.cells #[.slice none 0 0] 23)).alloc (.cells #[.string s] 9)).heap.size = w.heap.size + 2 := by simp
  rw [World.size_alloc] at bS
  generalize (w.alloc (.cells #[.slice none 0 0] 23)).alloc (.cells #[.string s] 9) = W0 at *
  have hz1 : W0.heap.size ≤ w.heap.size + 2 := by omega
  have hz2 : w.heap.size + 2 ≤ W0.heap.size := by omega
  clear hz0
  refine range_any (gf := 62) (lb := #[.pointer (some ⟨w.heap.size + 1, 0, none⟩)]) rfl (enters_of Try.func62 (by kernel_rfl) rfl) (fun _ => rfl)
    (begins_iter s (w.heap.size + 1) (W0.heap.size + 1 + 1) W0 (by unfold maxLen; omega) bS (by omega)) (by unfold SetB; omega) (by omega)
    (fun pre W => (∃ v, Boxed W w.heap.size 23 v ∧ Own W (W0.heap.size + 1 + 1 + 4) v pre) ∧ Q w W) (fun _ _ _ => False) ?hI (fun _ _ _ _ h _ => h) ⟨⟨_, bL, Own.nil _ _⟩, hq0⟩
    (fun x => { tmps := #[.string s, undef, .slice none 0 0, .pointer (some ⟨w.heap.size, 0, none⟩), .int .i64 x, .string s, .func (.func 62) #[] #[.pointer (some ⟨w.heap.size + 1, 0, none⟩)], .int .i64 x, undef, undef, undef, undef, undef, undef, undef, undef, undef], defers := [] }) ?assign ?body ?done ?stop
  case hI =>
    rintro pre A A' ⟨⟨v, hb, ho⟩, hq⟩ hg
    exact ⟨⟨v, bx_gap hb hg (.inl (by omega)), ho.gap hg (ho.base (Nat.le_refl _))⟩, hq.gapped hg (by omega)⟩
  case assign =>
    intro l x W K hK
    gi_wp2
    first | exact hK | simpa using hK
  case body =>
    rintro l pre x W ⟨⟨v, hb, ho⟩, hq⟩ hz hpre
    have hc := hb.cell
    have hf := hb.frozen
    have hpl : pre.length < 1073741825 := by
      have := hpre.length_le
      simp at this; omega
    gi_wp2_with (gi_at_builtin; refine push_in ho rfl _ _ rfl x (by rfl) (by rfl) (by omega) hz ?_; intro g' c' w1 ho1 hg1; have hb1 := hb.kept hg1 (box_not_own hb ho (by decide)); have hc1 := hb1.cell; have hf1 := hb1.frozen)
    have hlt : ∀ k, v.ownBlock = some k → W0.heap.size + 1 + 1 + 4 ≤ k := fun k hk => (ho.lt k hk).1
    refine ⟨(Stand.grown hg1 fun k hk => ?_).trans (Stand.setCell _ _ _ _ _ ?_), ⟨_, hb1.set _, ho1.gap (Gap.setCell _ _ _ _ w.heap.size (w.heap.size + 1) (by omega) (by omega)) (ho1.base (by omega))⟩, (hq.grown hg1 fun k hk => ?_).setCell (p := ⟨w.heap.size, 0, none⟩) (Nat.le_refl _) _⟩
    · have := hlt k hk; unfold SetB; omega
    · unfold SetB; omega
    · have := hlt k hk; omega
  case done =>
    rintro xs W rfl ⟨⟨v, hb, ho⟩, hq⟩ hK
    have hc := hb.cell
    have hf := hb.frozen
    have hle := hq.le
    have ho := ho.mono (B' := w.heap.size) (by omega)
    gi_wp2_with (gi_at_builtin; refine push_in ho rfl _ _ rfl s.size (by rfl) (by rfl) (by omega) hle ?_; intro g' c' w1 ho1 hg1)
    have hK1 : w1.heap[W0.heap.size]? = some (.deferred (some [])) := by
      refine (hg1.block _ (Array.getElem?_eq_some_iff.1 hK).1 fun e => ?_).trans hK
      obtain ⟨cur, hcu⟩ := ho.cells _ e.symm
      rw [hK] at hcu; cases hcu
    refine ⟨by simp, .inl ⟨_, _, rfl, run_takeDeferred hK1, ?_⟩⟩
    refine ⟨_, results_tmp rfl _ _ _, _, rfl, ?_, ?_⟩
    · refine ho1.same fun g hg => World.putObj_heap_other fun e => ?_
      obtain ⟨cur, hcu⟩ := ho1.cells g hg
      rw [e, hK1] at hcu; cases hcu
    · exact (hq.grown hg1 fun k hk => (ho.lt k hk).1).gapped (Gap.putObj w1 _ _ W0.heap.size (W0.heap.size + 1) (by omega) (by omega)) (by omega)
  case stop =>
    rintro c pre W _ h _
    exact h.elim

end Go.Proofs.Ytmobljfpkdjnpaa
