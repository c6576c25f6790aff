/- Sums of two lists, and the document's example. -/
import Derived.Test.YtebcgpoemppljaaRows
import Derived.Test.YtebcgpoemppljaaDigL
import Derived.Test.YtebcgpoemppljaaInts
import Derived.Test.YtebcgpoemppljaaSto
import Derived.Test.YtebcgpoemppljaaDigX
import Derived.Test.YtebcgpoemppljaaDigY
import Derived.Test.YtebcgpoemppljaaUtfR
set_option linter.unusedVariables false
set_option linter.unusedSimpArgs false
namespace Go.Proofs.Ytebcgpoemppljaa
open Go.RowKit
namespace Dw
theorem sum_two_at {w : World} {va vb : Value} {xs ys : List Int} (ha : Lst w va xs) (hb : Lst w vb ys) (hl : xs.length < 1000000) (hl2 : ys.length < 1000000) (hx : Dm.okD xs) (hy : Dm.okD ys) :
    Calls Try.prog 54 #[.slice (some ⟨w.heap.size, 0, none⟩) 2 2] (w.alloc (.cells #[va, vb] 22)) fun e w' => ∃ u, e = .returned (.tuple #[u, .int .i64 0]) ∧ Lst w' u (Dm.dg (Dm.num xs + Dm.num ys)) ∧ New w.heap.size u ∧ Q w w' := by
  obtain ⟨s, t, rfl, rfl, rfl, rfl, hll⟩ := two_ll ha hb
  have hs := hll.2 s (by simp)
  have ht := hll.2 t (by simp)
  have h := sum_at _ _ _ hll (by show 2 ≤ 1000; omega) (by
    intro u hu
    rcases List.mem_cons.1 hu with rfl | hu
    · rw [← hs.2]; exact hl
    · rcases List.mem_cons.1 hu with rfl | hu
      · rw [← ht.2]; exact hl2
      · cases hu) (by simp [okA, (Dm.okB_iff s.zs).2 hx, (Dm.okB_iff t.zs).2 hy])
  have e : sumN [s, t] = Dm.num s.zs + Dm.num t.zs := by simp [sumN]
  rw [e] at h
  refine h.mono ?_
  rintro e w' ⟨u, rfl, hu, hnw, hq⟩
  exact ⟨u, rfl, hu, hnw.mono (by rw [World.size_alloc]; omega), ((Q.refl w).alloc _).trans hq⟩
theorem sum_two {w : World} {va vb : Value} {xs ys : List Int} (ha : Lst w va xs) (hb : Lst w vb ys) (hl : xs.length < 1000000) (hl2 : ys.length < 1000000) (hx : Dm.okD xs) (hy : Dm.okD ys) :
    Calls Try.prog 54 #[.slice (some ⟨w.heap.size, 0, none⟩) 2 2] (w.alloc (.cells #[va, vb] 22)) fun e w' => ∃ u, e = .returned (.tuple #[u, .int .i64 0]) ∧ Lst w' u (Dm.dg (Dm.num xs + Dm.num ys)) ∧ Q w w' := by
  refine (sum_two_at ha hb hl hl2 hx hy).mono ?_
  rintro e w' ⟨u, h1, h2, _, h3⟩
  exact ⟨u, h1, h2, h3⟩
theorem n99 : Dm.dg (Dm.num [9, 9] + Dm.num [1]) = [1, 0, 0] := by decide +kernel
theorem n1 : Dm.dg (Dm.num [1, 0, 0] - Dm.num [9, 9]) = [1] := by decide +kernel
theorem okA1 : Dm.okD [9, 9] := by intro d hd; simp at hd; omega
theorem okA2 : Dm.okD [1] := by intro d hd; simp at hd; omega
theorem okA3 : Dm.okD [1, 0, 0] := by intro d hd; simp at hd; omega

/-- Two lists that are written out in the text. -/
theorem lits (w : World) (xs ys : List Int) (n m : Nat) (hx : xs.length = n) (hy : ys.length = m) (hn : n ≤ maxLen) (hm : m ≤ maxLen) :
    Lst ((w.alloc (.cells (xs.map (Value.int .i64)).toArray 3)).alloc (.cells (ys.map (Value.int .i64)).toArray 3)) (.slice (some ⟨w.heap.size, 0, none⟩) n n) xs ∧
    Lst ((w.alloc (.cells (xs.map (Value.int .i64)).toArray 3)).alloc (.cells (ys.map (Value.int .i64)).toArray 3)) (.slice (some ⟨w.heap.size + 1, 0, none⟩) m m) ys := by
  refine ⟨(Lst.made w xs n hx hn).q ((Q.refl _).alloc _), ?_⟩
  have h := Lst.made (w.alloc (.cells (xs.map (Value.int .i64)).toArray 3)) ys m hy hm
  have e : (w.alloc (.cells (xs.map (Value.int .i64)).toArray 3)).heap.size = w.heap.size + 1 := by simp
  rw [e] at h
  exact h
theorem live_sum (w : World) : Calls Try.prog 54 #[.slice (some ⟨w.heap.size + 1 + 1, 0, none⟩) 2 2]
    (((w.alloc (.cells #[.int .i64 9, .int .i64 9] 3)).alloc (.cells #[.int .i64 1] 3)).alloc (.cells #[.slice (some ⟨w.heap.size, 0, none⟩) 2 2, .slice (some ⟨w.heap.size + 1, 0, none⟩) 1 1] 22))
    fun e w' => ∃ u, e = .returned (.tuple #[u, .int .i64 0]) ∧ Lst w' u [1, 0, 0] ∧ Q w w' := by
  obtain ⟨h1, h2⟩ := lits w [9, 9] [1] 2 1 rfl rfl (by unfold maxLen; omega) (by unfold maxLen; omega)
  have h := sum_two h1 h2 (by decide) (by decide) okA1 okA2
  have e : ((w.alloc (.cells (([9, 9] : List Int).map (Value.int .i64)).toArray 3)).alloc (.cells (([1] : List Int).map (Value.int .i64)).toArray 3)).heap.size = w.heap.size + 1 + 1 := by simp
  rw [n99, e] at h
  refine Calls.mono h ?_
  rintro e w' ⟨u, rfl, hu, hq⟩
  exact ⟨u, rfl, hu, (((Q.refl w).alloc _).alloc _).trans hq⟩
theorem live_same (w : World) (v : Value) (xs : List Int) (n : Nat) (hv : Lst w v xs) (hn : xs.length = n) (hm : n < 1000000) :
    Calls Try.prog 25 #[v, .slice (some ⟨w.heap.size, 0, none⟩) n n] (w.alloc (.cells (xs.map (Value.int .i64)).toArray 3)) fun e w' => e = .returned (.bool true) ∧ Q w w' := by
  have h := Ur.same_any v _ xs xs _ (hv.q ((Q.refl w).alloc (.cells (xs.map (Value.int .i64)).toArray 3))) (Lst.made w xs n hn (by unfold maxLen; omega)) (by omega) (by omega)
  refine h.mono ?_
  rintro e w' ⟨rfl, hq⟩
  exact ⟨by simp, ((Q.refl w).alloc _).trans hq⟩

end Dw
end Go.Proofs.Ytebcgpoemppljaa
