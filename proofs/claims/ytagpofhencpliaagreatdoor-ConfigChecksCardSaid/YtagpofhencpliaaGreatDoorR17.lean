/- Sums of two lists, and the document's example. (and more) -/
import Derived.Test.YtagpofhencpliaaGreatDoorR00
import Derived.Test.YtagpofhencpliaaGreatDoorR02
import Derived.Test.YtagpofhencpliaaGreatDoorR11
import Derived.Test.YtagpofhencpliaaGreatDoorR12
import Derived.Test.YtagpofhencpliaaGreatDoorR03
import Derived.Test.YtagpofhencpliaaGreatDoorR04
import Derived.Test.YtagpofhencpliaaGreatDoorRows
set_option linter.unusedVariables false
set_option linter.unusedSimpArgs false
namespace Go.Proofs.YtagpofhencpliaaGreatDoor
open Go.RowKit
namespace Dw
theorem sum_two_at {w : World} {va vb : Value} {xs ys : List Int} (ha : Lst w va xs) (hb : Lst w vb ys) (hl : xs.length < 1000000) (hl2 : ys.length < 1000000) (hx : Dm.okD xs) (hy : Dm.okD ys) :
    Calls Tryz.prog 80 #[.slice (some ⟨w.heap.size, 0, none⟩) 2 2] (w.alloc (.cells #[va, vb] 26)) fun e w' => ∃ u, e = .returned (.tuple #[u, .int .i64 0]) ∧ Lst w' u (Dm.dg (Dm.num xs + Dm.num ys)) ∧ New w.heap.size u ∧ Q w w' := by
  obtain ⟨s, t, rfl, rfl, rfl, rfl, hll⟩ := two_ll ha hb
  have hs := hll.2 s (by simp)
  have ht := hll.2 t (by simp)
  have h := sum_at _ _ _ hll (by show 2 ≤ 1000; omega) (by
    intro u hu
    rcases List.mem_cons.1 hu with rfl | hu
    · rw [← hs.2]; exact hl
    · rcases List.mem_cons.1 hu with rfl | hu
      · rw [← ht.2]; exact hl2
      · cases hu) (by simp [okA, (Dm.okB_iff s.zs).2 hx, (Dm.okB_iff t.zs).2 hy])
  have e : sumN [s, t] = Dm.num s.zs + Dm.num t.zs := by simp [sumN]
  rw [e] at h
  refine h.mono ?_
  rintro e w' ⟨u, rfl, hu, hnw, hq⟩
  exact ⟨u, rfl, hu, hnw.mono (by rw [World.size_alloc]; omega), ((Q.refl w).alloc _).trans hq⟩
theorem sum_two {w : World} {va vb : Value} {xs ys : List Int} (ha : Lst w va xs) (hb : Lst w vb ys) (hl : xs.length < 1000000) (hl2 : ys.length < 1000000) (hx : Dm.okD xs) (hy : Dm.okD ys) :
    Calls Tryz.prog 80 #[.slice (some ⟨w.heap.size, 0, none⟩) 2 2] (w.alloc (.cells #[va, vb] 26)) fun e w' => ∃ u, e = .returned (.tuple #[u, .int .i64 0]) ∧ Lst w' u (Dm.dg (Dm.num xs + Dm.num ys)) ∧ Q w w' := by
  refine (sum_two_at ha hb hl hl2 hx hy).mono ?_
  rintro e w' ⟨u, h1, h2, _, h3⟩
  exact ⟨u, h1, h2, h3⟩
theorem n1 : Dm.dg (Dm.num [1, 0, 0] - Dm.num [9, 9]) = [1] := by decide +kernel
end Dw
end Go.Proofs.YtagpofhencpliaaGreatDoor
