/- A list of lists of numbers that came in, as the row's frame tells it. -/
import Derived.Test.YtcdpgibemkbclaaRows
import Derived.Test.YtcdpgibemkbclaaInts
import Derived.Test.YtcdpgibemkbclaaEls
import Derived.Test.YtcdpgibemkbclaaSto
import Derived.Deep.Matrix
import Derived.OpenShut
set_option linter.unusedVariables false
set_option linter.unusedSimpArgs false
namespace Go.Proofs.Ytcdpgibemkbclaa
open Go.RowKit
def Fits (ls : List Sl) : Prop := ∀ s ∈ ls, ∀ n ∈ s.zs, -9223372036854775808 ≤ n ∧ n ≤ 9223372036854775807
theorem LL.none (w : World) : LL w (.slice none 0 0) [] := ⟨.nil _ _ _ _ (by unfold maxLen; omega) (fun _ => rfl), fun s h => by cases h⟩
instance : Inhabited Sl := ⟨⟨none, 0, 0, []⟩⟩
theorem rows_open (w : World) (base : Nat) (a : Addr) (len cap : Nat) (A : Nat → Option Addr) (L C : Nat → Nat) (Z : Nat → List Int) (hl : len ≤ cap) (hm : cap ≤ maxLen)
    (h : ∀ r, r < cap → w.cell? (a.add r) = some (.slice (A r) (L r) (C r)) ∧ L r ≤ C r ∧ C r ≤ maxLen ∧ (Z r).length = C r ∧ (∀ n ∈ Z r, (Lit.int .i64 n).wf = true) ∧ (A r = none → C r = 0) ∧
        ∀ a', A r = some a' → base ≤ a'.block ∧ ∀ c, c < C r → w.cell? (a'.add c) = some (.int .i64 ((Z r).getD c 0))) :
    ∃ ls, LL w (.slice (some a) len cap) ls ∧ Fits ls := by
  have each : ∀ r, r < len → ∃ s : Sl, w.cell? (a.add r) = some s.v ∧ s.ok w ∧ ∀ n ∈ s.zs, -9223372036854775808 ≤ n ∧ n ≤ 9223372036854775807 := by
    intro r hr
    obtain ⟨h1, h2, h3, h4, h5, h6, h7⟩ := h r (by omega)
    have hrow : IsRow .i64 w (A r) (L r) (C r) (Z r) := by
      cases hA : A r with
      | none =>
        have hc := h6 hA
        exact .inl ⟨rfl, by omega, hc, List.eq_nil_of_length_eq_zero (by omega)⟩
      | some x => exact .inr ⟨x, rfl, h2, h3, h4, fun i hi => (h7 x hA).2 i (by omega), h5⟩
    obtain ⟨xs, k1, k2, k3⟩ := hrow.lst
    exact ⟨⟨A r, L r, C r, xs⟩, h1, ⟨k1, k2⟩, k3⟩
  obtain ⟨f, hf⟩ := Deep.choose_lt each
  refine ⟨(List.range len).map f, ⟨?_, ?_⟩, ?_⟩
  · by_cases h0 : len = 0
    · subst h0
      exact .nil _ _ _ _ hm (fun h => by cases h)
    · obtain ⟨b, off, spot⟩ := a
      have hspot : spot = Option.none := by simpa [Addr.add] using World.cell?_spot (hf 0 (by omega)).1
      subst hspot
      have hcell : ∀ i x, ((List.range len).map f)[i]? = some x → w.cell? ⟨b, off + i, Option.none⟩ = some (Sl.v x) := by
        intro i x hi
        rw [List.getElem?_map] at hi
        obtain ⟨j, hj, rfl⟩ := Option.map_eq_some_iff.1 hi
        have hil := (List.getElem?_eq_some_iff.1 hj).1
        rw [List.length_range] at hil
        rw [List.getElem?_range hil] at hj
        cases hj
        rw [← Go.WideShapes.add_plain]
        exact (hf i hil).1
      have hlen : ((List.range len).map f).length = len := by simp
      refine .inr ⟨b, off, cap, by rw [hlen], ?_, by rw [hlen]; exact hl, hm, hcell⟩
      have := hcell 0 (f 0) (by rw [List.getElem?_map, List.getElem?_range (by omega)]; rfl)
      exact World.block_lt_of_cell? _ _ this
  · intro s hs
    obtain ⟨r, hr, rfl⟩ := List.mem_map.1 hs
    exact (hf r (List.mem_range.1 hr)).2.1
  · intro s hs
    obtain ⟨r, hr, rfl⟩ := List.mem_map.1 hs
    exact (hf r (List.mem_range.1 hr)).2.2
end Go.Proofs.Ytcdpgibemkbclaa
