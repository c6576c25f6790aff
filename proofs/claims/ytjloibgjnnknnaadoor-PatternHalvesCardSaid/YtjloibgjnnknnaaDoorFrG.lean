/- Arguments opened: a struct of ten fields, a slice of pieces. Our own work. -/
import Derived.Test.YtjloibgjnnknnaaDoorRows
import Derived.Test.YtjloibgjnnknnaaDoorInts
import Derived.Test.YtjloibgjnnknnaaDoorPcs
import Derived.ChangeOld
import Derived.OpenShut
import Derived.Below
import Derived.Lib.SmallJoins
import Derived.Deep.SlicePairs
set_option linter.unusedVariables false
set_option linter.unusedSimpArgs false
namespace Go.Proofs.YtjloibgjnnknnaaDoor
open Go.ChangeShapes Go.WideShapes Go.RowKit Go.Deep
namespace FrG
section
variable {H : Type} {enc : TypeId × Value → H} {P : Program} {w : World} {base : Nat} {spare : Nat → Bool} {held : Bool}
theorem open_fields {r : Reach} {b0 : Nat} {t : TypeId} {fs : Array Field} {v : Value} {d : DataW H} {p : List MemPlace} (hs : P.underlying t = some (.struct fs)) (hone : oneCellFields P fs = true) (hC : P.cellsOf t = fs.size)
    (hv : Value.okWide P w r b0 t v) (h : DataW.Trod enc P w base spare held t v d p) :
    ∃ cs : Array Value, v = .agg cs ∧ cs.size = fs.size ∧ ∀ (i : Nat) (f : Field) (c : Value), fs[i]? = some f → cs[i]? = some c → ∃ n y, DataW.trod enc P w base spare held n f.type ([c] : List Value) = some y := by
  obtain ⟨cs, rfl, hsz⟩ := okWide_struct hs hv
  obtain ⟨fuel, hf⟩ := h
  obtain ⟨xs, n, _, _, _, hxl, hx⟩ := DataW.trod_struct hs hf
  refine ⟨cs, rfl, hsz.trans hC, fun i f c hfi hci => ?_⟩
  obtain ⟨o, k⟩ := hone_of hone i f hfi
  have h1 := hx i f hfi
  rw [o, k] at h1
  have hi : i < fs.size := (Array.getElem?_eq_some_iff.1 hfi).1
  have h2 : ((Value.agg cs).cells.toList.drop i).take 1 = [c] := by
    have h3 : cs.toList[i]? = some c := by simpa using hci
    have h4 : (cs.toList.drop i).take 1 = [c] := by
      obtain ⟨hlt, he⟩ := List.getElem?_eq_some_iff.1 h3
      rw [List.drop_eq_getElem_cons hlt, he]; rfl
    simpa [Value.cells] using h4
  rw [h2] at h1
  obtain ⟨y, hy⟩ : ∃ y, xs[i]? = some y := ⟨xs[i]'(by omega), List.getElem?_eq_getElem (by omega)⟩
  exact ⟨n, y, h1.trans hy⟩
end
theorem arr10 {cs : Array Value} (h : cs.size = 10) : ∃ a b c d e f g h i j, cs = #[a, b, c, d, e, f, g, h, i, j] := by
  obtain ⟨l⟩ := cs
  match l, h with
  | [a, b, c, d, e, f, g, h, i, j], _ => exact ⟨a, b, c, d, e, f, g, h, i, j, rfl⟩
theorem lst_of {H : Type} {enc : TypeId × Value → H} {P : Program} {W : World} {held : Bool} {t e : TypeId} (h1 : P.underlying t = some (.slice e)) (h2 : P.underlying e = some (.int .i64)) (h3 : P.cellsOf e = 1) {c : Value}
    (h : ∃ n y, DataW.trod enc P W 0 (fun _ => true) held n t [c] = some y) : ∃ xs, Lst W c xs ∧ ∀ n ∈ xs, -9223372036854775808 ≤ n ∧ n ≤ 9223372036854775807 := by
  obtain ⟨n, y, h⟩ := h
  rcases open_ints h1 h2 h3 h with ⟨hcs, _⟩ | ⟨x, l, c', zs, hcs, _, hl, hm, hz, _, hcell, hwz⟩
  · obtain rfl : c = .slice none 0 0 := by simpa using hcs
    exact ⟨[], .nil _ _ _ (by unfold maxLen; omega) (fun _ => rfl), by simp⟩
  · obtain rfl : c = .slice (some x) l c' := by simpa using hcs
    obtain ⟨xs, hx, _, hb⟩ := IsRow.lst (w := W) (.inr ⟨_, rfl, hl, hm, by simpa using hz, hcell, hwz⟩)
    exact ⟨xs, hx, hb⟩
theorem bool_of {H : Type} {enc : TypeId × Value → H} {P : Program} {W : World} {held : Bool} {t : TypeId} (h1 : P.underlying t = some .bool) {c : Value}
    (h : ∃ n y, DataW.trod enc P W 0 (fun _ => true) held n t [c] = some y) : ∃ b, c = .bool b := by
  obtain ⟨n, y, h⟩ := h
  obtain ⟨b, h, _⟩ := DataW.trod_bool h1 h
  exact ⟨b, by simpa using h⟩
theorem int_of {H : Type} {enc : TypeId × Value → H} {P : Program} {W : World} {held : Bool} {t : TypeId} (h1 : P.underlying t = some (.int .i64)) {c : Value}
    (h : ∃ n y, DataW.trod enc P W 0 (fun _ => true) held n t [c] = some y) : ∃ i, c = .int .i64 i ∧ -9223372036854775808 ≤ i ∧ i ≤ 9223372036854775807 := by
  obtain ⟨n, y, h⟩ := h
  obtain ⟨i, h, _, hw⟩ := DataW.trod_int h1 h
  exact ⟨i, by simpa using h, bounds_i64 hw⟩
/-- A list of pieces that came in. -/
theorem pieces_of {H : Type} {enc : TypeId × Value → H} {P : Program} {W : World} {held : Bool} {t e : TypeId} {f0 f1 : Field} (h1 : P.underlying t = some (.slice e)) (h2 : P.underlying e = some (.struct #[f0, f1]))
    (ce : P.cellsOf e = 2) (o0 : f0.offset = 0) (o1 : f1.offset = 1) (c0 : P.cellsOf f0.type = 1) (c1 : P.cellsOf f1.type = 1) (i0 : P.underlying f0.type = some (.int .i64)) (s1 : P.underlying f1.type = some .string) {c : Value}
    (h : ∃ n y, DataW.trod enc P W 0 (fun _ => true) held n t [c] = some y) :
    ∃ l : List Pc.E, Pc.LstP W c l ∧ ∀ x ∈ l, -9223372036854775808 ≤ x.1 ∧ x.1 ≤ 9223372036854775807 ∧ x.2.length ≤ maxLen := by
  obtain ⟨n, y, h⟩ := h
  rcases Deep.open_slice_pairs h1 h2 ce o0 o1 c0 c1 h with ⟨hcs, _⟩ | ⟨a, len, cap, m, n, V0, V1, D0, D1, P0, P1, hcs, _, hl, hm, hmm, _, hx⟩
  · obtain rfl : c = .slice none 0 0 := by simpa using hcs
    exact ⟨[], .nil _ _ _ (by unfold maxLen; omega) (fun _ => rfl), by simp⟩
  · obtain rfl : c = .slice (some a) len cap := by simpa using hcs
    have hmc : m = cap := by simpa using hmm
    have each : ∀ i, i < len → ∃ q : Int × List UInt8, (-9223372036854775808 ≤ q.1 ∧ q.1 ≤ 9223372036854775807 ∧ q.2.length ≤ maxLen) ∧ W.cell? (a.add (i * 2)) = some (.int .i64 q.1) ∧ W.cell? (a.add (i * 2 + 1)) = some (.string ⟨q.2.toArray⟩) := by
      intro i hi
      obtain ⟨g0, g1, g2, g3⟩ := hx i (by omega)
      obtain ⟨k, hk, hb1, hb2⟩ := int_of i0 ⟨_, _, g2⟩
      obtain ⟨s, hs, _, hsz⟩ := DataW.trod_string s1 g3
      refine ⟨(k, s.data.toList), ⟨hb1, hb2, ?_⟩, by rw [g0, hk], ?_⟩
      · show s.data.toList.length ≤ maxLen
        rw [Array.length_toList]; exact hsz
      · rw [g1]
        have : V1 i = .string s := by simpa using hs
        rw [this]
    by_cases h0 : len = 0
    · subst h0
      exact ⟨[], .nil _ _ _ (by omega) (fun h => by cases h), by simp⟩
    obtain ⟨q, hq⟩ := Deep.choose_lt each
    obtain ⟨b, off, spot⟩ := a
    have hspot : spot = none := by simpa [Addr.add] using World.cell?_spot (hq 0 (by omega)).2.1
    subst hspot
    refine ⟨(List.range len).map q, .inr ⟨b, off, cap, by simp, ?_, by simpa using hl, hm, fun i hi => ?_⟩, fun x hx => ?_⟩
    · exact World.block_lt_of_cell? _ _ (hq 0 (by omega)).2.1
    · have hi' : i < len := by simpa using hi
      have hg : ((List.range len).map q).getD i (0, []) = q i := by rw [List.getD_eq_getElem?_getD]; simp [hi']
      rw [hg]
      have := (hq i hi').2
      simpa [Go.WideShapes.add_plain, Nat.add_assoc, Pc.txt] using this
    · obtain ⟨i, hi, rfl⟩ := List.mem_map.1 hx
      exact (hq i (List.mem_range.1 hi)).1
end FrG
end Go.Proofs.YtjloibgjnnknnaaDoor
