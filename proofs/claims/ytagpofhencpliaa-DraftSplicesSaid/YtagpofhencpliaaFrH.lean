/- Arguments opened: structs within structs. Our own work. -/
import Derived.Test.YtagpofhencpliaaRows
import Derived.Test.YtagpofhencpliaaInts
import Derived.ChangeOld
import Derived.OpenShut
import Derived.Below
import Derived.Lib.SmallJoins
set_option linter.unusedVariables false
set_option linter.unusedSimpArgs false
namespace Go.Proofs.Ytagpofhencpliaa
open Go.ChangeShapes Go.WideShapes Go.RowKit
namespace FrH
section
variable {H : Type} {enc : TypeId × Value → H} {P : Program} {w : World} {base : Nat} {spare : Nat → Bool} {held : Bool}
theorem open_any {r : Reach} {b0 : Nat} {t : TypeId} {fs : Array Field} {v : Value} {d : DataW H} {p : List MemPlace} (hs : P.underlying t = some (.struct fs)) {k : Nat} (hC : P.cellsOf t = k)
    (hv : Value.okWide P w r b0 t v) (h : DataW.Trod enc P w base spare held t v d p) :
    ∃ cs : Array Value, v = .agg cs ∧ cs.size = k ∧ ∃ n y, DataW.trod enc P w base spare held n t cs.toList = some y := by
  obtain ⟨cs, rfl, hsz⟩ := okWide_struct hs hv
  obtain ⟨fuel, hf⟩ := h
  exact ⟨cs, rfl, hsz.trans hC, fuel, _, by simpa [Value.cells] using hf⟩
/-- A field of a struct whose cells are told. -/
theorem nest {t : TypeId} {fs : Array Field} (hs : P.underlying t = some (.struct fs)) {cells : List Value} (h : ∃ n y, DataW.trod enc P w base spare held n t cells = some y) (i : Nat) {f : Field} (hf : fs[i]? = some f) (o k : Nat) (ho : f.offset = o) {T : TypeId} (hT : f.type = T) (hk : P.cellsOf T = k) {l : List Value} (hl : (cells.drop o).take k = l) :
    ∃ n y, DataW.trod enc P w base spare held n T l = some y := by
  obtain ⟨n, y, h⟩ := h
  obtain ⟨xs, m, _, _, _, hxl, hx⟩ := DataW.trod_struct hs h
  have h1 := hx i f hf
  rw [ho, hT, hk, hl] at h1
  have hi : i < fs.size := (Array.getElem?_eq_some_iff.1 hf).1
  exact ⟨m, _, h1.trans (List.getElem?_eq_getElem (by omega))⟩
end
theorem arr15 {cs : Array Value} (h : cs.size = 15) : ∃ a b c d e f g h i j k l m n o, cs = #[a, b, c, d, e, f, g, h, i, j, k, l, m, n, o] := by
  obtain ⟨l⟩ := cs
  match l, h with
  | [a, b, c, d, e, f, g, h, i, j, k, l, m, n, o], _ => exact ⟨a, b, c, d, e, f, g, h, i, j, k, l, m, n, o, rfl⟩
theorem arr4 {cs : Array Value} (h : cs.size = 4) : ∃ a b c d, cs = #[a, b, c, d] := by
  obtain ⟨l⟩ := cs
  match l, h with
  | [a, b, c, d], _ => exact ⟨a, b, c, d, rfl⟩
theorem arr10 {cs : Array Value} (h : cs.size = 10) : ∃ a b c d e f g h i j, cs = #[a, b, c, d, e, f, g, h, i, j] := by
  obtain ⟨l⟩ := cs
  match l, h with
  | [a, b, c, d, e, f, g, h, i, j], _ => exact ⟨a, b, c, d, e, f, g, h, i, j, rfl⟩
theorem lst_of {H : Type} {enc : TypeId × Value → H} {P : Program} {W : World} {held : Bool} {t e : TypeId} (h1 : P.underlying t = some (.slice e)) (h2 : P.underlying e = some (.int .i64)) (h3 : P.cellsOf e = 1) {c : Value}
    (h : ∃ n y, DataW.trod enc P W 0 (fun _ => true) held n t [c] = some y) : ∃ xs, Lst W c xs ∧ ∀ n ∈ xs, -9223372036854775808 ≤ n ∧ n ≤ 9223372036854775807 := by
  obtain ⟨n, y, h⟩ := h
  rcases open_ints h1 h2 h3 h with ⟨hcs, _⟩ | ⟨x, l, c', zs, hcs, _, hl, hm, hz, _, hcell, hwz⟩
  · obtain rfl : c = .slice none 0 0 := by simpa using hcs
    exact ⟨[], .nil _ _ _ (by unfold maxLen; omega) (fun _ => rfl), by simp⟩
  · obtain rfl : c = .slice (some x) l c' := by simpa using hcs
    obtain ⟨xs, hx, _, hb⟩ := IsRow.lst (w := W) (.inr ⟨_, rfl, hl, hm, by simpa using hz, hcell, hwz⟩)
    exact ⟨xs, hx, hb⟩
theorem bool_of {H : Type} {enc : TypeId × Value → H} {P : Program} {W : World} {held : Bool} {t : TypeId} (h1 : P.underlying t = some .bool) {c : Value}
    (h : ∃ n y, DataW.trod enc P W 0 (fun _ => true) held n t [c] = some y) : ∃ b, c = .bool b := by
  obtain ⟨n, y, h⟩ := h
  obtain ⟨b, h, _⟩ := DataW.trod_bool h1 h
  exact ⟨b, by simpa using h⟩
theorem int_of {H : Type} {enc : TypeId × Value → H} {P : Program} {W : World} {held : Bool} {t : TypeId} (h1 : P.underlying t = some (.int .i64)) {c : Value}
    (h : ∃ n y, DataW.trod enc P W 0 (fun _ => true) held n t [c] = some y) : ∃ i, c = .int .i64 i ∧ -9223372036854775808 ≤ i ∧ i ≤ 9223372036854775807 := by
  obtain ⟨n, y, h⟩ := h
  obtain ⟨i, h, _, hw⟩ := DataW.trod_int h1 h
  exact ⟨i, by simpa using h, bounds_i64 hw⟩
theorem text_of {H : Type} {enc : TypeId × Value → H} {P : Program} {W : World} {held : Bool} {t : TypeId} (h1 : P.underlying t = some .string) {c : Value}
    (h : ∃ n y, DataW.trod enc P W 0 (fun _ => true) held n t [c] = some y) : ∃ s : ByteArray, c = .string s ∧ s.size ≤ maxLen := by
  obtain ⟨n, y, h⟩ := h
  obtain ⟨s, h, _, hs⟩ := DataW.trod_string h1 h
  exact ⟨s, by simpa using h, hs⟩
end FrH
end Go.Proofs.Ytagpofhencpliaa
