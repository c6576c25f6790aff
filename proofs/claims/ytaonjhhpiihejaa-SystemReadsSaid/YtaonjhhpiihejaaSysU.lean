/- Steps for a law that makes lists of texts and reads them in regions that draw their order. -/
import Derived.Test.YtaonjhhpiihejaaRows
import Derived.Test.YtaonjhhpiihejaaInts
import Derived.Test.YtaonjhhpiihejaaEls
import Derived.Test.YtaonjhhpiihejaaUtfM
import Derived.Test.YtaonjhhpiihejaaSysM
import Derived.Test.YtaonjhhpiihejaaSysQ
import Derived.Test.YtaonjhhpiihejaaSysT
import Derived.Deep.QuietTactic
import Derived.Deep.RegionHeld3
import Derived.Deep.RegionLaw
import Derived.Deep.Cut
import Derived.Deep.DeepCutAuto
import Derived.Deep.AppendLies
import Derived.Deep.DrawnRows
import Derived.BigQuiet
import Derived.IntWalk
set_option linter.unusedVariables false
set_option linter.unusedSimpArgs false
namespace Go.Proofs.Ytaonjhhpiihejaa
open Go.RowKit
namespace Sy
open Sm Um

/-- A list of texts that is written out, as one of the call's own. -/
theorem sown_made (w : World) (B : Nat) (zs : List ByteArray) (n : Nat) (hn : zs.length = n) (hm : n ≤ maxLen) (hB : B ≤ w.heap.size) : SOwn (w.alloc (.cells (zs.map Value.string).toArray 9)) B (.slice (some ⟨w.heap.size, 0, none⟩) n n) zs := by
  subst hn
  refine ⟨by simp, .inr ⟨w.heap.size, zs.length, _, rfl, hB, heap_alloc_new _ _, Nat.le_refl _, hm, by simp, List.take_of_length_le (by simp)⟩⟩

/-- One element more, at a step of a region that draws its order. -/
theorem gpush_step {α : Type} {T ST : TypeId} {z : Value} {bytes : Nat} (he : Elem T ST z bytes) {en : α → Value} {u : World} {B : Nat} {v : Value} {zs : List α} (hown : GOwn T en u B v zs) {ops : Array Oper} {o : Oper} {a : Act} {K : Act → World → Prop} {R : Exit → Act → World → Prop} {E : Prop} (hgd : o.guard = none) (s x : Operand)
    (ho : o.op = .call { callee := .builtin .append, args := #[s, x], argTypes := #[ST, ST] })
    (y : α) (h1c : (en y).oneCell' = true) (hs : a.eval s = v) (hx : a.eval x = .slice (some ⟨u.heap.size, 0, none⟩) 1 1) (hlen : zs.length < 1099511627776) (hB : B ≤ u.heap.size)
    (h : ∀ g c w', GOwn T en w' B (.slice (some ⟨g, 0, none⟩) (zs.length + 1) c) (zs ++ [y]) → u.grownBy w' v.ownBlock → K (a.put o.dst (.slice (some ⟨g, 0, none⟩) (zs.length + 1) c)) w') :
    if Region.wanted o (yielded ops a.tmps) = true then Oper.wp Try.prog o a (u.alloc (.cells #[en y] T)) K R else E := by
  obtain ⟨i0, hi, hz0, hz1, hz2⟩ := info_parts he.info
  refine step_append_lies (w := u.alloc (.cells #[en y] T)) hgd s x ST ho B T i0 z 1 bytes he.under hi hz0 hz1 hz2 he.one (by decide) v zs.length _ hs (World.ownsRow.alloc hown _) ⟨u.heap.size, 0, none⟩ 1 1 [en y] hx rfl (cell_one_new _ _ _) ?_ (by decide) ?_ ?_ ?_ _ rfl ?_
  · intro c hcm; simp at hcm; subst hcm; exact h1c
  · unfold maxLen; omega
  · have h1 : (zs.length + 1) * bytes ≤ (zs.length + 1) * 64 := Nat.mul_le_mul_left _ he.small
    omega
  · simp; omega
  · intro g c w' hown' hg _ _
    refine h g c w' ?_ ((World.grownBy_alloc u _ _).trans hg)
    have e1 : (zs ++ [y]).length = zs.length + 1 := by simp
    unfold GOwn
    rw [e1, List.map_append]
    exact hown'

/-- What a region holds that reads a text by a name, both in memory. -/
def SR (W : World) (gn j ga i : Nat) (x z : ByteArray) (u : World) : Prop := u.cell? ⟨gn, j, none⟩ = some (.string x) ∧ (u.cell? ⟨ga, i, none⟩ = some (.string z) ∧ Q W u)
theorem SR.go {W u u' : World} {gn j ga i : Nat} {x z : ByteArray} (h : SR W gn j ga i x z u) (hn : gn < W.heap.size) (ha : ga < W.heap.size) (q : Q u u') : SR W gn j ga i x z u' :=
  ⟨(World.cell?_of_block (w := u) (q.block (Nat.lt_of_lt_of_le hn h.2.2.le))).trans h.1, (World.cell?_of_block (w := u) (q.block (Nat.lt_of_lt_of_le ha h.2.2.le))).trans h.2.1, h.2.2.trans q⟩
theorem readS (W : World) (gn j ga i : Nat) (x z : ByteArray) (hn : gn < W.heap.size) (ha : ga < W.heap.size) (hx : x.size ≤ 1000) (hz : z.size ≤ 1000) (u : World) (h : SR W gn j ga i x z u) :
    Calls Try.prog 25 #[.string x, .string z] u fun e w' => ∃ v, e = .returned (.tuple #[v, .int .i64 (rdE (nz x.data.toList) (allL z.data.toList))]) ∧ Lst w' v (rdL (nz x.data.toList) (allL z.data.toList)) ∧ SR W gn j ga i x z w' := by
  refine (read_any x z u (by unfold maxLen; omega) (by omega)).mono ?_
  rintro e w' ⟨v, rfl, hv, hq⟩
  exact ⟨v, rfl, hv.lst, h.go hn ha hq⟩
theorem rreadS (W : World) (gn j ga i : Nat) (x z : ByteArray) (hn : gn < W.heap.size) (ha : ga < W.heap.size) (hz : z.size ≤ 1000) (v0 : Value) (L0 : List Int) (u : World) (h : SR W gn j ga i x z u) (h0 : Lst u v0 L0) :
    Calls Try.prog 27 #[.string x, .string z] u fun e w' => ∃ v, e = .returned (.tuple #[v, .int .i64 (rdE (nz x.data.toList) (allL z.data.toList))]) ∧ Lst w' v (rdL (nz x.data.toList) (allL z.data.toList)) ∧ Lst w' v0 L0 ∧ SR W gn j ga i x z w' := by
  refine (Sr.read_any x z u (by omega)).mono ?_
  rintro e w' ⟨v, rfl, hv, hq⟩
  exact ⟨v, rfl, hv.lst, h0.q hq, h.go hn ha hq⟩
theorem rd_same (x z : ByteArray) (hz : z.size ≤ 1000) (va vb : Value) (w : World) (ha : Lst w va (rdL (nz x.data.toList) (allL z.data.toList))) (hb : Lst w vb (rdL (nz x.data.toList) (allL z.data.toList))) :
    Calls Try.prog 26 #[va, vb] w fun e w' => e = .returned (.bool true) ∧ Q w w' := by
  have hl := rdL_len (nz x.data.toList) (allL z.data.toList)
  have hm := marks_length z.data.toList
  rw [size_list] at hm
  have hc : (allL z.data.toList).length ≤ 1000 := by unfold allL; simp; omega
  refine (Ur.same_any va vb _ _ w ha hb (by omega) (by omega)).mono ?_
  rintro e w' ⟨rfl, hq⟩
  exact ⟨retB (decide_eq_true rfl), hq⟩
theorem wrapI {x : Int} (h0 : -9223372036854775808 ≤ x) (h1 : x ≤ 9223372036854775807) : IntKind.i64.wrap x = x := by
  rw [IntKind.wrap_i64]; omega

end Sy
end Go.Proofs.Ytaonjhhpiihejaa
