/- What the listed variables give a walk, and a world in which they lie so. -/
import Derived.Test.YtfnojkcklgmoiaaDoorRows
import Derived.Test.YtfnojkcklgmoiaaDoorErrL
import Derived.ChangeSame
import Derived.ChangeVars
import Derived.JoinedOf
import Derived.RowKit
import Derived.RowKitTokens
import Derived.LaidLaws
import Derived.LaidHandle
import Derived.Stop.Joined
import Derived.Lib.LaidTab
import Derived.Stop.LaidErr
import Derived.SliceStrings
import Derived.OpenShut
set_option linter.unusedVariables false
set_option linter.unusedSimpArgs false
namespace Go.Proofs.YtfnojkcklgmoiaaDoor
open Go.ChangeShapes Go.WideShapes Go.RowKit

/-- The variables that the rows list. -/
def laidL : List (String × DataW Unit) := [("math/bits.deBruijn32tab", Rows.laid_math_bits_deBruijn32tab), ("math/bits.deBruijn64tab", Rows.laid_math_bits_deBruijn64tab), ("internal/strconv.uint64pow10", Rows.laid_internal_strconv_uint64pow10), ("errors.errorType", Rows.laid_errors_errorType)]
theorem laidNone : (laidL.filter fun x => x.2.handleName?.isNone) = [("math/bits.deBruijn32tab", Rows.laid_math_bits_deBruijn32tab), ("math/bits.deBruijn64tab", Rows.laid_math_bits_deBruijn64tab), ("internal/strconv.uint64pow10", Rows.laid_internal_strconv_uint64pow10)] := by kernel_rfl
theorem laidSome : (laidL.filter fun x => x.2.handleName?.isSome) = [("errors.errorType", Rows.laid_errors_errorType)] := by kernel_rfl
theorem etNo : Tryd.prog.globalNamed "errors.errorType" = some 0 := by kernel_rfl
theorem rtNo : (Tryd.prog.cutTypes.find? (·.1 == "internal/reflectlite.rtype")).map (·.2) = some 82 := by kernel_rfl
theorem oneRow : ((List.range (244 - 100)).filter fun t => Tryd.prog.rowNamed t [101, 114, 114, 111, 114]) = [24] := by kernel_rfl
theorem typesNo : Tryd.prog.types.size = 244 - 100 := by kernel_rfl
theorem powTy : (Tryd.prog.globals[2]?).map (·.type) = some 108 := by kernel_rfl

theorem env_of_laid {W : World} (h : laidMetH Tryd.prog laidL W) : Fe.Env W := by
  unfold laidMetH at h
  rw [laidSome, laidNone] at h
  obtain ⟨hd, hh⟩ : laidMet Tryd.prog _ W ∧ handlesMet Tryd.prog [("errors.errorType", Rows.laid_errors_errorType)] W := h
  refine ⟨?_, ?_⟩
  · obtain ⟨name, u, ty, e1, e2, e3, e4, e5⟩ := hh _ (List.mem_singleton.2 rfl)
    have en : name = [101, 114, 114, 111, 114] := (Option.some.inj e1).symm
    subst en
    obtain rfl := Option.some.inj (rtNo.symm.trans e2)
    have hm : ty ∈ (List.range (244 - 100)).filter fun t => Tryd.prog.rowNamed t [101, 114, 114, 111, 114] := List.mem_filter.2 ⟨List.mem_range.2 (by rw [← typesNo]; exact e3), e4⟩
    rw [oneRow] at hm
    obtain rfl := List.mem_singleton.1 hm
    have hh : typeHandle Tryd.prog 24 = .pointer (some ⟨5, 24, none⟩) := by kernel_rfl
    rw [hh] at e5
    unfold Fe.Handle
    simpa using World.var?_cell etNo e5 0
  · have h3 : laidMet Tryd.prog [("internal/strconv.uint64pow10", Lib.tabData .u64 Lib.pow10Tab)] W := hd.tail.tail
    exact Lib.tabIs_of_head Fe.tabNo powTy Tryd.underlying108 Tryd.underlying101 (by kernel_rfl) (by kernel_rfl) h3

/-- A world that meets the condition: the settled one, the variables laid. -/
def numsOf : DataW Unit → Array Value
  | .agg parts => (parts.map fun d => match d with | .lit (.int k n) => Value.int k n | _ => Value.nilIface).toArray
  | _ => #[]
noncomputable def laidWorld (os : Os) : World :=
  let w0 := World.holding Tryd.prog os ⟨#[], #[], []⟩
  let put := fun (h : Array Obj) (g : Nat) (cs : Array Value) => h.modify g fun
      | .cells _ t frozen => .cells cs t frozen
      | o => o
  { w0 with heap := put (put (put (put w0.heap 0 #[.iface 82 (.agg #[.pointer (some ⟨5, 24, none⟩)])])
      2 (numsOf Rows.laid_internal_strconv_uint64pow10)) 3 (numsOf Rows.laid_math_bits_deBruijn32tab)) 4 (numsOf Rows.laid_math_bits_deBruijn64tab) }
theorem laidWorld_met (os : Os) (args : Array Value) : laidMetH Tryd.prog laidL ((laidWorld os).forCall (fun _ _ => 0) ⟨#[], args, []⟩).memory := by
  refine laidMetH_of_parts ?_ (by kernel_rfl)
  rw [laidNone]
  exact laidMet_of_run' 8 (by kernel_rfl) (by kernel_rfl)

/-- A list of texts that came in, as the row's frame tells it. -/
def IsTexts (w : World) (a : Option Addr) (len cap : Nat) (ss : List ByteArray) : Prop :=
  (a = none ∧ len = 0 ∧ cap = 0 ∧ ss = []) ∨
  ∃ x, a = some x ∧ len ≤ cap ∧ cap ≤ maxLen ∧ ss.length = cap ∧ (∀ i, i < ss.length → w.cell? (x.add i) = some (.string (ss.getD i ByteArray.empty))) ∧ ∀ s ∈ ss, s.size ≤ maxLen
theorem texts_at {w : World} {a : Addr} {ss : List ByteArray} (h : ∀ i, i < ss.length → w.cell? (a.add i) = some (.string (ss.getD i ByteArray.empty))) (hp : 0 < ss.length) :
    ∃ b off, a = ⟨b, off, none⟩ ∧ ∀ j, j < ss.length → w.cell? ⟨b, off + j, none⟩ = some (.string (ss.getD j ByteArray.empty)) := by
  obtain ⟨b, off, spot⟩ := a
  have hspot : spot = none := by simpa [Addr.add] using World.cell?_spot (h 0 hp)
  subst hspot
  exact ⟨b, off, rfl, fun j hj => by rw [← Go.WideShapes.add_plain]; exact h j hj⟩
theorem IsTexts.lst {w : World} {a : Option Addr} {len cap : Nat} {ss : List ByteArray} (h : IsTexts w a len cap ss) :
    ∃ xs, SLst w (.slice a len cap) xs ∧ xs.length = len ∧ xs.length ≤ maxLen ∧ ∀ s ∈ xs, s.size ≤ maxLen := by
  rcases h with ⟨rfl, rfl, rfl, rfl⟩ | ⟨x, rfl, h1, h2, h3, hc, hw⟩
  · exact ⟨[], .nil _ _ _ _ (by unfold maxLen; omega) (fun _ => rfl), rfl, by simp, by simp⟩
  · by_cases h0 : len = 0
    · subst h0
      exact ⟨[], .nil _ _ _ _ h2 (fun h => by cases h), rfl, by simp, by simp⟩
    · obtain ⟨b, off, rfl, hcc⟩ := texts_at hc (by omega)
      have hl : (ss.take len).length = len := by simp; omega
      refine ⟨ss.take len, .inr ⟨b, off, cap, by rw [hl], ?_, by omega, h2, fun i s hi => ?_⟩, hl, by omega, fun n hn => hw n (List.mem_of_mem_take hn)⟩
      · have := hcc 0 (by omega)
        exact World.block_lt_of_cell? _ _ this
      · have hil : i < len := by have := (List.getElem?_eq_some_iff.1 hi).1; omega
        rw [hcc i (by omega)]
        rw [List.getElem?_take, if_pos hil] at hi
        rw [List.getD_eq_getElem?_getD, hi]; rfl

end Go.Proofs.YtfnojkcklgmoiaaDoor
