/- What package digit's mayAll, Sub and Times come to, by a walk through each. -/
import Derived.Test.YtagpofhencpliaaRows
import Derived.Test.YtagpofhencpliaaDigL
import Derived.Test.YtagpofhencpliaaInts
import Derived.Test.YtagpofhencpliaaSto
import Derived.Test.YtagpofhencpliaaDigW
import Derived.Test.YtagpofhencpliaaDigV
import Derived.Test.YtagpofhencpliaaDigT
import Derived.Deep.QuietTactic
import Derived.Deep.RegionWith
import Derived.BigQuiet
set_option linter.unusedVariables false
set_option linter.unusedSimpArgs false
namespace Go.Proofs.Ytagpofhencpliaa
open Go.RowKit
namespace Dw

/-- Whether all are lists of digits. -/
def okA (ls : List Sl) : Bool := ls.all fun s => Dm.okB s.zs
theorem okA_bad (ls : List Sl) (k : Nat) (s : Sl) (h : ls[k]? = some s) (hb : Dm.okB s.zs = false) : okA (ls.drop k) = false := by
  have hk := (List.getElem?_eq_some_iff.1 h).1
  rw [List.getElem?_eq_getElem hk] at h
  rw [List.drop_eq_getElem_cons hk, Option.some.inj h]
  simp [okA, hb]
theorem okA_on (ls : List Sl) (k : Nat) (s : Sl) (h : ls[k]? = some s) (hb : Dm.okB s.zs = true) : okA (ls.drop k) = okA (ls.drop (k + 1)) := by
  have hk := (List.getElem?_eq_some_iff.1 h).1
  rw [List.getElem?_eq_getElem hk] at h
  rw [List.drop_eq_getElem_cons hk, Option.some.inj h]
  simp [okA, hb]

/-- Two lists handed on as the rest of a variadic call. -/
theorem two_ll {w : World} {va vb : Value} {xs ys : List Int} (ha : Lst w va xs) (hb : Lst w vb ys) :
    ∃ s t : Sl, va = s.v ∧ vb = t.v ∧ s.zs = xs ∧ t.zs = ys ∧ LL (w.alloc (.cells #[va, vb] 22)) (.slice (some ⟨w.heap.size, 0, none⟩) 2 2) [s, t] := by
  obtain ⟨s, rfl, rfl, hs⟩ := ha.sl
  obtain ⟨t, rfl, rfl, ht⟩ := hb.sl
  refine ⟨s, t, rfl, rfl, rfl, rfl, GLst.made Sl.v 22 w [s, t] 2 rfl (by unfold maxLen; omega), ?_⟩
  intro u hu
  have hq : Q w (w.alloc (.cells #[s.v, t.v] 22)) := (Q.refl w).alloc _
  rcases List.mem_cons.1 hu with rfl | hu
  · exact hs.q hq
  · rcases List.mem_cons.1 hu with rfl | hu
    · exact ht.q hq
    · cases hu

end Dw
end Go.Proofs.Ytagpofhencpliaa
