/- What package digit's Sum comes to, by a walk through it. -/
import Derived.Test.YtagpofhencpliaaRows
import Derived.Test.YtagpofhencpliaaDigL
import Derived.Test.YtagpofhencpliaaInts
import Derived.Test.YtagpofhencpliaaSto
import Derived.Test.YtagpofhencpliaaDigW
import Derived.Test.YtagpofhencpliaaDigT
import Derived.Test.YtagpofhencpliaaDigX
import Derived.Deep.QuietTactic
import Derived.Deep.RegionWith
import Derived.Deep.AppendLies
import Derived.BigQuiet
set_option linter.unusedVariables false
set_option linter.unusedSimpArgs false
namespace Go.Proofs.Ytagpofhencpliaa
open Go.RowKit
namespace Dm
/-- Numbers from 0 to c, the first i of them to c + 9. -/
def BD (c : Int) (i : Nat) (zs : List Int) : Prop := ∀ j, j < zs.length → 0 ≤ zs.getD j 0 ∧ zs.getD j 0 ≤ c + (if j < i then 9 else 0)
theorem BD.step {c : Int} {i : Nat} {zs : List Int} (h : BD c i zs) (d : Int) (hd : 0 ≤ d ∧ d ≤ 9) (hi : i < zs.length) : BD c (i + 1) (zs.set i (zs.getD i 0 + d)) := by
  intro j hj
  rw [List.length_set] at hj
  rw [getD_set _ _ _ _ hi]
  have h1 := h j hj
  have h2 := h i hi
  by_cases hij : i = j
  · subst hij
    rw [if_pos rfl, if_pos (by omega)]
    rw [if_neg (by omega)] at h2
    omega
  · rw [if_neg hij]
    by_cases hlt : j < i
    · rw [if_pos hlt] at h1
      rw [if_pos (by omega)]; exact h1
    · rw [if_neg hlt] at h1
      rw [if_neg (by omega)]; exact h1
theorem BD.next {c : Int} {i : Nat} {zs : List Int} (h : BD c i zs) : BD (c + 9) 0 zs := by
  intro j hj
  have h1 := h j hj
  rw [if_neg (by omega)]
  by_cases hlt : j < i
  · rw [if_pos hlt] at h1; omega
  · rw [if_neg hlt] at h1; omega
theorem BD.zeros (n : Nat) : BD 0 0 (List.replicate n 0) := by
  intro j hj
  rw [List.getD_eq_getElem?_getD, List.getElem?_replicate]
  rw [List.length_replicate] at hj
  rw [if_pos hj]; simp
theorem BD.mem {c : Int} {zs : List Int} (h : BD c 0 zs) (hc : c ≤ 100000) : ∀ x ∈ zs, -100000 ≤ x ∧ x ≤ 100000 := by
  intro x hx
  obtain ⟨j, hj, rfl⟩ := List.mem_iff_getElem.1 hx
  have h1 := h j hj
  rw [List.getD_eq_getElem?_getD, List.getElem?_eq_getElem hj, if_neg (by omega)] at h1
  simp at h1
  omega
end Dm
namespace Dw
/-- All numbers together. -/
def sumN (ls : List Sl) : Nat := (ls.map fun s => Dm.num s.zs).sum
theorem sumN_take (ls : List Sl) (k : Nat) (s : Sl) (h : ls[k]? = some s) : sumN (ls.take (k + 1)) = sumN (ls.take k) + Dm.num s.zs := by
  have hk := (List.getElem?_eq_some_iff.1 h).1
  rw [List.getElem?_eq_getElem hk] at h
  unfold sumN
  rw [List.take_succ_eq_append_getElem hk, Option.some.inj h, List.map_append, List.sum_append]
  simp

end Dw
end Go.Proofs.Ytagpofhencpliaa
