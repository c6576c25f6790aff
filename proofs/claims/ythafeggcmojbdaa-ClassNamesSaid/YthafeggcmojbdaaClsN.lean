/- The classes' names. -/
import Derived.Test.YthafeggcmojbdaaRows
import Derived.Test.YthafeggcmojbdaaInts
import Derived.ShutString
import Derived.Deep.RegionHeld3
import Derived.Deep.RegionWith
set_option linter.unusedVariables false
set_option linter.unusedSimpArgs false
namespace Go.Proofs.Ythafeggcmojbdaa
open Go.RowKit

/-- The names of 0 to 14. -/
def nms : List ByteArray := [⟨#[79, 116, 104, 101, 114]⟩, ⟨#[67, 82]⟩, ⟨#[76, 70]⟩, ⟨#[67, 111, 110, 116, 114, 111, 108]⟩, ⟨#[69, 120, 116, 101, 110, 100]⟩, ⟨#[90, 87, 74]⟩, ⟨#[82, 101, 103, 105, 111, 110, 97, 108]⟩, ⟨#[80, 114, 101, 112, 101, 110, 100]⟩, ⟨#[83, 112, 97, 99, 105, 110, 103]⟩, ⟨#[72, 97, 110, 103, 117, 108, 76]⟩, ⟨#[72, 97, 110, 103, 117, 108, 86]⟩, ⟨#[72, 97, 110, 103, 117, 108, 84]⟩, ⟨#[72, 97, 110, 103, 117, 108, 76, 86]⟩, ⟨#[72, 97, 110, 103, 117, 108, 76, 86, 84]⟩, ⟨#[80, 105, 99, 116, 111]⟩]
def nameB (k : Int) : ByteArray := if 0 ≤ k ∧ k < 15 then nms.getD k.toNat ⟨#[]⟩ else ⟨#[]⟩
theorem nameB_nat {m : Nat} (h : m < 15) : nameB m = nms.getD m ⟨#[]⟩ := by unfold nameB; rw [if_pos (by omega)]; rfl
theorem nameB_none {k : Int} (h : ¬ (0 ≤ k ∧ k < 15)) : nameB k = ⟨#[]⟩ := by unfold nameB; exact if_neg h
theorem nms_apart : ∀ i : Fin 15, ∀ j : Fin 15, ((nms.getD i.1 ⟨#[]⟩).data.toList == (nms.getD j.1 ⟨#[]⟩).data.toList) = (i.1 == j.1) := by decide +kernel
theorem nms_some : ∀ i : Fin 15, (nms.getD i.1 ⟨#[]⟩).data.toList.isEmpty = false := by decide +kernel
theorem nameB_apart {i j : Nat} (hi : i < 15) (hj : j < 15) : ((nameB i).toList == (nameB j).toList) = (i == j) := by
  rw [nameB_nat hi, nameB_nat hj, ByteArray.toList_eq, ByteArray.toList_eq]; exact nms_apart ⟨i, hi⟩ ⟨j, hj⟩
theorem nameB_some {i : Nat} (hi : i < 15) : (nameB i).toList.isEmpty = false := by
  rw [nameB_nat hi, ByteArray.toList_eq]; exact nms_some ⟨i, hi⟩
theorem nms_cell (w : World) (t : TypeId) (m : Nat) (h : m < 15) : (w.alloc (.cells (nms.map Value.string).toArray t)).cell? ⟨w.heap.size, m, none⟩ = some (.string (nms.getD m ⟨#[]⟩)) := by
  rw [World.cell?_alloc_at _ _ _ _ rfl]
  simp only [List.getElem?_toArray, List.getElem?_map]
  rw [List.getElem?_eq_getElem (show m < nms.length from h), List.getD_eq_getElem?_getD, List.getElem?_eq_getElem (show m < nms.length from h)]
  rfl

set_option maxHeartbeats 800000 in
theorem name_any (k : Int) (w : World) :
    Calls Try.prog 18 #[.int .i64 k] w fun e w' => e = .returned (.string (nameB k)) ∧ Q w w' := by
  by_cases h0 : 0 ≤ k
  · by_cases h1 : k < 15
    · obtain ⟨m, rfl⟩ : ∃ m : Nat, k = m := ⟨k.toNat, by omega⟩
      have hm : m < 15 := by omega
      have hc := fun t => nms_cell w t m hm
      simp only [nms, List.map_cons, List.map_nil] at hc
      have HN := Lib.hid (nameB_nat hm)
      obtain ⟨s, hs⟩ : ∃ s, s = nameB m := ⟨_, rfl⟩
      have hc2 : ∀ t, (w.alloc (.cells #[.string ⟨#[79, 116, 104, 101, 114]⟩, .string ⟨#[67, 82]⟩, .string ⟨#[76, 70]⟩, .string ⟨#[67, 111, 110, 116, 114, 111, 108]⟩, .string ⟨#[69, 120, 116, 101, 110, 100]⟩, .string ⟨#[90, 87, 74]⟩, .string ⟨#[82, 101, 103, 105, 111, 110, 97, 108]⟩, .string ⟨#[80, 114, 101, 112, 101, 110, 100]⟩, .string ⟨#[83, 112, 97, 99, 105, 110, 103]⟩, .string ⟨#[72, 97, 110, 103, 117, 108, 76]⟩, .string ⟨#[72, 97, 110, 103, 117, 108, 86]⟩, .string ⟨#[72, 97, 110, 103, 117, 108, 84]⟩, .string ⟨#[72, 97, 110, 103, 117, 108, 76, 86]⟩, .string ⟨#[72, 97, 110, 103, 117, 108, 76, 86, 84]⟩, .string ⟨#[80, 105, 99, 116, 111]⟩] t)).cell? ⟨w.heap.size, m, none⟩ = some (.string s) := by
        intro t; rw [hs, HN.out]; exact hc t
      have HS := Lib.hid hs
      clear hc hs HN
      go_enter Try.func18, Try.ntmps18
      go_wp2_with fail
      go_ret
      rw [← HS.out]
      exact ⟨rfl, (Q.refl _).alloc _⟩
    · have HF := Lib.hid (nameB_none (k := k) (by omega))
      go_enter Try.func18, Try.ntmps18
      go_wp2_with fail
      go_ret
      rw [HF.out]
      exact ⟨rfl, (Q.refl _).alloc _⟩
  · have HF := Lib.hid (nameB_none (k := k) (by omega))
    go_enter Try.func18, Try.ntmps18
    go_wp2_with fail
    go_ret
    rw [HF.out]
    exact ⟨rfl, (Q.refl _).alloc _⟩

end Go.Proofs.Ythafeggcmojbdaa
