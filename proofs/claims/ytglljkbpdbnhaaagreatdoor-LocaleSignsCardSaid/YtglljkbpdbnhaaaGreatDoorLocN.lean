/- A name of small letters. -/
import Derived.Test.YtglljkbpdbnhaaaGreatDoorRows
import Derived.Test.YtglljkbpdbnhaaaGreatDoorMA
import Derived.Test.YtglljkbpdbnhaaaGreatDoorMB
import Derived.Test.YtglljkbpdbnhaaaGreatDoorLocM
import Derived.Lib.ConvBytes
set_option linter.unusedVariables false
set_option linter.unusedSimpArgs false
namespace Go.Proofs.YtglljkbpdbnhaaaGreatDoor
open Go.RowKit
namespace Lo
open Um Cm Gm


theorem Q.bytes (w : World) (e : TypeId) (s : ByteArray) : Q w (Lib.bytesWorld w e s) :=
  ⟨rfl, rfl, rfl, by rw [Lib.bytesWorld_size]; omega, fun k hk => Lib.bytesWorld_at_old w e s k hk⟩
set_option maxHeartbeats 2000000 in
theorem named_ok (s : ByteArray) (w : World) (h1 : 1 ≤ s.size) (h16 : s.size ≤ 16) (hl : ∀ b ∈ s.data.toList, (97 ≤ b.toNat ∧ b.toNat ≤ 122) ∨ (65 ≤ b.toNat ∧ b.toNat ≤ 90) ∨ b.toNat = 45) :
    Calls Tryz.prog 60 #[.string s] w fun e w' => e = .returned (.bool true) ∧ Q w w' := by
  obtain ⟨n, hn⟩ : ∃ n, n = s.size := ⟨_, rfl⟩
  have h1i : (0 : Int) < (n : Int) := by omega
  have h16i : (n : Int) ≤ 16 := by omega
  have hcv := Lib.run_convert_string_bytes (P := Tryz.prog) w 9 126 5 s (u := .string) Tryz.underlying9 Tryz.underlying126 Tryz.underlying5
  have HC := Lib.hid (show ∀ k, k < n → ∃ b : Nat, ((97 ≤ b ∧ b ≤ 122) ∨ (65 ≤ b ∧ b ≤ 90) ∨ b = 45) ∧ (Lib.bytesWorld w 5 s).cell? ⟨w.heap.size, k, none⟩ = some (.int .u8 (b : Int)) from fun k hk => by
    have hm : s.data.toList.getD k 0 ∈ s.data.toList := by
      have hks : k < s.data.toList.length := by rw [size_list]; omega
      rw [List.getD_eq_getElem?_getD, List.getElem?_eq_getElem hks]
      exact List.getElem_mem _
    exact ⟨_, hl _ hm, Lib.bytesWorld_cell w 5 s k (by omega)⟩)
  have HQ := Lib.hid (Q.bytes w 5 s)
  have HLT := Lib.hid (show w.heap.size < (Lib.bytesWorld w 5 s).heap.size by rw [Lib.bytesWorld_size]; omega)
  generalize Lib.bytesWorld w 5 s = z at *
  generalize grownCap w s.size 0 5 = cp at *
  have HN := Lib.hid hn
  rw [← hn] at hcv
  generalize w.heap.size = g at *
  clear hl h1 h16 hn
  go_enter Tryz.func60, Tryz.ntmps60
  go_wp2_with fail
  go_loopw [9] (fun i wr => ∃ k : Nat, i = .int .i64 k ∧ k ≤ n ∧ z = wr) (fun i _ => n - (intOf i).toNat)
  case atStart => exact ⟨0, rfl, by omega, rfl⟩
  case round =>
    obtain ⟨k, rfl, hk, rfl⟩ := hrel
    by_cases hlt : k < n
    · have hlti : (k : Int) < (n : Int) := by omega
      obtain ⟨b, hb, c1⟩ := HC.out k hlt
      rcases hb with ⟨hb1, hb2⟩ | ⟨hb1, hb2⟩ | hb
      · have hb1i : (97 : Int) ≤ (b : Int) := by omega
        have hb2i : (b : Int) ≤ 122 := by omega
        go_wp2_with fail
        exact ⟨⟨k + 1, by go_num, by omega, (by first | trivial | rfl)⟩, by simp [intOf]; omega⟩
      · have hb1i : (65 : Int) ≤ (b : Int) := by omega
        have hb2i : (b : Int) ≤ 90 := by omega
        have hb3i : ¬ (97 : Int) ≤ (b : Int) := by omega
        go_wp2_with fail
        exact ⟨⟨k + 1, by go_num, by omega, (by first | trivial | rfl)⟩, by simp [intOf]; omega⟩
      · subst hb
        go_wp2_with fail
        exact ⟨⟨k + 1, by go_num, by omega, (by first | trivial | rfl)⟩, by simp [intOf]; omega⟩
    · have hnlt : ¬ (k : Int) < (n : Int) := by omega
      have hz1 : (0 : Int) < (s.size : Int) := by have := HN.out; omega
      have hz2 : (s.size : Int) ≤ 16 := by have := HN.out; omega
      clear h1i h16i hcv
      go_wp2_with fail
      go_ret
      exact ⟨rfl, HQ.out⟩

end Lo
end Go.Proofs.YtglljkbpdbnhaaaGreatDoor
