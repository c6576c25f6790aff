/- The document's own Join, and the document's example. -/
import Derived.Test.YtoojfpkmgiemoaaGreatDoorRows
import Derived.Test.YtoojfpkmgiemoaaGreatDoorMB
import Derived.Test.YtoojfpkmgiemoaaGreatDoorMA
import Derived.Test.YtoojfpkmgiemoaaGreatDoorMC
set_option linter.unusedVariables false
set_option linter.unusedSimpArgs false
namespace Go.Proofs.YtoojfpkmgiemoaaGreatDoor
open Go.RowKit Um

theorem app_eq (a : List UInt8) (b : ByteArray) : (⟨a.toArray⟩ : ByteArray) ++ b = ⟨(a ++ b.data.toList).toArray⟩ := by
  apply ba_ext
  rw [ByteArray.data_append]
  simp

set_option maxHeartbeats 800000 in
theorem Ur.join_any (v : Value) (xs : List Int) (w : World) (hv : Lst w v xs) (hx : xs.length ≤ 1073741824) :
    Calls Tryz.prog 26 #[v] w fun e w' => e = .returned (.string ⟨(joinL xs).toArray⟩) ∧ Q w w' := by
  obtain ⟨a, c, rfl⟩ := hv.shape
  go_enter Tryz.func26, Tryz.ntmps26
  go_wp2_with fail
  go_loopw [3, 4] (fun s i wr => ∃ k : Nat, i = .int .i64 k ∧ k ≤ xs.length ∧ s = .string ⟨(joinL (xs.take k)).toArray⟩ ∧ Q w wr) (fun _ i _ => xs.length - (intOf i).toNat)
  case atStart => exact ⟨0, rfl, by omega, rfl, Q.refl _⟩
  case round =>
    obtain ⟨k, rfl, hk, rfl, hq⟩ := hrel
    by_cases hlt : k < xs.length
    · rcases hv with ⟨rfl, _⟩ | ⟨g, off, cap, hvv, hg, _, _, hca⟩
      · simp at hlt
      cases hvv
      have c1 : wr.cell? ⟨g, off + k, none⟩ = some (.int .i64 (xs.getD k 0)) := (World.cell?_of_block (w := w) (hq.block hg)).trans (hca k hlt)
      have hjt := joinL_take xs k hlt
      have hjl := joinL_length (xs.take k)
      have hjk : (xs.take k).length ≤ k := List.length_take_le _ _
      have hsz : (⟨(joinL (xs.take k)).toArray⟩ : ByteArray).size ≤ 4294967296 := by
        rw [← size_list]; simp; omega
      generalize hgx : xs.getD k 0 = p at c1 hjt
      have HX := Lib.hid hgx
      have HJ := Lib.hid hjt
      clear hgx hjt
      generalize hS : (⟨(joinL (xs.take k)).toArray⟩ : ByteArray) = S at hsz
      have HS := Lib.hid hS
      clear hS hjl hjk
      have he : ∀ x : Int, one p = (encB x).data.toList → S ++ encB x = ⟨(joinL (xs.take (k + 1))).toArray⟩ := by
        intro x h
        rw [← HS.out, app_eq, HJ.out, h]
      have HE := Lib.hid he
      clear he
      cases hvp : vld p
      · have h1 := Lib.hid (one_spoilt hvp)
        have hz : ((encB p).toList == []) = true := by rw [Ur.toList_eq, encB_empty hvp]; rfl
        have hz1 : (encB p).toList.isEmpty = true := by rw [Ur.toList_eq, encB_empty hvp]; rfl
        have hsz2 := encB_size 65533
        clear hvp
        go_wp2_with fail
        refine (Ur.encode_any _ _).mono ?_
        rintro e w1 ⟨rfl, hq1⟩
        go_wp2_with fail
        refine (Ur.encode_any _ _).mono ?_
        rintro e w2 ⟨rfl, hq2⟩
        go_wp2_with fail
        exact ⟨⟨k + 1, by go_num, by omega, by rw [HE.out _ h1.out], (hq.trans hq1).trans hq2⟩, by simp [intOf]; omega⟩
      · have h1 := Lib.hid (one_enc hvp)
        have hz1 : (encB p).toList.isEmpty = false := by
          have := encB_some hvp
          rw [Ur.toList_eq]; simpa using this
        have hsz2 := encB_size p
        clear hvp
        go_wp2_with fail
        refine (Ur.encode_any _ _).mono ?_
        rintro e w1 ⟨rfl, hq1⟩
        go_wp2_with fail
        exact ⟨⟨k + 1, by go_num, by omega, by rw [HE.out _ h1.out], hq.trans hq1⟩, by simp [intOf]; omega⟩
    · have hke : xs.take k = xs := List.take_of_length_le (by omega)
      rw [hke]
      clear hke
      go_wp2_with fail
      go_ret
      exact ⟨rfl, hq⟩

theorem str_lit (l : List UInt8) (s : ByteArray) (h : s.data.toList = l) : s = ⟨l.toArray⟩ := by
  apply ba_ext; rw [h]

end Go.Proofs.YtoojfpkmgiemoaaGreatDoor
