/- What Join and Clean answer. -/
import Derived.Test.YtmbmopiicofhdaaRows
import Derived.Test.YtmbmopiicofhdaaUtfM
import Derived.Test.YtmbmopiicofhdaaInts
import Derived.Test.YtmbmopiicofhdaaBld
import Derived.Test.YtmbmopiicofhdaaUtfW
set_option linter.unusedVariables false
set_option linter.unusedSimpArgs false
namespace Go.Proofs.Ytmbmopiicofhdaa
open Go.RowKit Um

set_option maxHeartbeats 800000 in
theorem join_any (v : Value) (xs : List Int) (w : World) (hv : Lst w v xs) (hx : xs.length ≤ 1073741824) :
    Calls Try.prog 28 #[v] w fun e w' => e = .returned (.string ⟨(joinL xs).toArray⟩) ∧ Q w w' := by
  obtain ⟨a, c, rfl⟩ := hv.shape
  have hfr := Bl.Is.fresh w
  go_enter Try.func28, Try.ntmps28
  go_wp2_with fail
  go_loopw [8] (fun i wr => ∃ k : Nat, i = .int .i64 k ∧ k ≤ xs.length ∧ Bl.Is w.heap.size w.heap.size (Lib.byteCells (joinL (xs.take k))) wr ∧ Q w wr) (fun i _ => xs.length - (intOf i).toNat)
  case atStart => exact ⟨0, rfl, by omega, hfr, (Q.refl _).alloc _⟩
  case round =>
    obtain ⟨k, rfl, hk, hI, hq⟩ := hrel
    have hjl := joinL_length (xs.take k)
    have hjk : (xs.take k).length ≤ k := List.length_take_le _ _
    have hqs := hq.le
    by_cases hlt : k < xs.length
    · rcases hv with ⟨rfl, _⟩ | ⟨g, off, cap, hvv, hg, _, _, hca⟩
      · simp at hlt
      cases hvv
      have c1 : wr.cell? ⟨g, off + k, none⟩ = some (.int .i64 (xs.getD k 0)) := (World.cell?_of_block (w := w) (hq.block hg)).trans (hca k hlt)
      have hjt := joinL_take xs k hlt
      generalize hgx : xs.getD k 0 = p at c1 hjt
      have HX := Lib.hid hgx
      have HJ := Lib.hid hjt
      clear hgx hjt hfr
      cases hvp : vld p
      · have hm := fun w => may_any p w
        rw [hvp] at hm
        have HM := Lib.hid hm
        have h1 := Lib.hid (one_spoilt hvp)
        have hz := encB_size 65533
        clear hm hvp
        go_wp2_with (first
          | (go_at_call 39; refine (HM.out _).mono ?_; rintro e w' ⟨rfl, rfl⟩)
          | (go_at_call 27; refine (encode_any _ _).mono ?_; rintro e w' ⟨rfl, rfl⟩)
          | (go_at_call 40; refine (Bl.write_any _ _ _ _ _ hI (by rw [Bl.cells_length]; omega) hqs).mono ?_; rintro e w' ⟨rfl, hI2, hb2, _⟩))
        exact ⟨⟨k + 1, by go_num, by omega, by rw [HJ.out, h1.out]; exact hI2.write, Below.trans hq hb2⟩, by simp [intOf]; omega⟩
      · have hm := fun w => may_any p w
        rw [hvp] at hm
        have HM := Lib.hid hm
        have h1 := Lib.hid (one_enc hvp)
        have hz := encB_size p
        clear hm hvp
        go_wp2_with (first
          | (go_at_call 39; refine (HM.out _).mono ?_; rintro e w' ⟨rfl, rfl⟩)
          | (go_at_call 27; refine (encode_any _ _).mono ?_; rintro e w' ⟨rfl, rfl⟩)
          | (go_at_call 40; refine (Bl.write_any _ _ _ _ _ hI (by rw [Bl.cells_length]; omega) hqs).mono ?_; rintro e w' ⟨rfl, hI2, hb2, _⟩))
        exact ⟨⟨k + 1, by go_num, by omega, by rw [HJ.out, h1.out]; exact hI2.write, Below.trans hq hb2⟩, by simp [intOf]; omega⟩
    · have hke : xs.take k = xs := List.take_of_length_le (by omega)
      rw [hke] at hI
      clear hke hjk
      go_wp2_with (go_at_call 41; refine (Bl.done_any _ _ _ _ hI hqs).mono ?_; rintro e w' ⟨rfl, hb2⟩)
      go_ret
      exact ⟨rfl, Below.trans hq hb2⟩

end Go.Proofs.Ytmbmopiicofhdaa
