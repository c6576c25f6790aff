/- What the document's own answers on characters and their bytes come to, by a walk through each. -/
import Derived.Test.YtagpofhencpliaaRows
import Derived.Test.YtagpofhencpliaaUtfM
import Derived.Test.YtagpofhencpliaaInts
import Derived.Test.YtagpofhencpliaaUtfG
import Derived.Deep.QuietTactic
import Derived.Deep.RegionWith
import Derived.BigQuiet
import Derived.ShutString
import Derived.Laws.BytesArg
set_option linter.unusedVariables false
set_option linter.unusedSimpArgs false
namespace Go.Proofs.Ytagpofhencpliaa
open Go.RowKit Um
namespace Ur
/-- A text's beginning. -/
def few (s : ByteArray) (n : Nat) : ByteArray := if n < s.size then s.extract 0 n else s
theorem few_size (s : ByteArray) (n : Nat) : (few s n).size ≤ n := by
  unfold few; split
  · simp; omega
  · omega
/-- A text of a new row of bytes. -/
theorem convN (w : World) (xs : List Int) (n : Nat) (hn : xs.length = n) :
    (convert 84 9 (.slice (some ⟨w.heap.size, 0, none⟩) n n)).run Try.prog (w.alloc (.cells (xs.map (Value.int .u8)).toArray 5)) = .ok (.string (strOfNums xs)) (w.alloc (.cells (xs.map (Value.int .u8)).toArray 5)) := by
  refine run_convert_bytes_arg _ 84 5 Try.underlying84 Try.underlying5 w.heap.size 0 n n xs hn ?_ 9 Try.underlying9
  intro i hi
  rw [World.cell?_alloc_at _ _ _ _ rfl, Nat.zero_add]
  simp only [List.getElem?_toArray, List.getElem?_map, List.getD_eq_getElem?_getD]
  rw [List.getElem?_eq_getElem (by omega)]; rfl
theorem strOfNums_enc {xs : List Int} {c : Int} (hv : vld c = true) (h : xs.map (fun n => UInt8.ofNat n.toNat) = enc c) : strOfNums xs = encB c := by
  apply ba_ext
  rw [strOfNums_data, encB_list c hv, h]
theorem ofNat_congr {a b : Nat} (h : a = b) : UInt8.ofNat a = UInt8.ofNat b := by rw [h]

theorem u8b (a : UInt8) : 0 ≤ (a.toNat : Int) ∧ (a.toNat : Int) ≤ 255 := by have := a.toNat_lt; omega
theorem extract_take (s : ByteArray) (k : Nat) : (s.extract 0 k).data.toList = s.data.toList.take k := by
  rw [ByteArray.data_extract, Array.toList_extract, List.extract_eq_take_drop]
  simp
theorem toList_eq (s : ByteArray) : s.toList = s.data.toList := ByteArray.toList_eq s

theorem extract_list (s : ByteArray) (pos : Nat) : (s.extract pos s.size).data.toList = s.data.toList.drop pos := by
  rw [ByteArray.data_extract, Array.toList_extract]
  have : s.size = s.data.toList.length := (size_list s).symm
  rw [List.extract_eq_take_drop, this, List.take_of_length_le (by simp)]

theorem Lst.cellAt {w : World} {g off cap : Nat} {zs : List Int} {k : Nat} (h : ∀ i, i < zs.length → w.cell? ⟨g, off + i, none⟩ = some (.int .i64 (zs.getD i 0))) (hk : k < zs.length) : w.cell? ⟨g, off + k, none⟩ = some (.int .i64 (zs.getD k 0)) := h k hk

set_option maxHeartbeats 800000 in
theorem same_any (va vb : Value) (xs ys : List Int) (w : World) (ha : Lst w va xs) (hb : Lst w vb ys) (hx : xs.length < 1099511627776) (hy : ys.length < 1099511627776) :
    Calls Try.prog 15 #[va, vb] w fun e w' => e = .returned (.bool (decide (xs = ys))) ∧ Q w w' := by
  by_cases hl : xs.length = ys.length
  · by_cases h0 : xs.length = 0
    · have hx0 : xs = [] := List.eq_nil_of_length_eq_zero h0
      have hy0 : ys = [] := List.eq_nil_of_length_eq_zero (by omega)
      subst hx0; subst hy0
      obtain ⟨a, c, rfl⟩ := ha.shape
      obtain ⟨b, d, rfl⟩ := hb.shape
      clear ha hb hl h0 hx hy
      go_enter Try.func15, Try.ntmps15
      go_wp2
      refine wp_loop_rounds 1 ?_
      rw [rounds_succ]
      go_wp2
      go_ret
      exact ⟨rfl, Q.refl _⟩
    · rcases ha with ⟨rfl, _⟩ | ⟨g, off, cap, rfl, hg, _, _, hca⟩
      · exact absurd rfl h0
      rcases hb with ⟨rfl, _⟩ | ⟨g2, off2, cap2, rfl, hg2, _, _, hcb⟩
      · exact absurd hl h0
      have HL := Lib.hid hl
      have hle : ((xs.length : Int) == (ys.length : Int)) = true := by rw [hl]; simp
      have hne : ((xs.length : Int) != (ys.length : Int)) = false := by rw [hl]; simp
      clear hl h0
      go_enter Try.func15, Try.ntmps15
      go_wp2
      go_loopw [5] (fun i wr => ∃ k : Nat, i = .int .i64 k ∧ k ≤ xs.length ∧ Q w wr ∧ xs.take k = ys.take k) (fun i _ => xs.length - (intOf i).toNat)
      case atStart => exact ⟨0, rfl, by omega, Q.refl _, by simp⟩
      case round =>
        obtain ⟨k, rfl, hk, hq, he⟩ := hrel
        have HE := Lib.hid he
        clear he
        by_cases hlt : k < xs.length
        · have c1 : wr.cell? ⟨g, off + k, none⟩ = some (.int .i64 (xs.getD k 0)) := (World.cell?_of_block (w := w) (hq.block hg)).trans (hca k hlt)
          have c2 : wr.cell? ⟨g2, off2 + k, none⟩ = some (.int .i64 (ys.getD k 0)) := (World.cell?_of_block (w := w) (hq.block hg2)).trans (hcb k (by rw [← HL.out]; exact hlt))
          have hky : (k : Int) < (ys.length : Int) := by rw [← HL.out]; omega
          have hkx : (k : Int) < (xs.length : Int) := by omega
          generalize hgx : xs.getD k 0 = p at c1
          generalize hgy : ys.getD k 0 = q at c2
          have HX := Lib.hid hgx
          have HY := Lib.hid hgy
          clear hgx hgy
          have hsx : xs.take (k + 1) = xs.take k ++ [p] := by
            rw [List.take_succ_eq_append_getElem hlt, ← HX.out, List.getD_eq_getElem?_getD, List.getElem?_eq_getElem hlt]; rfl
          have hly : k < ys.length := by rw [← HL.out]; exact hlt
          have hsy : ys.take (k + 1) = ys.take k ++ [q] := by
            rw [List.take_succ_eq_append_getElem hly, ← HY.out, List.getD_eq_getElem?_getD, List.getElem?_eq_getElem hly]; rfl
          have HSX := Lib.hid hsx
          have HSY := Lib.hid hsy
          clear hsx hsy
          by_cases hpq : p = q
          · have ht : (p != q) = false := by rw [hpq]; simp
            have HP := Lib.hid hpq
            clear hpq
            go_wp2_with fail
            go_quiet (fail)
            go_wp2_with fail
            exact ⟨⟨k + 1, by go_num, by omega, hq.drewN _, by rw [HSX.out, HSY.out, HE.out, HP.out]⟩, by simp [intOf]; omega⟩
          · have ht : (p != q) = true := by rw [bne_iff_ne]; exact hpq
            have HF : Hid (decide (xs = ys) = false) := Lib.hid (decide_eq_false (fun h => hpq (by
              have h1 := HX.out; have h2 := HY.out
              rw [← h1, ← h2, h])))
            clear hpq
            go_wp2_with fail
            go_quiet (fail)
            go_wp2_with fail
            go_ret
            rw [HF.out]
            exact ⟨rfl, hq.drewN _⟩
        · have HF : Hid (decide (xs = ys) = true) := Lib.hid (decide_eq_true (by
            have h1 := HE.out; have h2 := HL.out
            rw [List.take_of_length_le (by omega), List.take_of_length_le (by omega)] at h1
            exact h1))
          go_wp2_with fail
          go_ret
          rw [HF.out]
          exact ⟨rfl, hq⟩
  · have hne : ((xs.length : Int) == (ys.length : Int)) = false := by rw [beq_eq_false_iff_ne]; omega
    have hne2 : ((xs.length : Int) != (ys.length : Int)) = true := by rw [bne_iff_ne]; omega
    have HF : Hid (decide (xs = ys) = false) := Lib.hid (decide_eq_false (fun h => hl (by rw [h])))
    obtain ⟨a, c, rfl⟩ := ha.shape
    obtain ⟨b, d, rfl⟩ := hb.shape
    clear ha hb hl
    go_enter Try.func15, Try.ntmps15
    go_wp2
    go_ret
    rw [HF.out]
    exact ⟨rfl, Q.refl _⟩

end Ur
end Go.Proofs.Ytagpofhencpliaa
