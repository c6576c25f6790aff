/- A list copied into one of the call's own; bytes that the call makes, written in place, and their text. -/
import Derived.Test.YtagpofhencpliaaRows
import Derived.Test.YtagpofhencpliaaInts
import Derived.Test.YtagpofhencpliaaEls
import Derived.Test.YtagpofhencpliaaSto
import Derived.Laws.OwnMore
import Derived.Laws.BytesArg
import Derived.OwnWalk
import Derived.Laws.CopyOwn
set_option linter.unusedVariables false
set_option linter.unusedSimpArgs false
namespace Go.Proofs.Ytagpofhencpliaa
open Go.RowKit

theorem Own.full {w : World} {B g n : Nat} {zs : List Int} (h : Own w B (.slice (some ⟨g, 0, none⟩) n n) zs) (hn : zs.length = n) : w.heap[g]? = some (.cells (zs.map (Value.int .i64)).toArray 3 (0, 0)) ∧ B ≤ g ∧ n ≤ maxLen := by
  rcases h.2 with ⟨h1, _⟩ | ⟨g', cap, cur, hv, hg, hh, hnc, hcm, hcs, ht⟩
  · cases h1
  · cases hv
    refine ⟨?_, hg, hcm⟩
    rw [hh]
    have e : cur = (zs.map (Value.int .i64)).toArray := by
      apply Array.toList_inj.1
      rw [List.toList_toArray, ← ht, List.take_of_length_le (by rw [Array.length_toList, hcs, hn]; exact Nat.le_refl _)]
    rw [e]
theorem Own.ofFull {w : World} {B g n : Nat} {zs : List Int} (hh : w.heap[g]? = some (.cells (zs.map (Value.int .i64)).toArray 3 (0, 0))) (hn : zs.length = n) (hB : B ≤ g) (hm : n ≤ maxLen) : Own w B (.slice (some ⟨g, 0, none⟩) n n) zs := by
  subst hn
  exact ⟨by simp, .inr ⟨g, zs.length, _, rfl, hB, hh, Nat.le_refl _, hm, by simp, List.take_of_length_le (by simp)⟩⟩
theorem sizeInt : (Try.prog.info? 3).map (·.size) = some 1 := by kernel_rfl

/-- A list copied to the beginning of one of the call's own. -/
theorem copy_ints {w : World} {B g n : Nat} {zs xs : List Int} {u : Value} (hown : Own w B (.slice (some ⟨g, 0, none⟩) n n) zs) (hn : zs.length = n) (hu : Lst w u xs) {ops : Array Oper} {rest : List Oper} {o : Oper} {a : Act} {R : Exit → Act → World → Prop} (hgd : o.guard = none) (d s : Operand)
    (ho : o.op = .call { callee := .builtin .copy, args := #[d, s], argTypes := #[22, 22] }) (hd : a.eval d = .slice (some ⟨g, 0, none⟩) n n) (hs : a.eval s = u)
    (h : ∀ w' v, Own w' B (.slice (some ⟨g, 0, none⟩) n n) (xs.take n ++ zs.drop (min xs.length n)) → Below B w w' → wpList Try.prog ops R rest (a.put o.dst v) w') :
    wpList Try.prog ops R (o :: rest) a w := by
  obtain ⟨hh, hB, hm⟩ := hown.full hn
  obtain ⟨sp, sc, rfl, hnc, hcm⟩ := hu.shape2
  have hcl : ((xs.take n).map (Value.int .i64)).length = min n xs.length := by simp
  refine wpList_copy_splice hgd d s _ _ ho 3 Try.underlying22 sizeInt _ sp n n xs.length sc hd hs g 0 (zs.map (Value.int .i64)) 3 hh ((xs.take n).map (Value.int .i64)) (by rw [hcl]; exact Nat.min_comm _ _) ?_ (by rw [hcl, List.length_map]; omega) ?_ B w (Below.refl _ _) hB ?_
  · intro hpos
    refine ⟨rfl, ?_⟩
    rw [hcl] at hpos
    rcases hu with ⟨rfl, _⟩ | ⟨g2, off, cap, hv, hg, h1, h2, hc⟩
    · simp at hpos
    · cases hv
      refine ⟨_, rfl, fun j v hj => ?_⟩
      have hjl := (List.getElem?_eq_some_iff.1 hj).1
      rw [hcl] at hjl
      have hadd : (⟨g2, off, none⟩ : Addr).add j = ⟨g2, off + j, none⟩ := by unfold Addr.add; split <;> simp_all
      rw [hadd, hc j (by omega)]
      rw [List.getElem?_map, List.getElem?_take, if_pos (by omega), List.getElem?_eq_getElem (by omega)] at hj
      rw [List.getD_eq_getElem?_getD, List.getElem?_eq_getElem (by omega)]
      simpa using hj
  · intro v hv
    obtain ⟨_, _, rfl⟩ := List.mem_map.1 hv
    rfl
  · intro w' hw' hb'
    have hw := hw'.out
    refine h w' _ (Own.ofFull ?_ ?_ hB hm) hb'
    · rw [hw]
      unfold splice
      rw [List.take_zero, List.nil_append, hcl, Nat.zero_add, List.map_append, List.map_drop, Nat.min_comm]
    · rw [List.length_append, List.length_take, List.length_drop, hn]; omega

/-- Bytes of the call's own. -/
abbrev BOwn (w : World) (B : Nat) (v : Value) (zs : List Int) : Prop := GOwn 5 (Value.int .u8) w B v zs
theorem infoByte : (Try.prog.info? 5).map (fun i => (i.zero, i.size, i.bytes)) = some (some (.int .u8 0), 1, 1) := by kernel_rfl
theorem make_bytes {w : World} {B : Nat} {ops : Array Oper} {rest : List Oper} {o : Oper} {a : Act} {R : Exit → Act → World → Prop} (hgd : o.guard = none) (l c : Operand)
    (ho : o.op = .makeSlice 84 l c) (n : Nat) (L : Int) (hl : a.eval l = .int .i64 L) (hc : a.eval c = .int .i64 L) (hL : L = (n : Int)) (hn : n < 1099511627776) (hB : B ≤ w.heap.size)
    (h : ∀ w', BOwn w' B (.slice (some ⟨w.heap.size, 0, none⟩) n n) (List.replicate n 0) → Q w w' → wpList Try.prog ops R rest (a.put o.dst (.slice (some ⟨w.heap.size, 0, none⟩) n n)) w') :
    wpList Try.prog ops R (o :: rest) a w := by
  obtain ⟨i0, hi, hz0, hz1, hz2⟩ := info_parts infoByte
  refine wpList_make_full w hgd l c _ ho B 5 i0 (.int .u8 0) 1 Try.underlying84 hi hz0 hz1 .i64 .i64 L L n hl hc hL hL (by rw [hz2]; omega) (by unfold maxLen; omega) hB ?_
  intro w' hown hg
  refine h w' ?_ ((Q.refl w).grown hg (fun k hk => by cases hk))
  unfold BOwn GOwn
  rw [List.length_replicate, List.map_replicate]
  have e : (madeCells (Value.cells (.int .u8 0)) (n * 1)).toList = List.replicate n (Value.int .u8 0) := by
    rw [Nat.mul_one]; exact toList_madeCells_one _ _
  rw [e] at hown
  exact hown
/-- Their text. -/
theorem conv_own {w : World} {B g n cap : Nat} {zs : List Int} (h : BOwn w B (.slice (some ⟨g, 0, none⟩) n cap) zs) (hn : zs.length = n) :
    (convert 84 9 (.slice (some ⟨g, 0, none⟩) n cap)).run Try.prog w = .ok (.string (strOfNums zs)) w := by
  refine run_convert_bytes_arg _ 84 5 Try.underlying84 Try.underlying5 g 0 n cap zs hn ?_ 9 Try.underlying9
  intro i hi
  rw [Nat.zero_add]
  refine GOwn.cellAt h hn ?_
  rw [List.getD_eq_getElem?_getD, List.getElem?_eq_getElem (by omega)]; rfl
end Go.Proofs.Ytagpofhencpliaa
