/- What the library's Builder.String answers here, laid out of its contract. What the library's Builder.grow answers at a fresh builder here, laid out of its contract. What strings.Builder's copyCheck, WriteString and String do here. What the library's Join answers of texts with nothing between them: them all, one behind the other. -/
import Derived.Shelf.Strings.BuilderK
import Derived.Test.YtglljkbpdbnhaaaGreatDoorProg
import Derived.Shelf.Strings.Builder2
import Derived.Test.YtglljkbpdbnhaaaGreatDoorRows
import Derived.Test.YtglljkbpdbnhaaaGreatDoorMA
import Derived.Test.YtglljkbpdbnhaaaGreatDoorMB
import Derived.Shelf.RegionOpen
namespace Go.Proofs.YtglljkbpdbnhaaaGreatDoor
open Go.Shelf
def shelfStringRen : Go.Shelf.Ren := ⟨fun | 169 => 148 | n => n, fun | 0 => 0 | 3 => 3 | 9 => 9 | 37 => 126 | 70 => 190 | 72 => 192 | 127 => 204 | 5 => 5 | n => n, fun | n => n⟩
theorem shelfString : Go.Proofs.Lays.n169 Tryz.prog shelfStringRen := {
  mixed := by kernel_rfl
  f169 := Tryz.func148.trans (congrArg some (by kernel_rfl))
  t0 := Tryz.underlying0
  a0 := Tryz.isAgg0
  z0 := Tryz.sizeOf0
  v0 := Tryz.zeroValue0
  t3 := Tryz.underlying3
  a3 := Tryz.isAgg3
  z3 := Tryz.sizeOf3
  v3 := Tryz.zeroValue3
  t9 := Tryz.underlying9
  a9 := Tryz.isAgg9
  z9 := Tryz.sizeOf9
  v9 := Tryz.zeroValue9
  t37 := Tryz.underlying126
  a37 := Tryz.isAgg126
  z37 := Tryz.sizeOf126
  v37 := Tryz.zeroValue126
  t70 := Tryz.underlying190
  a70 := Tryz.isAgg190
  z70 := Tryz.sizeOf190
  v70 := Tryz.zeroValue190
  t72 := Tryz.underlying192
  a72 := Tryz.isAgg192
  z72 := Tryz.sizeOf192
  v72 := Tryz.zeroValue192
  t127 := Tryz.underlying204
  a127 := Tryz.isAgg204
  z127 := Tryz.sizeOf204
  v127 := Tryz.zeroValue204 }
theorem shelfStringX : Builder.Extra Tryz.prog shelfStringRen := {
  sizeBuilder := by kernel_rfl
  liesBuilder := by kernel_rfl
  t5 := Tryz.underlying5
  a5 := Tryz.isAgg5
  z5 := Tryz.sizeOf5
  v5 := Tryz.zeroValue5
  infoByte := by kernel_rfl
  cellsByte := by kernel_rfl
  sizeByte := by kernel_rfl
  neB5 := by decide }
open Go.RowKit in
theorem string_any (B b : Nat) (l : List UInt8) (w : World) (h : Lib.IsBuilderF 192 5 B b (Lib.byteCells l) w) (hBw : B ≤ w.heap.size) :
    Calls Tryz.prog 148 #[.pointer (some ⟨b, 0, none⟩)] w fun e w' => e = .returned (.string ⟨l.toArray⟩) ∧ (Lib.IsBuilderF 192 5 B b (Lib.byteCells l) w' ∧ Below B w w' ∧ Lib.OthersKept 5 (some b) w w') := Any.Builder_String_any_k shelfString shelfStringX B b l w h hBw
end Go.Proofs.YtglljkbpdbnhaaaGreatDoor

namespace Go.Proofs.YtglljkbpdbnhaaaGreatDoor
open Go.Shelf
def shelfGrowRen : Go.Shelf.Ren := ⟨fun | 241 => 186 | 277 => 199 | n => n, fun | 0 => 0 | 3 => 3 | 37 => 126 | 70 => 190 | 72 => 192 | 5 => 5 | n => n, fun | n => n⟩
theorem shelfGrow : Go.Proofs.Lays.n241 Tryz.prog shelfGrowRen := {
  mixed := by kernel_rfl
  f241 := Tryz.func186.trans (congrArg some (by kernel_rfl))
  f277 := Tryz.func199.trans (congrArg some (by kernel_rfl))
  t0 := Tryz.underlying0
  a0 := Tryz.isAgg0
  z0 := Tryz.sizeOf0
  v0 := Tryz.zeroValue0
  t3 := Tryz.underlying3
  a3 := Tryz.isAgg3
  z3 := Tryz.sizeOf3
  v3 := Tryz.zeroValue3
  t37 := Tryz.underlying126
  a37 := Tryz.isAgg126
  z37 := Tryz.sizeOf126
  v37 := Tryz.zeroValue126
  t70 := Tryz.underlying190
  a70 := Tryz.isAgg190
  z70 := Tryz.sizeOf190
  v70 := Tryz.zeroValue190
  t72 := Tryz.underlying192
  a72 := Tryz.isAgg192
  z72 := Tryz.sizeOf192
  v72 := Tryz.zeroValue192 }
theorem shelfGrowX : Builder.Extra Tryz.prog shelfGrowRen := {
  sizeBuilder := by kernel_rfl
  liesBuilder := by kernel_rfl
  t5 := Tryz.underlying5
  a5 := Tryz.isAgg5
  z5 := Tryz.sizeOf5
  v5 := Tryz.zeroValue5
  infoByte := by kernel_rfl
  cellsByte := by kernel_rfl
  sizeByte := by kernel_rfl
  neB5 := by decide }
open Go.RowKit in
theorem grow_any (B b n : Nat) (w : World) (hB : B ≤ b) (hbk : w.heap[b]? = some (.cells #[.pointer (some ⟨b, 0, none⟩), .slice none 0 0] 192 (0, 0))) (hBw : B ≤ w.heap.size) (hn : n ≤ 281474976710656) :
    Calls Tryz.prog 186 #[.pointer (some ⟨b, 0, none⟩), .int .i64 n] w fun e w' => e = .returned (.tuple #[]) ∧ (Lib.BuilderAt 192 5 B b (.pointer (some ⟨b, 0, none⟩)) [] w' ∧ Below B w w') := Any.Builder_grow_fresh shelfGrow shelfGrowX B b n w hB hbk hBw hn
end Go.Proofs.YtglljkbpdbnhaaaGreatDoor

set_option linter.unusedVariables false
set_option linter.unusedSimpArgs false
namespace Go.Proofs.YtglljkbpdbnhaaaGreatDoor
open Go.RowKit
namespace Bl
theorem sizeB : (Tryz.prog.info? 192).map (·.size) = some 2 := by kernel_rfl
theorem liesB : liesAt Tryz.prog Tryz.prog.depth 192 (2 / Tryz.prog.cellsOf 192) 0 192 1 = true := by kernel_rfl
theorem infoByte : (Tryz.prog.info? 5).map (fun i => (i.zero, i.size, i.bytes)) = some (some (.int .u8 0), 1, 1) := by kernel_rfl

set_option maxHeartbeats 1000000 in
set_option maxRecDepth 100000 in
theorem check_used (b : Nat) (w : World) (h0 : w.cell? ⟨b, 0, none⟩ = some (.pointer (some ⟨b, 0, none⟩))) :
    Calls Tryz.prog 166 #[.pointer (some ⟨b, 0, none⟩)] w fun e w' => e = .returned (.tuple #[]) ∧ w' = w := by
  obtain ⟨j, hj, _⟩ := Option.map_eq_some_iff.1 sizeB
  go_enter Tryz.func166, Tryz.ntmps166
  go_wp2
  rw [Lib.run_neq_ptr_same w _ Tryz.underlying190 hj]
  go_wp2
  go_end0
  exact ⟨rfl, rfl⟩
set_option maxHeartbeats 1000000 in
set_option maxRecDepth 100000 in
theorem check_fresh (b : Nat) (w : World) (h0 : w.cell? ⟨b, 0, none⟩ = some (.pointer none)) (hsh : w.shape? b = some (192, 2)) (hfz : w.frozen? ⟨b, 0, none⟩ = false) :
    Calls Tryz.prog 166 #[.pointer (some ⟨b, 0, none⟩)] w fun e w' => e = .returned (.tuple #[]) ∧ w' = w.setCell ⟨b, 0, none⟩ (.pointer (some ⟨b, 0, none⟩)) := by
  obtain ⟨j, hj, hjs⟩ := Option.map_eq_some_iff.1 sizeB
  go_enter Tryz.func166, Tryz.ntmps166
  go_wp2
  rw [Lib.run_to_unsafe w ⟨b, 0, none⟩ Tryz.underlying190 Tryz.underlying215 hj (by rw [hjs]; decide) hsh (Nat.zero_lt_succ 1)]
  simp only [Result.andThen]
  rw [Oper.upon_value]
  go_wp2
  rw [run_callFunc_extern Tryz.func179 (by kernel_rfl) (by kernel_rfl) (by kernel_rfl) (e := Extern.AbiNoEscape.same) (by kernel_rfl)]
  rw [Lib.run_noEscape]
  simp only [Result.andThen]
  rw [Oper.upon_value]
  go_wp2
  rw [Lib.run_from_unsafe w ⟨b, 0, none⟩ Tryz.underlying215 Tryz.underlying190 hj hsh liesB]
  simp only [Result.andThen]
  rw [Oper.upon_value]
  go_wp2
  go_end0
  exact ⟨rfl, rfl⟩

/-- A builder in block b, whose bytes are bs. -/
def Is (B b : Nat) (bs : List Value) (w : World) : Prop := Lib.IsBuilderF 192 5 B b bs w
theorem check_any (B b : Nat) (bs : List Value) (w : World) (h : Is B b bs w) :
    Calls Tryz.prog 166 #[.pointer (some ⟨b, 0, none⟩)] w fun e w' => e = .returned (.tuple #[]) ∧ Lib.BuilderAtF 192 5 B b (.pointer (some ⟨b, 0, none⟩)) bs w' ∧ Below B w w' ∧ Lib.OthersKept 5 (some b) w w' := by
  rcases h with h | h
  · refine (check_fresh b w h.cell0 h.shape h.frozen0).mono ?_
    rintro e w' ⟨rfl, rfl⟩
    exact ⟨rfl, h.used _, (Below.refl B w).setCell (p := ⟨b, 0, none⟩) h.1 _, (Lib.OthersKept.refl _ _ w).setCell ⟨b, 0, none⟩ rfl _⟩
  · refine (check_used b w h.cell0).mono ?_
    rintro e w' ⟨rfl, rfl⟩
    exact ⟨rfl, h, Below.refl B _, Lib.OthersKept.refl _ _ _⟩

set_option maxHeartbeats 2000000 in
set_option maxRecDepth 100000 in
theorem write_any (B b : Nat) (bs : List Value) (s : ByteArray) (w : World) (h : Is B b bs w) (hlen : bs.length + s.size ≤ 140737488355328) (hBw : B ≤ w.heap.size) :
    Calls Tryz.prog 147 #[.pointer (some ⟨b, 0, none⟩), .string s] w fun e w' => e = .returned (.tuple #[.int .i64 s.size, .nilIface]) ∧ Is B b (bs ++ Lib.strCells s) w' ∧ Below B w w' ∧ Lib.OthersKept 5 (some b) w w' := by
  obtain ⟨i0, hi, hz0, hz1, hz2⟩ := info_parts infoByte
  go_enter Tryz.func147, Tryz.ntmps147
  go_wp2_with (go_at_call 166; refine (check_any B b bs _ h).mono ?_)
  rintro e w1 ⟨rfl, h1, hb1, hk1⟩
  obtain ⟨hB, v, hbk, hown, hne⟩ := h1
  have c0 : w1.cell? ⟨b, 0, none⟩ = some (.pointer (some ⟨b, 0, none⟩)) := by rw [Lib.cell_of_heap hbk]; rfl
  have c1 : w1.cell? ⟨b, 1, none⟩ = some v := by rw [Lib.cell_of_heap hbk]; rfl
  go_wp2_with (at_builtin; refine Lib.wpList_append_own_stringF _ rfl _ _ 126 9 rfl B 5 i0 Tryz.underlying126 Tryz.underlying9 hi hz0 hz1 hz2 _ _ _ rfl hown s rfl ?c3 ?c4 ?c5 ?_)
  case c3 => unfold maxLen; omega
  case c4 => omega
  case c5 => have := hb1.size; omega
  intro v' w2 hown' hgrow _
  have hlt : b < w1.heap.size := (Array.getElem?_eq_some_iff.1 hbk).1
  have hb2 : w2.heap[b]? = some (.cells #[.pointer (some ⟨b, 0, none⟩), v] 192 (0, 0)) := by
    rw [hgrow.block b hlt (fun e => hne e.symm)]
    exact hbk
  have d0 : w2.cell? ⟨b, 0, none⟩ = some (.pointer (some ⟨b, 0, none⟩)) := by rw [Lib.cell_of_heap hb2]; rfl
  have d1 : w2.cell? ⟨b, 1, none⟩ = some v := by rw [Lib.cell_of_heap hb2]; rfl
  have f1 : w2.frozen? ⟨b, 1, none⟩ = false := Lib.frozen_of_heap hb2 1
  obtain ⟨ao, n', cap, rfl⟩ : ∃ ao n' cap, v' = .slice ao n' cap := by
    rcases hown'.2 with ⟨hv, _⟩ | ⟨g, cap, cur, fz, hv, _⟩
    · exact ⟨_, _, _, hv⟩
    · exact ⟨_, _, _, hv⟩
  go_wp2
  go_ret2
  refine ⟨rfl, .inr ?_, ?_, (hk1.grown hgrow (Lib.ownsRowF_kind hown)).setCell ⟨b, 1, none⟩ rfl _⟩
  · exact Lib.BuilderAtF.put (T := 192) (e := 5) hB hb2 (bs' := bs ++ Lib.strCells s) (by simpa [Lib.strCells_length] using hown') (by decide)
  · exact (hb1.grown hgrow (by have := hb1.size; omega) (fun k hk => (hown.lt k hk).1)).setCell (p := ⟨b, 1, none⟩) hB _

/-- The text of what was written, its bytes being l. -/
theorem done_any (B b : Nat) (l : List UInt8) (w : World) (h : Is B b (Lib.byteCells l) w) (hBw : B ≤ w.heap.size) :
    Calls Tryz.prog 148 #[.pointer (some ⟨b, 0, none⟩)] w fun e w' => e = .returned (.string ⟨l.toArray⟩) ∧ Below B w w' := by
  refine (string_any B b l w h hBw).mono ?_
  rintro e w' ⟨rfl, _, hb, _⟩
  exact ⟨rfl, hb⟩

/-- A new builder. -/
theorem Is.fresh (w : World) : Is w.heap.size w.heap.size (Lib.byteCells []) (w.alloc (.cells #[.pointer none, .slice none 0 0] 192)) := Lib.IsBuilderF.of (Lib.fresh_isBuilder 192 5 w)
theorem Is.write {B b : Nat} {l : List UInt8} {s : ByteArray} {w : World} (h : Is B b (Lib.byteCells l ++ Lib.strCells s) w) : Is B b (Lib.byteCells (l ++ s.data.toList)) w := by
  rw [Lib.byteCells_append]
  exact h
theorem cells_length (l : List UInt8) : (Lib.byteCells l).length = l.length := Lib.byteCells_length l

end Bl
end Go.Proofs.YtglljkbpdbnhaaaGreatDoor

set_option linter.unusedVariables false
set_option linter.unusedSimpArgs false
namespace Go.Proofs.YtglljkbpdbnhaaaGreatDoor
open Go.RowKit Um

/-- Texts' bytes, one behind the other. -/
def cat (xs : List ByteArray) : List UInt8 := xs.flatMap fun p => p.data.toList
theorem cat_take (xs : List ByteArray) (k : Nat) (x : ByteArray) (h : xs[k]? = some x) : cat (xs.take (k + 1)) = cat (xs.take k) ++ x.data.toList := by
  obtain ⟨hk, rfl⟩ := List.getElem?_eq_some_iff.1 h
  unfold cat
  rw [List.take_succ_eq_append_getElem hk, List.flatMap_append]; simp
theorem cat_take_le (xs : List ByteArray) (k : Nat) : (cat (xs.take k)).length ≤ (cat xs).length := by
  have h : cat xs = cat (xs.take k) ++ cat (xs.drop k) := by
    unfold cat
    rw [← List.flatMap_append, List.take_append_drop]
  rw [h, List.length_append]; omega
theorem cat_append (xs ys : List ByteArray) : cat (xs ++ ys) = cat xs ++ cat ys := List.flatMap_append
namespace Bl

set_option maxHeartbeats 1000000 in
set_option maxRecDepth 100000 in
theorem room_any (B b n : Nat) (w : World) (hB : B ≤ b) (hbk : w.heap[b]? = some (.cells #[.pointer none, .slice none 0 0] 192 (0, 0))) (hBw : B ≤ w.heap.size) (hn : n ≤ 1099511627776) :
    Calls Tryz.prog 171 #[.pointer (some ⟨b, 0, none⟩), .int .i64 n] w fun e w' => e = .returned (.tuple #[]) ∧ Is B b [] w' ∧ Below B w w' := by
  have c0 : w.cell? ⟨b, 0, none⟩ = some (.pointer none) := by rw [Lib.cell_of_heap hbk]; rfl
  have hsh : w.shape? b = some (192, 2) := by simp [World.shape?, hbk]
  have hb1 : (w.setCell ⟨b, 0, none⟩ (.pointer (some ⟨b, 0, none⟩))).heap[b]? = some (.cells #[.pointer (some ⟨b, 0, none⟩), .slice none 0 0] 192 (0, 0)) := by
    simp [World.setCell, Array.getElem?_modify, hbk]
  have hq1 : Below B w (w.setCell ⟨b, 0, none⟩ (.pointer (some ⟨b, 0, none⟩))) := (Below.refl B w).setCell (p := ⟨b, 0, none⟩) hB _
  have hus : Lib.BuilderAt 192 5 B b (.pointer (some ⟨b, 0, none⟩)) [] (w.setCell ⟨b, 0, none⟩ (.pointer (some ⟨b, 0, none⟩))) := ⟨hB, .slice none 0 0, hb1, World.ownsRow_nil _ _ _ _, by simp [Value.ownBlock]⟩
  have hfz := Lib.frozen_of_heap hbk 0
  have mixed : Tryz.prog.follows Departure.mixedOrders = true := by kernel_rfl
  have hBw1 : B ≤ (w.setCell ⟨b, 0, none⟩ (.pointer (some ⟨b, 0, none⟩))).drew.heap.size := Nat.le_trans hBw hq1.size
  go_enter Tryz.func171, Tryz.ntmps171
  go_wp2_with (go_at_call 166; refine (check_fresh b w c0 hsh hfz).mono ?_; rintro e w' ⟨rfl, rfl⟩)
  generalize w.setCell ⟨b, 0, none⟩ (.pointer (some ⟨b, 0, none⟩)) = W at *
  have c1 : W.drew.cell? ⟨b, 1, none⟩ = some (.slice none 0 0) := by
    have : W.drew.heap[b]? = _ := hb1
    rw [Lib.cell_of_heap this]; rfl
  go_region_o
  all_goals go_wp2_with (go_at_call 186; refine (grow_any B b n W.drew hB hb1 hBw1 (by omega)).mono ?_; rintro e w' ⟨rfl, h1, h2⟩)
  all_goals first
    | (go_end0; exact ⟨rfl, Lib.IsBuilderF.of (.inr h1), hq1.drew.trans h2⟩)
    | (go_end0; exact ⟨rfl, Lib.IsBuilderF.of (.inr hus.drew), hq1.drew⟩)

end Bl

set_option maxHeartbeats 2000000 in
set_option maxRecDepth 100000 in
theorem sjoin_any (v : Value) (xs : List ByteArray) (w : World) (hv : SLst w v xs) (hx : xs.length ≤ 1073741824) (hl : (cat xs).length ≤ 1073741824) :
    Calls Tryz.prog 157 #[v, .string ⟨#[]⟩] w fun e w' => e = .returned (.string ⟨(cat xs).toArray⟩) ∧ Q w w' := by
  obtain ⟨n, hn⟩ : ∃ n, n = xs.length := ⟨_, rfl⟩
  by_cases h0 : n = 0
  · have hxs : xs = [] := List.eq_nil_of_length_eq_zero (by omega)
    subst hxs
    obtain ⟨a, c, rfl⟩ := hv.shape
    clear hv hx hl hn h0
    go_enter Tryz.func157, Tryz.ntmps157
    go_wp2
    go_ret
    exact ⟨rfl, Q.refl _⟩
  by_cases h1 : n = 1
  · obtain ⟨x, rfl⟩ : ∃ x, xs = [x] := by
      match xs, hn with
      | [x], _ => exact ⟨x, rfl⟩
      | [], h => exact absurd h (by simpa using h0)
      | _ :: _ :: _, h => simp at h; omega
    obtain ⟨g, off, cap, rfl, hg, _, _, c1⟩ := hv.cellOf (n := 1) (k := 0) (x := x) rfl rfl
    rw [Nat.add_zero] at c1
    have HR := Lib.hid (show (⟨(cat [x]).toArray⟩ : ByteArray) = x from ba_ext (by simp [cat]))
    clear hv hx hl hn h0 h1
    go_enter Tryz.func157, Tryz.ntmps157
    go_wp2
    go_ret
    rw [HR.out]
    exact ⟨rfl, Q.refl _⟩
  have h2 : 2 ≤ n := by omega
  obtain ⟨g, off, cap, rfl, hg, hcp, hcm, hcell⟩ : ∃ g off cap, v = .slice (some ⟨g, off, none⟩) n cap ∧ g < w.heap.size ∧ n ≤ cap ∧ cap ≤ maxLen ∧ ∀ i x, xs[i]? = some x → w.cell? ⟨g, off + i, none⟩ = some (.string x) := by
    rcases hv with ⟨rfl, _⟩ | ⟨g, off, cap, hvv, hg, e1, e2, hc⟩
    · simp at hn; omega
    · rw [← hn] at hvv e1
      exact ⟨g, off, cap, hvv, hg, e1, e2, hc⟩
  unfold maxLen at hcm
  rw [← hn] at hx
  have hne0 : ((n : Int) == 0) = false := beq_eq_false_iff_ne.2 (by omega)
  have hne1 : ((n : Int) == 1) = false := beq_eq_false_iff_ne.2 (by omega)
  have hnc : ¬ (1 = cap) := by omega
  have hget : ∀ k, k < n → ∃ x, xs[k]? = some x := fun k hk => ⟨xs[k]'(by omega), List.getElem?_eq_getElem (by omega)⟩
  have hle : ∀ k, (cat (xs.take k)).length ≤ 1073741824 := fun k => Nat.le_trans (cat_take_le xs k) hl
  have hall : ∀ k, n ≤ k → xs.take k = xs := fun k hk => List.take_of_length_le (by omega)
  have hfr : ∀ (u : World) (T : Nat), T ≤ 1073741824 → Calls Tryz.prog 171 #[.pointer (some ⟨u.heap.size, 0, none⟩), .int .i64 T] (u.alloc (.cells #[.pointer none, .slice none 0 0] 192)) fun e w' => e = .returned (.tuple #[]) ∧ Bl.Is u.heap.size u.heap.size [] w' ∧ Below u.heap.size (u.alloc (.cells #[.pointer none, .slice none 0 0] 192)) w' := fun u T hT =>
    Bl.room_any u.heap.size u.heap.size T _ (Nat.le_refl _) (heap_alloc_new u _) (by simp) (by omega)
  have HN := Lib.hid hn
  have HG := Lib.hid hget
  have HL := Lib.hid hle
  have HA := Lib.hid hall
  have HC := Lib.hid hcell
  have HF := Lib.hid hfr
  have HT := Lib.hid (fun k x h => cat_take xs k x h)
  clear hn hget hle hall hcell hv hl h0 h1 hfr
  go_enter Tryz.func157, Tryz.ntmps157
  go_wp2_with fail
  go_loop [5, 41] (fun t i => ∃ k : Nat, k ≤ n ∧ i = .int .i64 k ∧ t = .int .i64 ((cat (xs.take k)).length : Nat)) (fun _ i => n - (intOf i).toNat)
  case atStart => exact ⟨0, Nat.zero_le _, rfl, rfl⟩
  case round =>
    obtain ⟨k, hk, rfl, rfl⟩ := hrel
    by_cases hkn : k < n
    · obtain ⟨x, hx1⟩ := HG.out k hkn
      have c1 := HC.out k x hx1
      have ht := congrArg List.length (HT.out k x hx1)
      rw [List.length_append, size_list] at ht
      have hb := HL.out (k + 1)
      generalize (cat (xs.take k)).length = T0 at ht ⊢
      have HTT := Lib.hid ht
      have hb2 : T0 + x.size ≤ 1073741824 := by omega
      clear ht hx1
      go_wp2_with fail
      exact ⟨⟨k + 1, by omega, by go_num, by rw [HTT.out]; go_num⟩, by simp [intOf]; omega⟩
    · have hke : k = n := by omega
      subst hke
      have hb := HL.out k
      rw [HA.out k (Nat.le_refl _)] at hb ⊢
      obtain ⟨T, hT⟩ : ∃ T, T = (cat xs).length := ⟨_, rfl⟩
      rw [← hT] at hb ⊢
      clear hT
      go_wp2_with fail
      refine (HF.out _ T hb).mono ?_
      rintro e w1 ⟨rfl, hI, hb1⟩
      have hq1 : Q w w1 := ((Below.refl w.heap.size w).alloc (Nat.le_refl _) _).trans hb1
      have hqs1 := hq1.le
      obtain ⟨x, hx1⟩ := HG.out 0 (by omega)
      have c1 := (World.cell?_of_block (w := w) (a := ⟨g, off, none⟩) (hq1.block hg)).trans (HC.out 0 x hx1)
      have ht := HT.out 0 x hx1
      have hb0 := HL.out 1
      rw [ht, List.length_append, size_list] at hb0
      have HTT := Lib.hid ht
      clear ht hx1
      go_wp2_with fail
      refine (Bl.write_any _ _ _ x w1 hI (by simp; omega) hqs1).mono ?_
      rintro e w2 ⟨rfl, hI2, hb2, _⟩
      have hq2 : Q w w2 := Below.trans hq1 hb2
      have hI3 : Bl.Is w.heap.size w.heap.size (Lib.byteCells (cat (xs.take 1))) w2 := by
        rw [HTT.out, List.take_zero]
        have := Bl.Is.write (l := []) (s := x) hI2
        exact this
      clear hI hI2 hb1 hb2 hq1 hqs1 c1 HTT
      go_wp2_with fail
      go_loopw [65] (fun i wr => ∃ j : Nat, i = .int .i64 j ∧ j + 1 ≤ k ∧ Bl.Is w.heap.size w.heap.size (Lib.byteCells (cat (xs.take (j + 1)))) wr ∧ Q w wr) (fun i _ => k - (intOf i).toNat)
      case atStart => exact ⟨0, rfl, by omega, hI3, hq2⟩
      case round =>
        obtain ⟨j, rfl, hj, hI, hq⟩ := hrel
        have hqs := hq.le
        by_cases hlt : j + 1 < k
        · obtain ⟨y, hy⟩ := HG.out (j + 1) hlt
          have c1 := (World.cell?_of_block (w := w) (a := ⟨g, off + (j + 1), none⟩) (hq.block hg)).trans (HC.out (j + 1) y hy)
          rw [show off + (j + 1) = off + 1 + j from by omega] at c1
          have ht := HT.out (j + 1) y hy
          have hb0 := HL.out (j + 1 + 1)
          rw [ht, List.length_append, size_list] at hb0
          have HTT := Lib.hid ht
          have hjk : (j : Int) < (k : Int) - 1 := by omega
          clear ht hy
          go_wp2_with fail
          refine (Bl.write_any _ _ _ ⟨#[]⟩ wr hI (by rw [Bl.cells_length]; show _ + 0 ≤ _; omega) hqs).mono ?_
          rintro e w3 ⟨rfl, hI4, hb3, _⟩
          have hq3 : Q w w3 := Below.trans hq hb3
          have hqs3 := hq3.le
          have hI5 : Bl.Is w.heap.size w.heap.size (Lib.byteCells (cat (xs.take (j + 1)))) w3 := by
            have := Bl.Is.write hI4
            rw [show (⟨#[]⟩ : ByteArray).data.toList = [] from rfl, List.append_nil] at this
            exact this
          clear hI4 c1
          go_wp2_with fail
          refine (Bl.write_any _ _ _ y w3 hI5 (by rw [Bl.cells_length]; omega) hqs3).mono ?_
          rintro e w4 ⟨rfl, hI6, hb4, _⟩
          have hq4 : Q w w4 := Below.trans hq3 hb4
          go_wp2_with fail
          exact ⟨⟨j + 1, by go_num, by omega, by rw [HTT.out]; exact hI6.write, hq4⟩, by simp [intOf]; omega⟩
        · have hje : j + 1 = k := by omega
          rw [hje, HA.out k (Nat.le_refl _)] at hI
          have hjk : ¬ ((j : Int) < (k : Int) - 1) := by omega
          clear hje
          go_wp2_with (go_at_call 148; refine (Bl.done_any _ _ _ _ hI hqs).mono ?_; rintro e w' ⟨rfl, hb2⟩)
          go_ret
          exact ⟨rfl, Below.trans hq hb2⟩

end Go.Proofs.YtglljkbpdbnhaaaGreatDoor
