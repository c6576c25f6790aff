/- What the library's Join answers of texts with nothing between them: them all, one behind the other. -/
import Derived.Test.YtjloibgjnnknnaaDoorRows
import Derived.Test.YtjloibgjnnknnaaDoorInts
import Derived.Test.YtjloibgjnnknnaaDoorEls
import Derived.Test.YtjloibgjnnknnaaDoorUtfM
import Derived.Test.YtjloibgjnnknnaaDoorBld
import Derived.Test.YtjloibgjnnknnaaDoorShelfG
import Derived.Shelf.RegionOpen
set_option linter.unusedVariables false
set_option linter.unusedSimpArgs false
namespace Go.Proofs.YtjloibgjnnknnaaDoor
open Go.RowKit Um

/-- Texts' bytes, one behind the other. -/
def cat (xs : List ByteArray) : List UInt8 := xs.flatMap fun p => p.data.toList
theorem cat_take (xs : List ByteArray) (k : Nat) (x : ByteArray) (h : xs[k]? = some x) : cat (xs.take (k + 1)) = cat (xs.take k) ++ x.data.toList := by
  obtain ⟨hk, rfl⟩ := List.getElem?_eq_some_iff.1 h
  unfold cat
  rw [List.take_succ_eq_append_getElem hk, List.flatMap_append]; simp
theorem cat_take_le (xs : List ByteArray) (k : Nat) : (cat (xs.take k)).length ≤ (cat xs).length := by
  have h : cat xs = cat (xs.take k) ++ cat (xs.drop k) := by
    unfold cat
    rw [← List.flatMap_append, List.take_append_drop]
  rw [h, List.length_append]; omega
theorem cat_append (xs ys : List ByteArray) : cat (xs ++ ys) = cat xs ++ cat ys := List.flatMap_append
namespace Bl

set_option maxHeartbeats 1000000 in
set_option maxRecDepth 100000 in
theorem room_any (B b n : Nat) (w : World) (hB : B ≤ b) (hbk : w.heap[b]? = some (.cells #[.pointer none, .slice none 0 0] 55 (0, 0))) (hBw : B ≤ w.heap.size) (hn : n ≤ 1099511627776) :
    Calls Tryd.prog 75 #[.pointer (some ⟨b, 0, none⟩), .int .i64 n] w fun e w' => e = .returned (.tuple #[]) ∧ Is B b [] w' ∧ Below B w w' := by
  have c0 : w.cell? ⟨b, 0, none⟩ = some (.pointer none) := by rw [Lib.cell_of_heap hbk]; rfl
  have hsh : w.shape? b = some (55, 2) := by simp [World.shape?, hbk]
  have hb1 : (w.setCell ⟨b, 0, none⟩ (.pointer (some ⟨b, 0, none⟩))).heap[b]? = some (.cells #[.pointer (some ⟨b, 0, none⟩), .slice none 0 0] 55 (0, 0)) := by
    simp [World.setCell, Array.getElem?_modify, hbk]
  have hq1 : Below B w (w.setCell ⟨b, 0, none⟩ (.pointer (some ⟨b, 0, none⟩))) := (Below.refl B w).setCell (p := ⟨b, 0, none⟩) hB _
  have hus : Lib.BuilderAt 55 5 B b (.pointer (some ⟨b, 0, none⟩)) [] (w.setCell ⟨b, 0, none⟩ (.pointer (some ⟨b, 0, none⟩))) := ⟨hB, .slice none 0 0, hb1, World.ownsRow_nil _ _ _ _, by simp [Value.ownBlock]⟩
  have hfz := Lib.frozen_of_heap hbk 0
  have mixed : Tryd.prog.follows Departure.mixedOrders = true := by kernel_rfl
  have hBw1 : B ≤ (w.setCell ⟨b, 0, none⟩ (.pointer (some ⟨b, 0, none⟩))).drew.heap.size := Nat.le_trans hBw hq1.size
  go_enter Tryd.func75, Tryd.ntmps75
  go_wp2_with (go_at_call 31; refine (check_fresh b w c0 hsh hfz).mono ?_; rintro e w' ⟨rfl, rfl⟩)
  generalize w.setCell ⟨b, 0, none⟩ (.pointer (some ⟨b, 0, none⟩)) = W at *
  have c1 : W.drew.cell? ⟨b, 1, none⟩ = some (.slice none 0 0) := by
    have : W.drew.heap[b]? = _ := hb1
    rw [Lib.cell_of_heap this]; rfl
  go_region_o
  all_goals go_wp2_with (go_at_call 91; refine (grow_any B b n W.drew hB hb1 hBw1 (by omega)).mono ?_; rintro e w' ⟨rfl, h1, h2⟩)
  all_goals first
    | (go_end0; exact ⟨rfl, Lib.IsBuilderF.of (.inr h1), hq1.drew.trans h2⟩)
    | (go_end0; exact ⟨rfl, Lib.IsBuilderF.of (.inr hus.drew), hq1.drew⟩)

end Bl

set_option maxHeartbeats 2000000 in
set_option maxRecDepth 100000 in
theorem sjoin_any (v : Value) (xs : List ByteArray) (w : World) (hv : SLst w v xs) (hx : xs.length ≤ 1073741824) (hl : (cat xs).length ≤ 1073741824) :
    Calls Tryd.prog 65 #[v, .string ⟨#[]⟩] w fun e w' => e = .returned (.string ⟨(cat xs).toArray⟩) ∧ Q w w' := by
  obtain ⟨n, hn⟩ : ∃ n, n = xs.length := ⟨_, rfl⟩
  by_cases h0 : n = 0
  · have hxs : xs = [] := List.eq_nil_of_length_eq_zero (by omega)
    subst hxs
    obtain ⟨a, c, rfl⟩ := hv.shape
    clear hv hx hl hn h0
    go_enter Tryd.func65, Tryd.ntmps65
    go_wp2
    go_ret
    exact ⟨rfl, Q.refl _⟩
  by_cases h1 : n = 1
  · obtain ⟨x, rfl⟩ : ∃ x, xs = [x] := by
      match xs, hn with
      | [x], _ => exact ⟨x, rfl⟩
      | [], h => exact absurd h (by simpa using h0)
      | _ :: _ :: _, h => simp at h; omega
    obtain ⟨g, off, cap, rfl, hg, _, _, c1⟩ := hv.cellOf (n := 1) (k := 0) (x := x) rfl rfl
    rw [Nat.add_zero] at c1
    have HR := Lib.hid (show (⟨(cat [x]).toArray⟩ : ByteArray) = x from ba_ext (by simp [cat]))
    clear hv hx hl hn h0 h1
    go_enter Tryd.func65, Tryd.ntmps65
    go_wp2
    go_ret
    rw [HR.out]
    exact ⟨rfl, Q.refl _⟩
  have h2 : 2 ≤ n := by omega
  obtain ⟨g, off, cap, rfl, hg, hcp, hcm, hcell⟩ : ∃ g off cap, v = .slice (some ⟨g, off, none⟩) n cap ∧ g < w.heap.size ∧ n ≤ cap ∧ cap ≤ maxLen ∧ ∀ i x, xs[i]? = some x → w.cell? ⟨g, off + i, none⟩ = some (.string x) := by
    rcases hv with ⟨rfl, _⟩ | ⟨g, off, cap, hvv, hg, e1, e2, hc⟩
    · simp at hn; omega
    · rw [← hn] at hvv e1
      exact ⟨g, off, cap, hvv, hg, e1, e2, hc⟩
  unfold maxLen at hcm
  rw [← hn] at hx
  have hne0 : ((n : Int) == 0) = false := beq_eq_false_iff_ne.2 (by omega)
  have hne1 : ((n : Int) == 1) = false := beq_eq_false_iff_ne.2 (by omega)
  have hnc : ¬ (1 = cap) := by omega
  have hget : ∀ k, k < n → ∃ x, xs[k]? = some x := fun k hk => ⟨xs[k]'(by omega), List.getElem?_eq_getElem (by omega)⟩
  have hle : ∀ k, (cat (xs.take k)).length ≤ 1073741824 := fun k => Nat.le_trans (cat_take_le xs k) hl
  have hall : ∀ k, n ≤ k → xs.take k = xs := fun k hk => List.take_of_length_le (by omega)
  have hfr : ∀ (u : World) (T : Nat), T ≤ 1073741824 → Calls Tryd.prog 75 #[.pointer (some ⟨u.heap.size, 0, none⟩), .int .i64 T] (u.alloc (.cells #[.pointer none, .slice none 0 0] 55)) fun e w' => e = .returned (.tuple #[]) ∧ Bl.Is u.heap.size u.heap.size [] w' ∧ Below u.heap.size (u.alloc (.cells #[.pointer none, .slice none 0 0] 55)) w' := fun u T hT =>
    Bl.room_any u.heap.size u.heap.size T _ (Nat.le_refl _) (heap_alloc_new u _) (by simp) (by omega)
  have HN := Lib.hid hn
  have HG := Lib.hid hget
  have HL := Lib.hid hle
  have HA := Lib.hid hall
  have HC := Lib.hid hcell
  have HF := Lib.hid hfr
  have HT := Lib.hid (fun k x h => cat_take xs k x h)
  clear hn hget hle hall hcell hv hl h0 h1 hfr
  go_enter Tryd.func65, Tryd.ntmps65
  go_wp2_with fail
  go_loop [5, 41] (fun t i => ∃ k : Nat, k ≤ n ∧ i = .int .i64 k ∧ t = .int .i64 ((cat (xs.take k)).length : Nat)) (fun _ i => n - (intOf i).toNat)
  case atStart => exact ⟨0, Nat.zero_le _, rfl, rfl⟩
  case round =>
    obtain ⟨k, hk, rfl, rfl⟩ := hrel
    by_cases hkn : k < n
    · obtain ⟨x, hx1⟩ := HG.out k hkn
      have c1 := HC.out k x hx1
      have ht := congrArg List.length (HT.out k x hx1)
      rw [List.length_append, size_list] at ht
      have hb := HL.out (k + 1)
      generalize (cat (xs.take k)).length = T0 at ht ⊢
      have HTT := Lib.hid ht
      have hb2 : T0 + x.size ≤ 1073741824 := by omega
      clear ht hx1
      go_wp2_with fail
      exact ⟨⟨k + 1, by omega, by go_num, by rw [HTT.out]; go_num⟩, by simp [intOf]; omega⟩
    · have hke : k = n := by omega
      subst hke
      have hb := HL.out k
      rw [HA.out k (Nat.le_refl _)] at hb ⊢
      obtain ⟨T, hT⟩ : ∃ T, T = (cat xs).length := ⟨_, rfl⟩
      rw [← hT] at hb ⊢
      clear hT
      go_wp2_with fail
      refine (HF.out _ T hb).mono ?_
      rintro e w1 ⟨rfl, hI, hb1⟩
      have hq1 : Q w w1 := ((Below.refl w.heap.size w).alloc (Nat.le_refl _) _).trans hb1
      have hqs1 := hq1.le
      obtain ⟨x, hx1⟩ := HG.out 0 (by omega)
      have c1 := (World.cell?_of_block (w := w) (a := ⟨g, off, none⟩) (hq1.block hg)).trans (HC.out 0 x hx1)
      have ht := HT.out 0 x hx1
      have hb0 := HL.out 1
      rw [ht, List.length_append, size_list] at hb0
      have HTT := Lib.hid ht
      clear ht hx1
      go_wp2_with fail
      refine (Bl.write_any _ _ _ x w1 hI (by simp; omega) hqs1).mono ?_
      rintro e w2 ⟨rfl, hI2, hb2, _⟩
      have hq2 : Q w w2 := Below.trans hq1 hb2
      have hI3 : Bl.Is w.heap.size w.heap.size (Lib.byteCells (cat (xs.take 1))) w2 := by
        rw [HTT.out, List.take_zero]
        have := Bl.Is.write (l := []) (s := x) hI2
        exact this
      clear hI hI2 hb1 hb2 hq1 hqs1 c1 HTT
      go_wp2_with fail
      go_loopw [65] (fun i wr => ∃ j : Nat, i = .int .i64 j ∧ j + 1 ≤ k ∧ Bl.Is w.heap.size w.heap.size (Lib.byteCells (cat (xs.take (j + 1)))) wr ∧ Q w wr) (fun i _ => k - (intOf i).toNat)
      case atStart => exact ⟨0, rfl, by omega, hI3, hq2⟩
      case round =>
        obtain ⟨j, rfl, hj, hI, hq⟩ := hrel
        have hqs := hq.le
        by_cases hlt : j + 1 < k
        · obtain ⟨y, hy⟩ := HG.out (j + 1) hlt
          have c1 := (World.cell?_of_block (w := w) (a := ⟨g, off + (j + 1), none⟩) (hq.block hg)).trans (HC.out (j + 1) y hy)
          rw [show off + (j + 1) = off + 1 + j from by omega] at c1
          have ht := HT.out (j + 1) y hy
          have hb0 := HL.out (j + 1 + 1)
          rw [ht, List.length_append, size_list] at hb0
          have HTT := Lib.hid ht
          have hjk : (j : Int) < (k : Int) - 1 := by omega
          clear ht hy
          go_wp2_with fail
          refine (Bl.write_any _ _ _ ⟨#[]⟩ wr hI (by rw [Bl.cells_length]; show _ + 0 ≤ _; omega) hqs).mono ?_
          rintro e w3 ⟨rfl, hI4, hb3, _⟩
          have hq3 : Q w w3 := Below.trans hq hb3
          have hqs3 := hq3.le
          have hI5 : Bl.Is w.heap.size w.heap.size (Lib.byteCells (cat (xs.take (j + 1)))) w3 := by
            have := Bl.Is.write hI4
            rw [show (⟨#[]⟩ : ByteArray).data.toList = [] from rfl, List.append_nil] at this
            exact this
          clear hI4 c1
          go_wp2_with fail
          refine (Bl.write_any _ _ _ y w3 hI5 (by rw [Bl.cells_length]; omega) hqs3).mono ?_
          rintro e w4 ⟨rfl, hI6, hb4, _⟩
          have hq4 : Q w w4 := Below.trans hq3 hb4
          go_wp2_with fail
          exact ⟨⟨j + 1, by go_num, by omega, by rw [HTT.out]; exact hI6.write, hq4⟩, by simp [intOf]; omega⟩
        · have hje : j + 1 = k := by omega
          rw [hje, HA.out k (Nat.le_refl _)] at hI
          have hjk : ¬ ((j : Int) < (k : Int) - 1) := by omega
          clear hje
          go_wp2_with (go_at_call 21; refine (Bl.done_any _ _ _ _ hI hqs).mono ?_; rintro e w' ⟨rfl, hb2⟩)
          go_ret
          exact ⟨rfl, Below.trans hq hb2⟩

end Go.Proofs.YtjloibgjnnknnaaDoor
