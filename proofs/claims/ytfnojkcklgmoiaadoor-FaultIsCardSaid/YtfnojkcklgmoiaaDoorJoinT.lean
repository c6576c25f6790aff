/- What the library's Join answers of texts with a colon and a blank between them. -/
import Derived.Test.YtfnojkcklgmoiaaDoorJoinS
set_option linter.unusedVariables false
set_option linter.unusedSimpArgs false
namespace Go.Proofs.YtfnojkcklgmoiaaDoor
open Go.RowKit Um

/-- Texts' bytes, each but the first with a colon and a blank ahead. -/
def cjn : List ByteArray → List UInt8
  | [] => []
  | x :: r => x.data.toList ++ r.flatMap fun y => [58, 32] ++ y.data.toList
theorem cjn_take (xs : List ByteArray) (k : Nat) (x : ByteArray) (h : xs[k + 1]? = some x) : cjn (xs.take (k + 1 + 1)) = cjn (xs.take (k + 1)) ++ [58, 32] ++ x.data.toList := by
  cases xs with
  | nil => simp at h
  | cons a r =>
    have h' : r[k]? = some x := by simpa using h
    obtain ⟨hk, rfl⟩ := List.getElem?_eq_some_iff.1 h'
    simp only [List.take_succ_cons, cjn]
    rw [List.take_succ_eq_append_getElem hk, List.flatMap_append]; simp
theorem cjn_one (xs : List ByteArray) (x : ByteArray) (h : xs[0]? = some x) : cjn (xs.take 1) = x.data.toList := by
  cases xs with
  | nil => simp at h
  | cons a r => obtain rfl : a = x := by simpa using h
                simp [cjn]
theorem cjn_len (xs : List ByteArray) : (cjn xs).length ≤ (cat xs).length + 2 * xs.length := by
  cases xs with
  | nil => simp [cjn]
  | cons a r =>
    have h : ∀ l : List ByteArray, (l.flatMap fun y => ([58, 32] : List UInt8) ++ y.data.toList).length = (cat l).length + 2 * l.length := fun l => by
      induction l with
      | nil => rfl
      | cons y l ih => simp only [List.flatMap_cons, List.length_append, ih, cat, List.length_cons]; simp; omega
    have e : (cat (a :: r)).length = a.data.toList.length + (cat r).length := by simp [cat]
    simp only [cjn, List.length_append, h, e, List.length_cons]; omega
theorem cjn_le (xs : List ByteArray) (k : Nat) : (cjn (xs.take k)).length ≤ (cat xs).length + 2 * xs.length := by
  have h1 := cjn_len (xs.take k)
  have h2 := cat_take_le xs k
  have h3 : (xs.take k).length ≤ xs.length := by simp; omega
  omega

set_option maxHeartbeats 2000000 in
set_option maxRecDepth 100000 in
theorem join_any (v : Value) (xs : List ByteArray) (w : World) (hv : SLst w v xs) (hx : xs.length ≤ 1073741824) (hl : (cat xs).length ≤ 1073741824) :
    Calls Tryd.prog 30 #[v, .string ⟨#[58, 32]⟩] w fun e w' => e = .returned (.string ⟨(cjn xs).toArray⟩) ∧ Q w w' := by
  obtain ⟨n, hn⟩ : ∃ n, n = xs.length := ⟨_, rfl⟩
  by_cases h0 : n = 0
  · have hxs : xs = [] := List.eq_nil_of_length_eq_zero (by omega)
    subst hxs
    obtain ⟨a, c, rfl⟩ := hv.shape
    clear hv hx hl hn h0
    go_enter Tryd.func30, Tryd.ntmps30
    go_wp2
    go_ret
    exact ⟨rfl, Q.refl _⟩
  by_cases h1 : n = 1
  · obtain ⟨x, rfl⟩ : ∃ x, xs = [x] := by
      match xs, hn with
      | [x], _ => exact ⟨x, rfl⟩
      | [], h => exact absurd h (by simpa using h0)
      | _ :: _ :: _, h => simp at h; omega
    obtain ⟨g, off, cap, rfl, hg, _, _, c1⟩ := hv.cellOf (n := 1) (k := 0) (x := x) rfl rfl
    rw [Nat.add_zero] at c1
    have HR := Lib.hid (show (⟨(cjn [x]).toArray⟩ : ByteArray) = x from ba_ext (by simp [cjn]))
    clear hv hx hl hn h0 h1
    go_enter Tryd.func30, Tryd.ntmps30
    go_wp2
    go_ret
    rw [HR.out]
    exact ⟨rfl, Q.refl _⟩
  have h2 : 2 ≤ n := by omega
  obtain ⟨g, off, cap, rfl, hg, hcp, hcm, hcell⟩ : ∃ g off cap, v = .slice (some ⟨g, off, none⟩) n cap ∧ g < w.heap.size ∧ n ≤ cap ∧ cap ≤ maxLen ∧ ∀ i x, xs[i]? = some x → w.cell? ⟨g, off + i, none⟩ = some (.string x) := by
    rcases hv with ⟨rfl, _⟩ | ⟨g, off, cap, hvv, hg, e1, e2, hc⟩
    · simp at hn; omega
    · rw [← hn] at hvv e1
      exact ⟨g, off, cap, hvv, hg, e1, e2, hc⟩
  unfold maxLen at hcm
  rw [← hn] at hx
  have hne0 : ((n : Int) == 0) = false := beq_eq_false_iff_ne.2 (by omega)
  have hne1 : ((n : Int) == 1) = false := beq_eq_false_iff_ne.2 (by omega)
  have hdv : ¬ ((9223372036854775807 : Int) / ((n : Int) - 1) ≤ 2) := by
    have h3 : (3 : Int) ≤ 9223372036854775807 / ((n : Int) - 1) := (Int.le_ediv_iff_mul_le (by omega)).2 (by omega)
    omega
  have hdd : decide ((9223372036854775807 : Int) / ((n : Int) - 1) ≤ 2) = false := decide_eq_false hdv
  have hnc : ¬ (1 = cap) := by omega
  have hget : ∀ k, k < n → ∃ x, xs[k]? = some x := fun k hk => ⟨xs[k]'(by omega), List.getElem?_eq_getElem (by omega)⟩
  have hle : ∀ k, (cat (xs.take k)).length ≤ 1073741824 := fun k => Nat.le_trans (cat_take_le xs k) hl
  have hjl : ∀ k, (cjn (xs.take k)).length ≤ 4294967296 := fun k => by have := cjn_le xs k; omega
  have hall : ∀ k, n ≤ k → xs.take k = xs := fun k hk => List.take_of_length_le (by omega)
  have hfr : ∀ (u : World) (T : Nat), T ≤ 4294967296 → Calls Tryd.prog 39 #[.pointer (some ⟨u.heap.size, 0, none⟩), .int .i64 T] (u.alloc (.cells #[.pointer none, .slice none 0 0] 77)) fun e w' => e = .returned (.tuple #[]) ∧ Bl.Is u.heap.size u.heap.size [] w' ∧ Below u.heap.size (u.alloc (.cells #[.pointer none, .slice none 0 0] 77)) w' := fun u T hT =>
    Bl.room_any u.heap.size u.heap.size T _ (Nat.le_refl _) (heap_alloc_new u _) (by simp) (by omega)
  have HN := Lib.hid hn
  have HG := Lib.hid hget
  have HL := Lib.hid hle
  have HJ := Lib.hid hjl
  have HA := Lib.hid hall
  have HC := Lib.hid hcell
  have HF := Lib.hid hfr
  have HT := Lib.hid (fun k x h => cat_take xs k x h)
  have HT2 := Lib.hid (fun k x h => cjn_take xs k x h)
  have HT1 := Lib.hid (fun x h => cjn_one xs x h)
  clear hn hget hle hjl hall hcell hv hl h0 h1 hfr
  go_enter Tryd.func30, Tryd.ntmps30
  go_wp2_with fail
  go_loop [5, 41] (fun t i => ∃ k : Nat, k ≤ n ∧ i = .int .i64 k ∧ t = .int .i64 ((2 * (n - 1) + (cat (xs.take k)).length : Nat))) (fun _ i => n - (intOf i).toNat)
  case atStart => refine ⟨0, Nat.zero_le _, rfl, ?_⟩; rw [show (2 * (n - 1) + (cat (xs.take 0)).length : Nat) = 2 * (n - 1) from by simp [cat]]; go_num
  case round =>
    obtain ⟨k, hk, rfl, rfl⟩ := hrel
    by_cases hkn : k < n
    · obtain ⟨x, hx1⟩ := HG.out k hkn
      have c1 := HC.out k x hx1
      have ht := congrArg List.length (HT.out k x hx1)
      rw [List.length_append, size_list] at ht
      have hb := HL.out (k + 1)
      generalize (cat (xs.take k)).length = T0 at ht ⊢
      have HTT := Lib.hid ht
      have hb2 : T0 + x.size ≤ 1073741824 := by omega
      clear ht hx1
      go_wp2_with fail
      exact ⟨⟨k + 1, by omega, by go_num, by rw [HTT.out]; go_num⟩, by simp [intOf]; omega⟩
    · have hke : k = n := by omega
      subst hke
      have hb := HL.out k
      rw [HA.out k (Nat.le_refl _)] at hb ⊢
      obtain ⟨T, hT⟩ : ∃ T, T = 2 * (k - 1) + (cat xs).length := ⟨_, rfl⟩
      have hbT : T ≤ 4294967296 := by omega
      rw [← hT]
      clear hT
      go_wp2_with fail
      refine (HF.out _ T hbT).mono ?_
      rintro e w1 ⟨rfl, hI, hb1⟩
      have hq1 : Q w w1 := ((Below.refl w.heap.size w).alloc (Nat.le_refl _) _).trans hb1
      have hqs1 := hq1.le
      obtain ⟨x, hx1⟩ := HG.out 0 (by omega)
      have c1 := (World.cell?_of_block (w := w) (a := ⟨g, off, none⟩) (hq1.block hg)).trans (HC.out 0 x hx1)
      have ht := HT1.out x hx1
      have hb0 := HJ.out 1
      rw [ht, size_list] at hb0
      have HTT := Lib.hid ht
      clear ht hx1
      go_wp2_with fail
      refine (Bl.write_any _ _ _ x w1 hI (by simp; omega) hqs1).mono ?_
      rintro e w2 ⟨rfl, hI2, hb2, _⟩
      have hq2 : Q w w2 := Below.trans hq1 hb2
      have hI3 : Bl.Is w.heap.size w.heap.size (Lib.byteCells (cjn (xs.take 1))) w2 := by
        rw [HTT.out]
        have := Bl.Is.write (l := []) (s := x) hI2
        exact this
      clear hI hI2 hb1 hb2 hq1 hqs1 c1 HTT
      go_wp2_with fail
      go_loopw [65] (fun i wr => ∃ j : Nat, i = .int .i64 j ∧ j + 1 ≤ k ∧ Bl.Is w.heap.size w.heap.size (Lib.byteCells (cjn (xs.take (j + 1)))) wr ∧ Q w wr) (fun i _ => k - (intOf i).toNat)
      case atStart => exact ⟨0, rfl, by omega, hI3, hq2⟩
      case round =>
        obtain ⟨j, rfl, hj, hI, hq⟩ := hrel
        have hqs := hq.le
        by_cases hlt : j + 1 < k
        · obtain ⟨y, hy⟩ := HG.out (j + 1) hlt
          have c1 := (World.cell?_of_block (w := w) (a := ⟨g, off + (j + 1), none⟩) (hq.block hg)).trans (HC.out (j + 1) y hy)
          rw [show off + (j + 1) = off + 1 + j from by omega] at c1
          have ht := HT2.out j y hy
          have hb0 := HJ.out (j + 1 + 1)
          rw [ht, List.length_append, List.length_append, size_list] at hb0
          have hb00 : ([58, 32] : List UInt8).length = 2 := rfl
          have HTT := Lib.hid ht
          have hjk : (j : Int) < (k : Int) - 1 := by omega
          clear ht hy
          go_wp2_with fail
          refine (Bl.write_any _ _ _ ⟨#[58, 32]⟩ wr hI (by rw [Bl.cells_length]; show _ + 2 ≤ _; omega) hqs).mono ?_
          rintro e w3 ⟨rfl, hI4, hb3, _⟩
          have hq3 : Q w w3 := Below.trans hq hb3
          have hqs3 := hq3.le
          have hI5 : Bl.Is w.heap.size w.heap.size (Lib.byteCells (cjn (xs.take (j + 1)) ++ [58, 32])) w3 := Bl.Is.write (s := ⟨#[58, 32]⟩) hI4
          clear hI4 c1
          go_wp2_with fail
          refine (Bl.write_any _ _ _ y w3 hI5 (by rw [Bl.cells_length, List.length_append]; omega) hqs3).mono ?_
          rintro e w4 ⟨rfl, hI6, hb4, _⟩
          have hq4 : Q w w4 := Below.trans hq3 hb4
          go_wp2_with fail
          exact ⟨⟨j + 1, by go_num, by omega, by rw [HTT.out]; exact hI6.write, hq4⟩, by simp [intOf]; omega⟩
        · have hje : j + 1 = k := by omega
          rw [hje, HA.out k (Nat.le_refl _)] at hI
          have hjk : ¬ ((j : Int) < (k : Int) - 1) := by omega
          clear hje
          go_wp2_with (go_at_call 41; refine (Bl.done_any _ _ _ _ hI hqs).mono ?_; rintro e w' ⟨rfl, hb2⟩)
          go_ret
          exact ⟨rfl, Below.trans hq hb2⟩

end Go.Proofs.YtfnojkcklgmoiaaDoor
