/- Joined: which characters may still change what joins, and the closure told each of them. -/
import Derived.Test.YtmbmopiicofhdaaRows
import Derived.Test.YtmbmopiicofhdaaInts
import Derived.Test.YtmbmopiicofhdaaGap
import Derived.Test.YtmbmopiicofhdaaCluM
import Derived.Test.YtmbmopiicofhdaaCluJ
import Derived.WalkLawsBesides
set_option linter.unusedVariables false
set_option linter.unusedSimpArgs false
namespace Go.Proofs.Ytmbmopiicofhdaa
open Go.RowKit Um Cm Gm

/-- The place from which on a list's characters tell what joins. -/
def IsSince (xs : List Int) (i : Nat) : Prop := i ≤ xs.length ∧ (i = 0 ∨ (i < xs.length ∧ cls (xs.getD i 0) ≠ 4 ∧ cls (xs.getD i 0) ≠ 5 ∧ cls (xs.getD i 0) ≠ 6))
def SincePost (xs : List Int) (w : World) (e : Ending) (w' : World) : Prop := ∃ i : Nat, e = .returned (.int .i64 i) ∧ IsSince xs i ∧ Q w w'

set_option maxRecDepth 100000 in
set_option maxHeartbeats 1000000 in
theorem since_any (v : Value) (xs : List Int) (w : World) (hv : Lst w v xs) (hx : xs.length ≤ 1073741824) :
    Calls Try.prog 33 #[v] w (SincePost xs w) := by
  obtain ⟨a, cp, rfl⟩ := hv.shape
  obtain ⟨n, hn⟩ : ∃ n, n = xs.length := ⟨_, rfl⟩
  rw [← hn] at hv hx ⊢
  have HN := Lib.hid hn
  clear hn
  by_cases h0 : n = 0
  · subst h0
    go_enter Try.func33, Try.ntmps33
    go_wp2_with fail
    go_step3
    go_wp2_with fail
    go_step3
    go_wp2_with fail
    refine wp_loop_rounds 1 ?_
    rw [rounds_succ]
    go_wp2_with fail
    rw [Exit.noGoto_ret]
    go_ret
    exact ⟨0, rfl, ⟨by omega, .inl rfl⟩, Q.refl _⟩
  · have hm : (0 : Int) ≤ (n : Int) - 1 := by omega
    go_enter Try.func33, Try.ntmps33
    go_wp2_with fail
    go_step3
    go_wp2_with fail
    go_step3
    go_wp2_with fail
    go_loopw [3] (fun v wr => ∃ i : Nat, v = .int .i64 i ∧ i < n ∧ Q w wr) (fun v _ => (intOf v).toNat)
    case atStart => exact ⟨n - 1, by congr 1; omega, by omega, Q.refl _⟩
    case round =>
      obtain ⟨i, rfl, hi, hq⟩ := hrel
      by_cases hi0 : i = 0
      · subst hi0
        go_wp2_with fail
        rw [Exit.noGoto_ret]
        go_ret
        exact ⟨0, rfl, ⟨by omega, .inl rfl⟩, hq⟩
      · have hip : 0 < i := by omega
        obtain ⟨g, off, cap, hvv, hg, _, _, hca⟩ := hv.cellOf HN.out.symm hi
        cases hvv
        have c1 : wr.cell? ⟨g, off + i, none⟩ = some (.int .i64 (xs.getD i 0)) := (World.cell?_of_block (w := w) (hq.block hg)).trans hca
        have hre : cls (xs.getD i 0) ≠ 4 ∧ cls (xs.getD i 0) ≠ 5 ∧ cls (xs.getD i 0) ≠ 6 → IsSince xs i := fun h => ⟨by have := HN.out; omega, .inr ⟨by have := HN.out; omega, h⟩⟩
        have HR := Lib.hid hre
        clear hca hre
        obtain ⟨c, hc⟩ : ∃ c, c = xs.getD i 0 := ⟨_, rfl⟩
        rw [← hc] at c1 HR
        clear hc
        obtain ⟨k, hk⟩ : ∃ k, k = cls c := ⟨_, rfl⟩
        have hof := fun w => of_any c w
        rw [← hk] at hof HR
        have HOF := Lib.hid hof
        clear hof hk
        have hcase : k = 4 ∨ k = 5 ∨ k = 6 ∨ (k ≠ 4 ∧ k ≠ 5 ∧ k ≠ 6) := by omega
        rcases hcase with rfl | rfl | rfl | h
        · go_wp2_with fail
          refine (HOF.out _).mono ?_
          rintro e w1 ⟨rfl, hq1⟩
          go_wp2_with fail
          go_roundw
          case rel => exact ⟨i - 1, by congr 1; omega, by omega, hq.trans hq1⟩
          case measure => simp [intOf]; omega
        · go_wp2_with fail
          refine (HOF.out _).mono ?_
          rintro e w1 ⟨rfl, hq1⟩
          go_wp2_with fail
          go_roundw
          case rel => exact ⟨i - 1, by congr 1; omega, by omega, hq.trans hq1⟩
          case measure => simp [intOf]; omega
        · go_wp2_with fail
          refine (HOF.out _).mono ?_
          rintro e w1 ⟨rfl, hq1⟩
          go_wp2_with fail
          go_roundw
          case rel => exact ⟨i - 1, by congr 1; omega, by omega, hq.trans hq1⟩
          case measure => simp [intOf]; omega
        · have h4 : ((k : Int) == 4) = false := by rw [beq_eq_false_iff_ne]; omega
          have h5 : ((k : Int) == 5) = false := by rw [beq_eq_false_iff_ne]; omega
          have h6 : ((k : Int) == 6) = false := by rw [beq_eq_false_iff_ne]; omega
          have HI := Lib.hid (HR.out h)
          clear HR h
          go_wp2_with fail
          refine (HOF.out _).mono ?_
          rintro e w1 ⟨rfl, hq1⟩
          go_wp2_with fail
          rw [Exit.noGoto_ret]
          go_ret
          exact ⟨i, rfl, HI.out, hq.trans hq1⟩

/-- A list without its first k numbers. -/
theorem Lst.drop {w : World} {g off n c : Nat} {zs : List Int} (h : Lst w (.slice (some ⟨g, off, none⟩) n c) zs) (k : Nat) (hk : k ≤ zs.length) : Lst w (.slice (some ⟨g, off + k, none⟩) (n - k) (c - k)) (zs.drop k) := by
  rcases h with ⟨rfl, a, c, hv, hc, hn⟩ | ⟨g, off, cap, hv, hg, h1, h2, hcell⟩
  · cases hv
    have : k = 0 := by simpa using hk
    subst this
    exact .nil _ _ _ (by omega) (fun h => by cases h)
  · cases hv
    have hl : (zs.drop k).length = zs.length - k := by simp
    refine .inr ⟨g, off + k, c - k, by rw [hl], hg, by omega, by omega, fun i hi => ?_⟩
    rw [hl] at hi
    rw [Nat.add_assoc, hcell (k + i) (by omega)]
    simp only [List.getD_eq_getElem?_getD, List.getElem?_drop]

theorem stL_take (l : List Int) (j : Nat) (h : j < l.length) : stL (l.take (j + 1)) = stp (stL (l.take j)) (cls (l.getD j 0)) := by
  rw [List.take_succ_eq_append_getElem h, stL_snoc, List.getD_eq_getElem?_getD, List.getElem?_eq_getElem h]; rfl
/-- What was told of the first, and of the closure's variables: they lie behind what was there. -/
theorem Q.joined {a w w' : World} {b : Nat} (h : Q a w) (hg : Gap b (b + 4) w w') (hb : a.heap.size ≤ b) : Q a w' :=
  Below.trans h ⟨hg.os, hg.tape, hg.output, hg.size, fun k hk => hg.block k (Nat.lt_of_lt_of_le hk h.size) (.inl (by omega))⟩

set_option maxRecDepth 100000 in
set_option maxHeartbeats 1000000 in
theorem joined_nil (v : Value) (c : Int) (w : World) (hv : Lst w v []) :
    Calls Try.prog 10 #[v, .int .i64 c] w fun e w' => e = .returned (.bool (jn st0 (cls c))) ∧ Q w w' := by
  have hsi := fun w h => since_any v [] w h (by simp)
  obtain ⟨a, cp, rfl, hcp, hcm⟩ : ∃ a c, v = .slice a 0 c ∧ c ≤ maxLen ∧ (a = none → c = 0) := by
    rcases hv with ⟨_, h⟩ | ⟨g, off, cap, rfl, hg, h1, h2, _⟩
    · exact h
    · exact ⟨_, cap, rfl, h2, fun h => by cases h⟩
  unfold maxLen at hcp
  have HSI := Lib.hid hsi
  clear hsi
  cases a with
  | none =>
    obtain rfl := hcm rfl
    clear hcm
    go_enter Try.func10, Try.ntmps10
    go_wp2_with fail
    refine (joiner_any _).mono ?_
    rintro e w1 ⟨rfl, hj1, hq1, hz1⟩
    have HZ := Lib.hid hz1
    clear hz1
    go_wp2_with fail
    refine (HSI.out _ (hv.q hq1)).mono ?_
    rintro e w2 ⟨i, rfl, hi, hq2⟩
    obtain rfl : i = 0 := by have := hi.1; simpa using this
    have hj2 := hj1.q hq2
    go_wp2_with fail
    refine wp_loop_rounds 1 ?_
    rw [rounds_succ]
    go_wp2_with fail
    refine (joins_any c _ _ _ hj2).mono ?_
    rintro e w3 ⟨rfl, hj3, hg3⟩
    go_wp2_with fail
    go_ret
    exact ⟨rfl, (hq1.trans hq2).joined hg3 (Nat.le_refl _)⟩
  | some ad =>
    clear hcm
    by_cases h0 : cp = 0
    · subst h0
      go_enter Try.func10, Try.ntmps10
      go_wp2_with fail
      refine (joiner_any _).mono ?_
      rintro e w1 ⟨rfl, hj1, hq1, hz1⟩
      have HZ := Lib.hid hz1
      clear hz1
      go_wp2_with fail
      refine (HSI.out _ (hv.q hq1)).mono ?_
      rintro e w2 ⟨i, rfl, hi, hq2⟩
      obtain rfl : i = 0 := by have := hi.1; simpa using this
      have hj2 := hj1.q hq2
      go_wp2_with fail
      refine wp_loop_rounds 1 ?_
      rw [rounds_succ]
      go_wp2_with fail
      refine (joins_any c _ _ _ hj2).mono ?_
      rintro e w3 ⟨rfl, hj3, hg3⟩
      go_wp2_with fail
      go_ret
      exact ⟨rfl, (hq1.trans hq2).joined hg3 (Nat.le_refl _)⟩
    · have h1 : ¬ (0 = cp) := by omega
      go_enter Try.func10, Try.ntmps10
      go_wp2_with fail
      refine (joiner_any _).mono ?_
      rintro e w1 ⟨rfl, hj1, hq1, hz1⟩
      have HZ := Lib.hid hz1
      clear hz1
      go_wp2_with fail
      refine (HSI.out _ (hv.q hq1)).mono ?_
      rintro e w2 ⟨i, rfl, hi, hq2⟩
      obtain rfl : i = 0 := by have := hi.1; simpa using this
      have hj2 := hj1.q hq2
      go_wp2_with fail
      refine wp_loop_rounds 1 ?_
      rw [rounds_succ]
      go_wp2_with fail
      refine (joins_any c _ _ _ hj2).mono ?_
      rintro e w3 ⟨rfl, hj3, hg3⟩
      go_wp2_with fail
      go_ret
      exact ⟨rfl, (hq1.trans hq2).joined hg3 (Nat.le_refl _)⟩

set_option maxRecDepth 100000 in
set_option maxHeartbeats 1000000 in
theorem joined_any (v : Value) (xs : List Int) (c : Int) (w : World) (hv : Lst w v xs) (hx : xs.length ≤ 1073741824) :
    Calls Try.prog 10 #[v, .int .i64 c] w fun e w' => e = .returned (.bool (jn (stL xs) (cls c))) ∧ Q w w' := by
  obtain ⟨n, hn⟩ : ∃ n, n = xs.length := ⟨_, rfl⟩
  by_cases h0 : xs = []
  · subst h0
    exact joined_nil v c w hv
  · have hn0 : 0 < n := by rw [hn]; exact List.length_pos_iff.2 h0
    clear h0
    have hsi := fun w h => since_any v xs w h hx
    rw [← hn] at hx
    have hl : xs.length = n := hn.symm
    obtain ⟨g, off, cp, rfl, hg, h1, h2, hcell⟩ : ∃ g off cap, v = .slice (some ⟨g, off, none⟩) n cap ∧ g < w.heap.size ∧ n ≤ cap ∧ cap ≤ maxLen ∧ ∀ i, i < n → w.cell? ⟨g, off + i, none⟩ = some (.int .i64 (xs.getD i 0)) := by
      rcases hv with ⟨rfl, _⟩ | ⟨g, off, cap, hv, h⟩
      · simp at hl; omega
      · rw [hl] at hv h; exact ⟨g, off, cap, hv, h⟩
    unfold maxLen at h2
    have HN := Lib.hid hl
    have HSI := Lib.hid hsi
    have HC := Lib.hid hcell
    clear hsi hl hn hcell
    go_enter Try.func10, Try.ntmps10
    go_wp2_with fail
    refine (joiner_any _).mono ?_
    rintro e w1 ⟨rfl, hj1, hq1, hz1⟩
    have HZ := Lib.hid hz1
    clear hz1
    go_wp2_with fail
    refine (HSI.out _ (hv.q hq1)).mono ?_
    rintro e w2 ⟨i, rfl, hi, hq2⟩
    have hin : i < n := by
      have h := hi.2
      rw [HN.out] at h
      omega
    have hj2 := hj1.q hq2
    have hq12 := hq1.trans hq2
    have hne : ¬ (i = cp) := by omega
    have HI := Lib.hid (stL_since xs i hi.2)
    clear hi
    go_wp2_with fail
    go_loopw [14] (fun v wr => ∃ j : Nat, v = .int .i64 j ∧ j ≤ n - i ∧ JS wr w.heap.size (stL ((xs.drop i).take j)) ∧ Q w wr) (fun v _ => n - i - (intOf v).toNat)
    case atStart => exact ⟨0, rfl, by omega, hj2, hq12⟩
    case round =>
      obtain ⟨j, rfl, hj, hjs, hq⟩ := hrel
      by_cases hlt : j < n - i
      · have c1 : wr.cell? ⟨g, off + i + j, none⟩ = some (.int .i64 (xs.getD (i + j) 0)) := by
          rw [Nat.add_assoc]
          exact (World.cell?_of_block (w := w) (hq.block hg)).trans (HC.out (i + j) (by omega))
        have hst := stL_take (xs.drop i) j (by rw [List.length_drop, HN.out]; exact hlt)
        rw [show (xs.drop i).getD j 0 = xs.getD (i + j) 0 from by simp [List.getD_eq_getElem?_getD]] at hst
        obtain ⟨x, hx⟩ : ∃ x, x = xs.getD (i + j) 0 := ⟨_, rfl⟩
        rw [← hx] at c1 hst
        have HST := Lib.hid hst
        clear hx hst
        go_wp2_with fail
        refine (joins_any x _ _ _ hjs).mono ?_
        rintro e w3 ⟨rfl, hj3, hg3⟩
        rw [← HST.out] at hj3
        go_wp2_with fail
        go_roundw
        case rel => exact ⟨j + 1, by go_num, by omega, hj3, hq.joined hg3 (Nat.le_refl _)⟩
        case measure => simp [intOf]; omega
      · have he : stL ((xs.drop i).take j) = stL xs := by
          rw [List.take_of_length_le (by rw [List.length_drop, HN.out]; omega)]; exact HI.out
        rw [he] at hjs
        clear he
        go_wp2_with fail
        refine (joins_any c _ _ _ hjs).mono ?_
        rintro e w3 ⟨rfl, hj3, hg3⟩
        go_wp2_with fail
        go_ret
        exact ⟨rfl, hq.joined hg3 (Nat.le_refl _)⟩

end Go.Proofs.Ytmbmopiicofhdaa
