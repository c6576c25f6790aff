/- What class.Blank, class.Plain and class.Name answer, by a walk through each. -/
import Derived.Test.YtmbmopiicofhdaaRows
import Derived.Test.YtmbmopiicofhdaaUtfM
import Derived.Test.YtmbmopiicofhdaaClsM
import Derived.Test.YtmbmopiicofhdaaInts
import Derived.Test.YtmbmopiicofhdaaPairs
import Derived.Test.YtmbmopiicofhdaaClsE
import Derived.Test.YtmbmopiicofhdaaClsW
import Derived.Deep.QuietTactic
import Derived.BigQuiet
set_option linter.unusedVariables false
set_option linter.unusedSimpArgs false
namespace Go.Proofs.Ytmbmopiicofhdaa
open Go.RowKit Cm

set_option maxHeartbeats 800000 in
theorem plain_any (v : Value) (xs : List Int) (w : World) (hv : Lst w v xs) (hx : xs.length ≤ 1073741824) :
    Calls Try.prog 29 #[v] w fun e w' => e = .returned (.bool (plainB xs)) ∧ Q w w' := by
  obtain ⟨a, cp, rfl⟩ := hv.shape
  obtain ⟨n, hn⟩ : ∃ n, n = xs.length := ⟨_, rfl⟩
  rw [← hn] at hv hx ⊢
  have HN := Lib.hid hn
  clear hn
  go_enter Try.func29, Try.ntmps29
  go_wp2_with fail
  go_loopw [8] (fun i wr => ∃ j : Nat, i = .int .i64 j ∧ j ≤ n ∧ Q w wr ∧ plP (xs.take j) = true) (fun i _ => n - (intOf i).toNat)
  case atStart => exact ⟨0, rfl, by omega, Q.refl _, rfl⟩
  case round =>
    obtain ⟨j, rfl, hj, hq, hpl⟩ := hrel
    have HP := Lib.hid hpl
    clear hpl
    by_cases hlt : j < n
    · obtain ⟨g, off, cap, hvv, hg, _, _, hca⟩ := hv.cellOf HN.out.symm hlt
      cases hvv
      have c1 : wr.cell? ⟨g, off + j, none⟩ = some (.int .i64 (xs.getD j 0)) := (World.cell?_of_block (w := w) (hq.block hg)).trans hca
      have HT := Lib.hid (plP_take xs j (by rw [← HN.out]; exact hlt))
      have HFT := Lib.hid (plP_false_take xs (j + 1))
      clear hca
      obtain ⟨c, hc⟩ : ∃ c, c = xs.getD j 0 := ⟨_, rfl⟩
      rw [← hc] at c1 HT
      clear hc
      obtain ⟨k, hk⟩ : ∃ k, k = cls c := ⟨_, rfl⟩
      have hof := fun w => of_any c w
      rw [← hk] at hof HT
      have HOF := Lib.hid hof
      clear hof hk
      have hres : ∀ b, plP (xs.take (j + 1)) = b → b = false → plainB xs = false := by
        intro b h1 h2
        unfold plainB
        rw [HFT.out (h1.trans h2)]; rfl
      have HRES := Lib.hid hres
      clear hres
      have hcase : (k = 0 ∧ j = 0) ∨ (k = 0 ∧ 0 < j) ∨ (k = 4 ∧ j = 0) ∨ (k = 4 ∧ 0 < j) ∨ (¬ k = 0 ∧ ¬ k = 4) := by omega
      rcases hcase with ⟨rfl, rfl⟩ | ⟨rfl, h0⟩ | ⟨rfl, rfl⟩ | ⟨rfl, h0⟩ | ⟨h0, h4⟩
      · have HB : Hid (plP (xs.take (0 + 1)) = true) := Lib.hid (by rw [HT.out, HP.out]; simp)
        rw [Nat.add_zero] at c1
        go_wp2_with fail
        refine (HOF.out _).mono ?_
        rintro e w1 ⟨rfl, hq1⟩
        go_wp2_with fail
        go_roundw
        case rel => exact ⟨0 + 1, by go_num, by omega, hq.trans hq1, HB.out⟩
        case measure => simp [intOf]; omega
      · have HB : Hid (plP (xs.take (j + 1)) = true) := Lib.hid (by rw [HT.out, HP.out]; simp)
        have e1 : ((j : Int) == 0) = false := by rw [beq_eq_false_iff_ne]; omega
        go_wp2_with fail
        refine (HOF.out _).mono ?_
        rintro e w1 ⟨rfl, hq1⟩
        go_wp2_with fail
        go_roundw
        case rel => exact ⟨j + 1, by go_num, by omega, hq.trans hq1, HB.out⟩
        case measure => simp [intOf]; omega
      · have HB : Hid (plainB xs = false) := Lib.hid (HRES.out _ rfl (by rw [HT.out, HP.out]; simp))
        rw [Nat.add_zero] at c1
        go_wp2_with fail
        refine (HOF.out _).mono ?_
        rintro e w1 ⟨rfl, hq1⟩
        go_wp2_with fail
        go_ret
        rw [HB.out]
        exact ⟨rfl, hq.trans hq1⟩
      · have HB : Hid (plP (xs.take (j + 1)) = true) := Lib.hid (by rw [HT.out, HP.out]; simp [h0])
        have e1 : ((j : Int) == 0) = false := by rw [beq_eq_false_iff_ne]; omega
        go_wp2_with fail
        refine (HOF.out _).mono ?_
        rintro e w1 ⟨rfl, hq1⟩
        go_wp2_with fail
        go_roundw
        case rel => exact ⟨j + 1, by go_num, by omega, hq.trans hq1, HB.out⟩
        case measure => simp [intOf]; omega
      · have HB : Hid (plainB xs = false) := Lib.hid (HRES.out _ rfl (by rw [HT.out, HP.out]; simp [h0, h4]))
        have e1 : ((k : Int) == 0) = false := by rw [beq_eq_false_iff_ne]; omega
        have e2 : ((k : Int) == 4) = false := by rw [beq_eq_false_iff_ne]; omega
        have e3 : ((k : Int) != 0) = true := by rw [bne_iff_ne]; omega
        have e4 : ((k : Int) != 4) = true := by rw [bne_iff_ne]; omega
        go_wp2_with fail
        refine (HOF.out _).mono ?_
        rintro e w1 ⟨rfl, hq1⟩
        go_wp2_with fail
        all_goals
          go_ret
          rw [HB.out]
          exact ⟨rfl, hq.trans hq1⟩
    · have hje : j = n := by omega
      have hF : plainB xs = decide (0 < n) := by
        have := HP.out
        rw [List.take_of_length_le (by rw [← HN.out]; omega)] at this
        unfold plainB
        rw [this, ← HN.out]; rfl
      have HF := Lib.hid hF
      clear hF hje
      go_wp2_with fail
      go_ret
      rw [HF.out]
      exact ⟨retB (by simp), hq⟩

end Go.Proofs.Ytmbmopiicofhdaa
