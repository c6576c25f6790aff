/- Whether the document's own answer holds lists of texts for the same. -/
import Derived.Test.YtaonjhhpiihejaaRows
import Derived.Test.YtaonjhhpiihejaaInts
import Derived.Test.YtaonjhhpiihejaaGap
import Derived.Test.YtaonjhhpiihejaaEls
import Derived.Deep.QuietTactic
import Derived.Deep.RegionHeld3
import Derived.Deep.AppendLies
import Derived.Deep.DrawnRows
import Derived.BigQuiet
import Derived.IntWalk
set_option linter.unusedVariables false
set_option linter.unusedSimpArgs false
namespace Go.Proofs.Ytaonjhhpiihejaa
open Go.RowKit
attribute [local go_sem ↓] Go.wp_at_zero Go.wp_at_succ
namespace Gr

set_option maxHeartbeats 800000 in
theorem sames_any (va vb : Value) (xs ys : List ByteArray) (w : World) (ha : SLst w va xs) (hb : SLst w vb ys) (hx : xs.length < 1099511627776) (hy : ys.length < 1099511627776) :
    Calls Try.prog 13 #[va, vb] w fun e w' => e = .returned (.bool (decide (xs = ys))) ∧ Q w w' := by
  by_cases hl : xs.length = ys.length
  · by_cases h0 : xs.length = 0
    · have hx0 : xs = [] := List.eq_nil_of_length_eq_zero h0
      have hy0 : ys = [] := List.eq_nil_of_length_eq_zero (by omega)
      subst hx0; subst hy0
      obtain ⟨a, c, rfl⟩ := ha.shape
      obtain ⟨b, d, rfl⟩ := hb.shape
      clear ha hb hl h0 hx hy
      go_enter Try.func13, Try.ntmps13
      go_wp2
      refine wp_loop_rounds 1 ?_
      rw [rounds_succ]
      go_wp2
      go_ret
      exact ⟨rfl, Q.refl _⟩
    · rcases ha with ⟨rfl, _⟩ | ⟨g, off, cap, rfl, hg, _, _, hca⟩
      · exact absurd rfl h0
      rcases hb with ⟨rfl, _⟩ | ⟨g2, off2, cap2, rfl, hg2, _, _, hcb⟩
      · exact absurd hl h0
      have HL := Lib.hid hl
      have hle : ((xs.length : Int) == (ys.length : Int)) = true := by rw [hl]; simp
      have hne : ((xs.length : Int) != (ys.length : Int)) = false := by rw [hl]; simp
      clear hl h0
      go_enter Try.func13, Try.ntmps13
      go_wp2
      go_loopw [5] (fun i wr => ∃ k : Nat, i = .int .i64 k ∧ k ≤ xs.length ∧ Q w wr ∧ xs.take k = ys.take k) (fun i _ => xs.length - (intOf i).toNat)
      case atStart => exact ⟨0, rfl, by omega, Q.refl _, by simp⟩
      case round =>
        obtain ⟨k, rfl, hk, hq, he⟩ := hrel
        have HE := Lib.hid he
        clear he
        by_cases hlt : k < xs.length
        · have hly : k < ys.length := by rw [← HL.out]; exact hlt
          have c1 := (World.cell?_of_block (w := w) (a := ⟨g, off + k, none⟩) (hq.block hg)).trans (hca k _ (List.getElem?_eq_getElem hlt))
          have c2 := (World.cell?_of_block (w := w) (a := ⟨g2, off2 + k, none⟩) (hq.block hg2)).trans (hcb k _ (List.getElem?_eq_getElem hly))
          have hky : (k : Int) < (ys.length : Int) := by omega
          have hkx : (k : Int) < (xs.length : Int) := by omega
          have hsx := List.take_succ_eq_append_getElem hlt
          have hsy := List.take_succ_eq_append_getElem hly
          have hdif : xs[k] ≠ ys[k] → xs ≠ ys := by
            intro h e
            apply h
            subst e; rfl
          generalize xs[k] = p at c1 hsx hdif
          generalize ys[k] = q at c2 hsy hdif
          have HSX := Lib.hid hsx
          have HSY := Lib.hid hsy
          have HD := Lib.hid hdif
          clear hsx hsy hdif
          by_cases hpq : p = q
          · subst hpq
            go_wp2_with fail
            go_quiet (fail)
            go_wp2_with fail
            exact ⟨⟨k + 1, by go_num, by omega, hq.drewN _, by rw [HSX.out, HSY.out, HE.out]⟩, by simp [intOf]; omega⟩
          · have HF : Hid (decide (xs = ys) = false) := Lib.hid (decide_eq_false (HD.out hpq))
            have ht := str_ne hpq
            clear hpq
            go_wp2_with fail
            go_quiet (fail)
            go_wp2_with fail
            go_ret
            rw [HF.out]
            exact ⟨rfl, hq.drewN _⟩
        · have HF : Hid (decide (xs = ys) = true) := Lib.hid (decide_eq_true (by
            have h1 := HE.out; have h2 := HL.out
            rw [List.take_of_length_le (by omega), List.take_of_length_le (by omega)] at h1
            exact h1))
          go_wp2_with fail
          go_ret
          rw [HF.out]
          exact ⟨rfl, hq⟩
  · have hne : ((xs.length : Int) == (ys.length : Int)) = false := by rw [beq_eq_false_iff_ne]; omega
    have hne2 : ((xs.length : Int) != (ys.length : Int)) = true := by rw [bne_iff_ne]; omega
    have HF : Hid (decide (xs = ys) = false) := Lib.hid (decide_eq_false (fun h => hl (by rw [h])))
    obtain ⟨a, c, rfl⟩ := ha.shape
    obtain ⟨b, d, rfl⟩ := hb.shape
    clear ha hb hl
    go_enter Try.func13, Try.ntmps13
    go_wp2
    go_ret
    rw [HF.out]
    exact ⟨rfl, Q.refl _⟩

end Gr
end Go.Proofs.Ytaonjhhpiihejaa
