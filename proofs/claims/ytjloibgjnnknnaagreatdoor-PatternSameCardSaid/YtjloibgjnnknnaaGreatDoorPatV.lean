/- The document's own answers on patterns: SamePieces. -/
import Derived.Test.YtjloibgjnnknnaaGreatDoorRows
import Derived.Test.YtjloibgjnnknnaaGreatDoorInts
import Derived.Test.YtjloibgjnnknnaaGreatDoorEls
import Derived.Test.YtjloibgjnnknnaaGreatDoorUtfM
import Derived.Test.YtjloibgjnnknnaaGreatDoorUtfG
import Derived.Test.YtjloibgjnnknnaaGreatDoorUtfR
import Derived.Test.YtjloibgjnnknnaaGreatDoorPcs
import Derived.Test.YtjloibgjnnknnaaGreatDoorPatM
import Derived.Test.YtjloibgjnnknnaaGreatDoorPatS
import Derived.Test.YtjloibgjnnknnaaGreatDoorPatT
import Derived.Deep.QuietTactic
import Derived.Deep.RegionHeld3
import Derived.BigQuiet
import Derived.IntWalk
set_option linter.unusedVariables false
set_option linter.unusedSimpArgs false
namespace Go.Proofs.YtjloibgjnnknnaaGreatDoor
open Go.RowKit
namespace Pr
open Pt Um

set_option maxRecDepth 100000 in
set_option maxHeartbeats 1600000 in
theorem samep_any (va vb : Value) (xs ys : List Pc.E) (w : World) (ha : Pc.LstP w va xs) (hb : Pc.LstP w vb ys) (hx : xs.length < 1099511627776) (hy : ys.length < 1099511627776) :
    Calls Tryz.prog 18 #[va, vb] w fun e w' => e = .returned (.bool (decide (xs = ys))) ∧ Q w w' := by
  by_cases hl : xs.length = ys.length
  · obtain ⟨n, hn⟩ : ∃ n, n = xs.length := ⟨_, rfl⟩
    have hny : ys.length = n := by omega
    have HA := Lib.hid ha
    have HB := Lib.hid hb
    obtain ⟨a1, c1, rfl, _, _⟩ := ha.form0 hn.symm
    obtain ⟨a2, c2, rfl, _, _⟩ := hb.form0 hny
    have HNX := Lib.hid hn
    have HNY := Lib.hid hny
    rw [← hn] at hx
    clear ha hb hl hn hny hy
    go_enter Tryz.func18, Tryz.ntmps18
    go_wp2_with fail
    go_loopw [5] (fun i wr => ∃ k : Nat, i = .int .i64 k ∧ k ≤ n ∧ Q w wr ∧ xs.take k = ys.take k) (fun i _ => n - (intOf i).toNat)
    case atStart => exact ⟨0, rfl, by omega, Q.refl _, by simp⟩
    case round =>
      obtain ⟨k, rfl, hk, hq, he⟩ := hrel
      have HE := Lib.hid he
      clear he
      by_cases hlt : k < n
      · have hki : (k : Int) < (n : Int) := by omega
        have hkx : k < xs.length := by have := HNX.out; omega
        have hky : k < ys.length := by have := HNY.out; omega
        obtain ⟨g, off, cap, hvv, hg, hn1, hn2, d1, d2⟩ := HA.out.cellOf HNX.out.symm hlt
        cases hvv
        obtain ⟨g2, off2, cap2, hvv2, hg2, hn3, hn4, d3, d4⟩ := HB.out.cellOf HNY.out hlt
        cases hvv2
        have e1 := (World.cell?_of_block (w := w) (hq.block hg) (a := ⟨g, off + k * 2, none⟩)).trans d1
        have e2 := (World.cell?_of_block (w := w) (hq.block hg) (a := ⟨g, off + k * 2 + 1, none⟩)).trans d2
        have e3 := (World.cell?_of_block (w := w) (hq.block hg2) (a := ⟨g2, off2 + k * 2, none⟩)).trans d3
        have e4 := (World.cell?_of_block (w := w) (hq.block hg2) (a := ⟨g2, off2 + k * 2 + 1, none⟩)).trans d4
        unfold Pc.txt at e2 e4
        have hsx := List.take_succ_eq_append_getElem hkx
        have hsy := List.take_succ_eq_append_getElem hky
        have gx : xs.getD k (0, []) = xs[k] := by rw [List.getD_eq_getElem?_getD, List.getElem?_eq_getElem hkx]; rfl
        have gy : ys.getD k (0, []) = ys[k] := by rw [List.getD_eq_getElem?_getD, List.getElem?_eq_getElem hky]; rfl
        have hdif : xs[k] ≠ ys[k] → xs ≠ ys := by
          intro h e
          apply h
          subst e; rfl
        rw [gx] at e1 e2
        rw [gy] at e3 e4
        clear d1 d2 d3 d4 gx gy
        generalize xs[k] = p at *
        generalize ys[k] = q at *
        have HSX := Lib.hid hsx
        have HSY := Lib.hid hsy
        have HD := Lib.hid hdif
        clear hsx hsy hdif
        obtain ⟨pk, pt⟩ := p
        obtain ⟨qk, qt⟩ := q
        simp only at e1 e2 e3 e4
        by_cases h1 : pk = qk
        · by_cases h2 : pt = qt
          · subst h1; subst h2
            generalize (⟨pt.toArray⟩ : ByteArray) = T at *
            go_wp2_with fail
            go_quiet (fail)
            go_wp2_with fail
            exact ⟨⟨k + 1, by go_num, by omega, hq.drewN _, by rw [HSX.out, HSY.out, HE.out]⟩, by simp [intOf]; omega⟩
          · subst h1
            have HF : Hid (decide (xs = ys) = false) := Lib.hid (decide_eq_false (HD.out (fun e => h2 (congrArg Prod.snd e))))
            have ht := str_ne (p := ⟨pt.toArray⟩) (q := ⟨qt.toArray⟩) (fun e => h2 (by have := congrArg (fun b => b.data.toList) e; simpa using this))
            generalize (⟨pt.toArray⟩ : ByteArray) = T at *
            generalize (⟨qt.toArray⟩ : ByteArray) = U at *
            clear h2
            go_wp2_with fail
            go_quiet (fail)
            go_wp2_with fail
            go_ret
            rw [HF.out]
            exact ⟨rfl, hq.drewN _⟩
        · have HF : Hid (decide (xs = ys) = false) := Lib.hid (decide_eq_false (HD.out (fun e => h1 (congrArg Prod.fst e))))
          have ht : (pk == qk) = false := beq_eq_false_iff_ne.2 h1
          generalize (⟨pt.toArray⟩ : ByteArray) = T at *
          generalize (⟨qt.toArray⟩ : ByteArray) = U at *
          clear h1
          go_wp2_with fail
          go_quiet (fail)
          go_wp2_with fail
          go_ret
          rw [HF.out]
          exact ⟨rfl, hq.drewN _⟩
      · have HF : Hid (decide (xs = ys) = true) := Lib.hid (decide_eq_true (by
          have h1 := HE.out; have h2 := HNX.out; have h3 := HNY.out
          rw [List.take_of_length_le (by omega), List.take_of_length_le (by omega)] at h1
          exact h1))
        have hki : ¬ (k : Int) < (n : Int) := by omega
        go_wp2_with fail
        go_ret
        rw [HF.out]
        exact ⟨rfl, hq⟩
  · have hne : ((xs.length : Int) == (ys.length : Int)) = false := by rw [beq_eq_false_iff_ne]; omega
    have hne2 : ((xs.length : Int) != (ys.length : Int)) = true := by rw [bne_iff_ne]; omega
    have HF : Hid (decide (xs = ys) = false) := Lib.hid (decide_eq_false (fun h => hl (by rw [h])))
    obtain ⟨a, c, rfl⟩ := ha.shape
    obtain ⟨b, d, rfl⟩ := hb.shape
    clear ha hb hl
    go_enter Tryz.func18, Tryz.ntmps18
    go_wp2_with fail
    go_ret
    rw [HF.out]
    exact ⟨rfl, Q.refl _⟩

end Pr
end Go.Proofs.YtjloibgjnnknnaaGreatDoor
