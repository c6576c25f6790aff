/- What the document's own Compare, Add, Less and Times of digits come to, by a walk through each. -/
import Derived.Test.YtagpofhencpliaaRows
import Derived.Test.YtagpofhencpliaaDigL
import Derived.Test.YtagpofhencpliaaInts
import Derived.Test.YtagpofhencpliaaSto
import Derived.Test.YtagpofhencpliaaDigR
import Derived.Deep.QuietTactic
import Derived.Deep.RegionWith
import Derived.BigQuiet
set_option linter.unusedVariables false
set_option linter.unusedSimpArgs false
namespace Go.Proofs.Ytagpofhencpliaa
open Go.RowKit
namespace Dr

set_option maxHeartbeats 1600000 in
theorem compare_any (va vb : Value) (xs ys : List Int) (w : World) (hv : Lst w va xs) (hu : Lst w vb ys) (hl : xs.length < 1000000) (hl2 : ys.length < 1000000) (hx : Dm.okD xs) (hy : Dm.okD ys) :
    Calls Try.prog 58 #[va, vb] w fun e w' => e = .returned (.int .i64 (Dm.cmpZ (Dm.num xs) (Dm.num ys))) ∧ Q w w' := by
  have H1 := Lib.hid (trim_any va xs w hv (by omega))
  have H2 := Lib.hid (fun w' (q : Q w w') => trim_any vb ys w' (hu.q q) (by omega))
  have HLT := Lib.hid (Dm.cmp_len_lt xs ys hx hy)
  have HGT := Lib.hid (Dm.cmp_len_gt xs ys hx hy)
  have HEQ := Lib.hid (Dm.cmp_len_eq xs ys hx hy)
  have hp : (Dm.trimL xs).length < 1000000 := by rw [Dm.trim_len]; omega
  have hq : (Dm.trimL ys).length < 1000000 := by rw [Dm.trim_len]; omega
  generalize Dm.cmpZ (Dm.num xs) (Dm.num ys) = r at *
  generalize Dm.trimL xs = X at *
  generalize Dm.trimL ys = Y at *
  have L1 := Lib.hid (Dm.lexC_lt X Y)
  have L2 := Lib.hid (Dm.lexC_gt X Y)
  have L3 := Lib.hid (Dm.lexC_on X Y)
  have L6 := Lib.hid (Dm.lexC_end X Y)
  obtain ⟨p, hpe⟩ : ∃ p, p = X.length := ⟨_, rfl⟩
  obtain ⟨q, hqe⟩ : ∃ q, q = Y.length := ⟨_, rfl⟩
  rw [← hpe] at hp HLT HGT HEQ L1 L2 L3 L6
  rw [← hqe] at hq HLT HGT HEQ L1 L2 L3 L6
  have HPE := Lib.hid hpe
  have HQE := Lib.hid hqe
  clear hv hu hx hy hpe hqe
  go_enter Try.func58, Try.ntmps58
  go_wp2_with fail
  refine H1.out.mono ?_
  rintro e w1 ⟨u1, rfl, ho1, hq1⟩
  obtain ⟨a, c, rfl, hac, _⟩ := ho1.lst.form0 HPE.out.symm
  have HO1 := Lib.hid ho1.lst
  have H2' := Lib.hid (H2.out w1 hq1)
  clear ho1
  go_wp2_with fail
  refine H2'.out.mono ?_
  rintro e w2 ⟨u2, rfl, ho2, hq2⟩
  obtain ⟨b, d, rfl, hbd, _⟩ := ho2.lst.form0 HQE.out.symm
  have HX := Lib.hid (fun k (hk : k < p) => (HO1.out.q hq2).cellOf (n := p) (k := k) HPE.out.symm hk)
  have HY := Lib.hid (fun k (hk : k < q) => ho2.lst.cellOf (n := q) (k := k) HQE.out.symm hk)
  have HQ2 := Lib.hid (hq1.trans hq2)
  clear ho2 hq1 hq2
  rcases Nat.lt_trichotomy p q with h | h | h
  · have HF := Lib.hid (HLT.out h)
    go_wp2_with fail
    go_ret
    rw [HF.out]
    exact ⟨rfl, HQ2.out⟩
  · have HF := Lib.hid (HEQ.out h)
    subst h
    go_wp2_with fail
    go_loopw [7] (fun i wr => ∃ k : Nat, i = .int .i64 k ∧ k ≤ p ∧ Dm.lexC (X.drop k) (Y.drop k) = r ∧ Q w2 wr) (fun i _ => p - (intOf i).toNat)
    case atStart => exact ⟨0, rfl, by omega, HF.out.symm, Q.refl _⟩
    case round =>
      obtain ⟨k, rfl, hk, hc, hq3⟩ := hrel
      have HI := Lib.hid hc
      clear hc
      by_cases hlt : k < p
      · obtain ⟨g, off, cap, hvv, hg, _, _, c1'⟩ := HX.out k hlt
        cases hvv
        obtain ⟨g2, off2, cap2, hvv2, hg2, _, _, c2'⟩ := HY.out k hlt
        cases hvv2
        have c1 := (World.cell?_of_block (w := w2) (hq3.block hg) (a := ⟨g, off + k, none⟩)).trans c1'
        have c2 := (World.cell?_of_block (w := w2) (hq3.block hg2) (a := ⟨g2, off2 + k, none⟩)).trans c2'
        have h1 := L1.out k hlt hlt
        have h2 := L2.out k hlt hlt
        have h3 := L3.out k hlt hlt
        generalize X.getD k 0 = y at *
        generalize Y.getD k 0 = z at *
        have hki : (k : Int) < (p : Int) := by omega
        have HQ3 := Lib.hid (HQ2.out.trans hq3)
        have HQ4 := Lib.hid hq3
        clear c1' c2' hq3
        rcases Int.lt_trichotomy y z with h | h | h
        · have HR := Lib.hid ((h1 h).symm.trans HI.out)
          clear h1 h2 h3
          go_wp2_with fail
          go_quiet (fail)
          go_wp2_with fail
          go_ret
          rw [← HR.out]
          exact ⟨rfl, HQ3.out.drewN _⟩
        · have HR := Lib.hid ((h3 h).symm.trans HI.out)
          subst h
          clear h1 h2 h3
          go_wp2_with fail
          go_quiet (fail)
          go_wp2_with fail
          go_quiet (fail)
          go_wp2_with fail
          exact ⟨⟨k + 1, by go_num, by omega, HR.out, HQ4.out.drewN _⟩, by simp [intOf]; omega⟩
        · have HR := Lib.hid ((h2 h).symm.trans HI.out)
          have hn : ¬ y < z := by omega
          clear h1 h2 h3
          go_wp2_with fail
          go_quiet (fail)
          go_wp2_with fail
          go_quiet (fail)
          go_wp2_with fail
          go_ret
          rw [← HR.out]
          first
            | exact ⟨rfl, HQ3.out.drewN _⟩
            | exact ⟨rfl, (HQ3.out.drewN _).drewN _⟩
      · have HR := Lib.hid ((L6.out k (by omega) (by omega)).symm.trans HI.out)
        have HQ3 := Lib.hid (HQ2.out.trans hq3)
        clear hq3
        go_wp2_with fail
        go_ret
        rw [← HR.out]
        exact ⟨rfl, HQ3.out⟩
  · have HF := Lib.hid (HGT.out h)
    have hn : ¬ p < q := by omega
    go_wp2_with fail
    go_ret
    rw [HF.out]
    exact ⟨rfl, HQ2.out⟩

end Dr
end Go.Proofs.Ytagpofhencpliaa
