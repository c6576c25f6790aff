/- What the program's Align and Parts of decimals come to, by a walk through each. -/
import Derived.Test.YtagpofhencpliaaRows
import Derived.Test.YtagpofhencpliaaDigL
import Derived.Test.YtagpofhencpliaaDecM
import Derived.Test.YtagpofhencpliaaInts
import Derived.Test.YtagpofhencpliaaSto
import Derived.Test.YtagpofhencpliaaStoB
import Derived.Test.YtagpofhencpliaaDigW
import Derived.Test.YtagpofhencpliaaDigV
import Derived.Test.YtagpofhencpliaaDigX
import Derived.Test.YtagpofhencpliaaDigQ
import Derived.Test.YtagpofhencpliaaDecR
import Derived.Test.YtagpofhencpliaaDecS
import Derived.Test.YtagpofhencpliaaDecC
import Derived.Test.YtagpofhencpliaaDecP
import Derived.Test.YtagpofhencpliaaDecQ
import Derived.Test.YtagpofhencpliaaDecI
import Derived.Test.YtagpofhencpliaaDecJ
import Derived.Deep.QuietTactic
import Derived.Deep.RegionWith
import Derived.Deep.RegionHeld3
import Derived.BigQuiet
import Derived.Laws.ResultCell
set_option linter.unusedVariables false
set_option linter.unusedSimpArgs false
namespace Go.Proofs.Ytagpofhencpliaa
open Go.RowKit
namespace Ep
open Er (dv cellV LF LF.of LF.nil LF.mono LF.q LF.put LF.shape LF.lst block_cells some_cells block_set wrapI num_shl okD_shl)
/-- The own copy is written anew. -/
theorem SD.reset {w u : World} {g : Bool} {v : Value} {s : Int} (h : SD w g v s u) (g2 : Bool) (v2 : Value) (s2 : Int) : SD w g2 v2 s2 (((u.setCell ⟨w.heap.size, 0, none⟩ (.bool g2)).setCell ⟨w.heap.size, 1, none⟩ v2).setCell ⟨w.heap.size, 2, none⟩ (.int .i64 s2)) := by
  obtain ⟨_, _, _, _, _, _, _, _, _, h0, ⟨x0, y0, z0, h1⟩, h2⟩ := h
  have hb := block_set (x' := .bool g2) (y' := v2) (z' := .int .i64 s2) h0
  refine SD.of hb ⟨x0, y0, z0, ?_⟩ (((h2.setCell (ad := ⟨w.heap.size, 0, none⟩) (Nat.le_refl _) _).setCell (ad := ⟨w.heap.size, 1, none⟩) (Nat.le_refl _) v2).setCell (ad := ⟨w.heap.size, 2, none⟩) (Nat.le_refl _) _)
  rw [heap_setCell_other _ ⟨w.heap.size, 2, none⟩ _ _ (by simp), heap_setCell_other _ ⟨w.heap.size, 1, none⟩ _ v2 (by simp), heap_setCell_other _ ⟨w.heap.size, 0, none⟩ _ _ (by simp)]
  exact h1
set_option maxHeartbeats 3200000 in
theorem parts_any (g : Bool) (v : Value) (s : Nat) (L : List Int) (w : World) (hv : Lst w v L) (hl : L.length < 10000) (hd : Dm.okD L) (hs : s ≤ 1000) :
    Calls Try.prog 54 #[dv g v s] w fun e w' => ∃ x y, e = .returned (.tuple #[x, y]) ∧ Lst w' x (Dm.dg (Dm.num ((List.replicate (s - L.length) 0 ++ L).take (L.length - s)))) ∧ Lst w' y ((List.replicate (s - L.length) 0 ++ L).drop (L.length - s)) ∧ Q w w' := by
  obtain ⟨n, hn⟩ : ∃ n, n = L.length := ⟨_, rfl⟩
  obtain ⟨a, c, rfl⟩ := hv.shape
  have hok := (Dm.okB_iff L).2 hd
  have MA := Lib.hid (fun u (q : Q w u) => (by
    have e := may_any g (.slice a L.length c) s L u (hv.q q) (by omega) (by omega)
    rw [hok, show decide (0 ≤ (s : Int)) = true from by simp, show decide ((s : Int) ≤ 1000) = true from by simp; omega] at e
    exact e : Calls Try.prog 51 #[.agg #[.bool g, .slice a L.length c, .int .i64 s]] u fun e w' => e = .returned (.bool true) ∧ Q u w'))
  have WD := Lib.hid (fun u (q : Q w u) => (by
    refine (widen_any _ L s u (hv.q q) (by omega) (by omega)).mono ?_
    rintro e w' ⟨x, rfl, ho, hq⟩
    obtain ⟨xa, xc, rfl⟩ := ho.shape
    exact ⟨xa, xc, rfl, ho.lst, hq⟩ : Calls Try.prog 68 #[.slice a L.length c, .int .i64 (s : Int)] u fun e w' => ∃ xa xc, e = .returned (.slice xa (List.replicate (s - L.length) 0 ++ L).length xc) ∧ Lst w' (.slice xa (List.replicate (s - L.length) 0 ++ L).length xc) (List.replicate (s - L.length) 0 ++ L) ∧ Q u w'))
  have hpl : (List.replicate (s - L.length) 0 ++ L).length = s - n + n := by rw [List.length_append, List.length_replicate, hn]
  have hokP : Dm.okD (List.replicate (s - L.length) (0 : Int) ++ L) := by
    rw [Dm.okD_append]
    refine ⟨fun d hd => ?_, hd⟩
    have := List.eq_of_mem_replicate hd
    omega
  obtain ⟨q, hqe⟩ : ∃ q, q = L.length - s := ⟨_, rfl⟩
  rw [← hqe]
  generalize List.replicate (s - L.length) (0 : Int) ++ L = P at *
  rw [← hn] at hl hqe MA WD ⊢
  have HK := Lib.hid (fun u (q : Q (w.alloc (.cells #[.bool g, .slice a n c, .int .i64 s] 41)) u) => block_cells ((q.block (lt_of_block (heap_alloc_new w _))).trans (heap_alloc_new w _)))
  obtain ⟨p, hp⟩ : ∃ p, p = P.length := ⟨_, rfl⟩
  rw [← hp] at WD
  have hp2 := hp.symm
  have hq1 : (p : Int) - (s : Int) = (q : Int) := by omega
  have hqp : q ≤ p := by omega
  have HP2 := Lib.hid hp2
  have HQ1 := Lib.hid hq1
  have HOK := Lib.hid hokP
  have hp3 : p < 100000 := by omega
  clear hv hn hd hok hpl hokP hqe hp hp2
  have hq0 : Q w (w.alloc (.cells #[.bool g, .slice a n c, .int .i64 s] 41)) := (Q.refl w).alloc _
  have HQ0 := Lib.hid hq0
  clear hq0
  go_enter Try.func54, Try.ntmps54
  unfold dv
  go_wp2_with fail
  refine (MA.out _ HQ0.out).mono ?_
  rintro e w1 ⟨rfl, hq⟩
  obtain ⟨k0, k1, k2, _, _, _⟩ := HK.out w1 hq
  have HA1 := Lib.hid hq
  clear hq
  go_wp2_with fail
  refine (WD.out _ (HQ0.out.trans HA1.out)).mono ?_
  rintro e w3 ⟨f, cc, rfl, ho, hq⟩
  have HQ3 := Lib.hid (HA1.out.trans hq)
  have HO := Lib.hid ho
  obtain ⟨_, _, hsh, hca, hcb⟩ := ho.form0 HP2.out
  cases hsh
  unfold maxLen at hcb
  clear hq ho k0 k1 k2
  obtain ⟨k0, k1, k2, _, _, _⟩ := HK.out w3 HQ3.out
  have TR := Lib.hid (fun u (h : Q w3 u ∧ True) => (by
    have ht := (HO.out.q h.1).take q (by rw [HP2.out]; exact hqp)
    have hok2 : Dm.okD (P.take q) := fun d hd => HOK.out d (List.mem_of_mem_take hd)
    have htr := Dm.trim_eq (P.take q) hok2
    refine (Dw.trim_any _ _ u ht (by rw [List.length_take]; omega)).mono ?_
    rintro e w' ⟨x, rfl, ho, hq⟩
    rw [htr] at ho
    exact ⟨x, rfl, ho.lst, h.1.trans hq, trivial⟩ : Calls Try.prog 44 #[.slice f q cc] u fun e w' => ∃ x, e = .returned x ∧ Lst w' x (Dm.dg (Dm.num (P.take q))) ∧ (Q w3 w' ∧ True)))
  have HR := Lib.hid (HO.out.rest HP2.out hqp)
  generalize hYe : Dm.dg (Dm.num (P.take q)) = Y at *
  have HY := Lib.hid hYe
  clear hYe
  have hst : Q w3 w3.drew ∧ True := ⟨(Q.refl _).drew, trivial⟩
  have hst0 : Q w3 w3 ∧ True := ⟨Q.refl _, trivial⟩
  have hcq : (q : Int) ≤ (cc : Int) := by omega
  have hcp : (p : Int) ≤ (cc : Int) := by omega
  rcases HR.out with ⟨gg, off, rfl, hz, hnc, hcm, hrl⟩ | ⟨rfl, rfl, hrl⟩ | ⟨ad, rfl, rfl, hnc, hcm, hrl⟩
  · go_wp2_with fail
    go_region_held3 (fun u => Q w3 u ∧ True) (first | exact hst | exact hst0 | assumption) (first | (go_at_call 44; refine (TR.out _ ?_).mono ?_; assumption; rintro e z4 ⟨x1, rfl, hlt4, hS⟩))
    have HQ4 := Lib.hid ((HQ0.out.trans HQ3.out).trans hS.1)
    have HL4 := Lib.hid hlt4
    have HR4 := Lib.hid (hrl.q hS.1)
    clear hst hst0 hlt4 hS
    go_wp2_with fail
    go_ret2
    rw [HY.out]
    exact ⟨_, _, rfl, HL4.out, HR4.out, HQ4.out⟩
  · go_wp2_with fail
    go_region_held3 (fun u => Q w3 u ∧ True) (first | exact hst | exact hst0 | assumption) (first | (go_at_call 44; refine (TR.out _ ?_).mono ?_; assumption; rintro e z4 ⟨x1, rfl, hlt4, hS⟩))
    have HQ4 := Lib.hid ((HQ0.out.trans HQ3.out).trans hS.1)
    have HL4 := Lib.hid hlt4
    have HR4 := Lib.hid (hrl)
    clear hst hst0 hlt4 hS
    go_wp2_with fail
    go_ret2
    rw [HY.out]
    exact ⟨_, _, rfl, HL4.out, by rw [HR4.out]; exact .nil _ _ _ (by unfold maxLen; omega) (by intro h; omega), HQ4.out⟩
  · go_wp2_with fail
    go_region_held3 (fun u => Q w3 u ∧ True) (first | exact hst | exact hst0 | assumption) (first | (go_at_call 44; refine (TR.out _ ?_).mono ?_; assumption; rintro e z4 ⟨x1, rfl, hlt4, hS⟩))
    have HQ4 := Lib.hid ((HQ0.out.trans HQ3.out).trans hS.1)
    have HL4 := Lib.hid hlt4
    have HR4 := Lib.hid (hrl)
    clear hst hst0 hlt4 hS
    go_wp2_with fail
    go_ret2
    rw [HY.out]
    exact ⟨_, _, rfl, HL4.out, by rw [HR4.out]; exact .nil _ _ _ (by unfold maxLen; omega) (by intro h; cases h), HQ4.out⟩
end Ep
end Go.Proofs.Ytagpofhencpliaa
