/- What the document's own Parts of a decimal come to, by a walk through it. -/
import Derived.Test.YtagpofhencpliaaRows
import Derived.Test.YtagpofhencpliaaDigL
import Derived.Test.YtagpofhencpliaaDecM
import Derived.Test.YtagpofhencpliaaInts
import Derived.Test.YtagpofhencpliaaSto
import Derived.Test.YtagpofhencpliaaDigR
import Derived.Test.YtagpofhencpliaaDigS
import Derived.Test.YtagpofhencpliaaDigO
import Derived.Test.YtagpofhencpliaaDecR
import Derived.Test.YtagpofhencpliaaDecS
import Derived.Test.YtagpofhencpliaaDecC
import Derived.Deep.QuietTactic
import Derived.Deep.RegionWith
import Derived.Deep.RegionHeld3
import Derived.BigQuiet
set_option linter.unusedVariables false
set_option linter.unusedSimpArgs false
namespace Go.Proofs.Ytagpofhencpliaa
open Go.RowKit
namespace Er
set_option maxHeartbeats 3200000 in
theorem parts_any (g : Bool) (v : Value) (s : Nat) (L : List Int) (w : World) (hv : Lst w v L) (hl : L.length < 10000) (hd : Dm.okD L) (hs : s ≤ 1000) :
    Calls Try.prog 57 #[dv g v s] w fun e w' => ∃ x y, e = .returned (.tuple #[x, y]) ∧ Lst w' x (Dm.dg (Dm.num ((List.replicate (s - L.length) 0 ++ L).take (L.length - s)))) ∧ Lst w' y ((List.replicate (s - L.length) 0 ++ L).drop (L.length - s)) ∧ Q w w' := by
  obtain ⟨n, hn⟩ : ∃ n, n = L.length := ⟨_, rfl⟩
  obtain ⟨a, c, rfl⟩ := hv.shape
  rw [← hn] at hv hl ⊢
  have HV := Lib.hid (fun u (q : Q w u) => hv.q q)
  have HK := Lib.hid (fun u (q : Q (w.alloc (.cells #[.bool g, .slice a n c, .int .i64 s] 40)) u) => block_cells ((q.block (lt_of_block (heap_alloc_new w _))).trans (heap_alloc_new w _)))
  have HXL := Lib.hid hn
  have HD := Lib.hid hd
  have hol := Own.nil (w.alloc (.cells #[.bool g, .slice a n c, .int .i64 s] 40)) (w.heap.size + 1)
  have HOL := Lib.hid hol
  clear hv hn hd hol
  go_enter Try.func57, Try.ntmps57
  unfold dv
  go_wp2_with fail
  go_loopw [4, 5] (fun u t wr => ∃ j : Nat, t = .int .i64 (n + j : Nat) ∧ (j = 0 ∨ n + j ≤ s) ∧ Own wr (w.heap.size + 1) u (List.replicate j 0) ∧ Q (w.alloc (.cells #[.bool g, .slice a n c, .int .i64 s] 40)) wr) (fun _ t _ => s - (intOf t).toNat)
  case atStart => exact ⟨0, rfl, .inl rfl, by rw [List.replicate_zero]; exact HOL.out, Q.refl _⟩
  case round =>
    obtain ⟨j, rfl, hj, ho, hq⟩ := hrel
    obtain ⟨k0, k1, k2, _, _, _⟩ := HK.out wr hq
    by_cases hlt : n + j < s
    · have hB : w.heap.size + 1 ≤ wr.heap.size := by have := hq.le; rw [World.size_alloc] at this; omega
      have hlt2 : (n : Int) + (j : Int) < (s : Int) := by omega
      have HWL := Lib.hid (show (List.replicate j (0 : Int)).length < 1099511627776 from by rw [List.length_replicate]; omega)
      have HRS := Lib.hid (show List.replicate j (0 : Int) ++ [(0 : Int)] = List.replicate (j + 1) 0 from by rw [← List.replicate_succ'])
      go_wp2_with (at_builtin; refine push_int ho rfl _ _ rfl _ (by rfl) (by rfl) HWL.out hB ?_)
      intro v2 w3 ho2 hg3 hat3
      rw [HRS.out] at ho2
      have HO2 := Lib.hid ho2
      have HQ3 := Lib.hid (hq.grown hg3 (fun g h => (by rw [World.size_alloc]; exact (ho.lt g h).1)))
      clear ho ho2 hg3 hat3
      go_wp2_with fail
      exact ⟨⟨j + 1, by go_num, by omega, HO2.out, HQ3.out⟩, by simp [intOf]; omega⟩
    · have hj2 : s - n = j := by omega
      have hlt2 : (s : Int) ≤ (n : Int) + (j : Int) := by omega
      have hB : w.heap.size + 1 ≤ wr.heap.size := by have := hq.le; rw [World.size_alloc] at this; omega
      have HWL := Lib.hid (show (List.replicate j (0 : Int)).length + L.length < 1099511627776 from by rw [List.length_replicate, ← HXL.out]; omega)
      have HL := Lib.hid (HV.out wr (((Q.refl w).alloc _).trans hq))
      go_wp2_with (at_builtin; refine push_list ho HL.out rfl _ _ rfl (by rfl) (by rfl) HWL.out hB ?_)
      intro v2 w3 ho2 hg3 hat3
      have HQ3 := Lib.hid (hq.grown hg3 (fun g h => (by rw [World.size_alloc]; exact (ho.lt g h).1)))
      have hpl : (List.replicate j (0 : Int) ++ L).length = j + n := by rw [List.length_append, List.length_replicate, ← HXL.out]
      have hok : Dm.okD (List.replicate j (0 : Int) ++ L) := by
        rw [Dm.okD_append]
        refine ⟨fun d hd => ?_, HD.out⟩
        have := List.eq_of_mem_replicate hd
        omega
      obtain ⟨p, hp⟩ : ∃ p, p = j + n := ⟨_, rfl⟩
      rw [← hp] at hpl
      have hlst := ho2.lst
      obtain ⟨f, cc, rfl, hca, hcb⟩ := hlst.form0 hpl
      have HO := Lib.hid hlst
      unfold maxLen at hcb
      clear hlst
      obtain ⟨q, hqe⟩ : ∃ q, q = n - s := ⟨_, rfl⟩
      have hq1 : (p : Int) - (s : Int) = (q : Int) := by omega
      have hqp : q ≤ p := by omega
      have HE := Lib.hid (show s - n = j ∧ n - s = q from ⟨hj2, hqe.symm⟩)
      generalize hPe : List.replicate j (0 : Int) ++ L = P at *
      have HP := Lib.hid hPe
      clear hPe
      have TR := Lib.hid (fun u (h : Q w3 u ∧ True) => (by
        have ht := (HO.out.q h.1).take q (by omega)
        have hok2 : Dm.okD (P.take q) := fun d hd => hok d (List.mem_of_mem_take hd)
        have htr := Dm.trim_eq (P.take q) hok2
        refine (Dr.trim_any _ _ u ht (by rw [List.length_take]; omega)).mono ?_
        rintro e w' ⟨x, rfl, ho, hq⟩
        rw [htr] at ho
        obtain ⟨e1, e2, rfl⟩ := ho.shape
        exact ⟨e1, e2, rfl, ho.lst, h.1.trans hq, trivial⟩ : Calls Try.prog 63 #[.slice f q cc] u fun e w' => ∃ e1 e2, e = .returned (.slice e1 (Dm.dg (Dm.num (P.take q))).length e2) ∧ Lst w' (.slice e1 (Dm.dg (Dm.num (P.take q))).length e2) (Dm.dg (Dm.num (P.take q))) ∧ (Q w3 w' ∧ True)))
      obtain ⟨k0, k1, k2, _, _, _⟩ := HK.out w3 HQ3.out
      have HR := Lib.hid (HO.out.rest hpl hqp)
      have HRU := Lib.hid (fun u (h : Q w3 u) => (HO.out.q h).rest hpl hqp)
      generalize hYe : Dm.dg (Dm.num (P.take q)) = Y at *
      have HY := Lib.hid hYe
      clear hYe
      generalize Y.length = r at *
      clear ho ho2 hg3 hat3 hq hj hj2 hlt hlt2 hp hpl hok hqe
      have hst : Q w3 w3.drew ∧ True := ⟨(Q.refl _).drew, trivial⟩
      have hst0 : Q w3 w3 ∧ True := ⟨Q.refl _, trivial⟩
      have hcq : (q : Int) ≤ (cc : Int) := by omega
      have hcp : (p : Int) ≤ (cc : Int) := by omega
      rcases HR.out with ⟨gg, off, rfl, hz, hnc, hcm, hrl⟩ | ⟨rfl, rfl, hrl⟩ | ⟨ad, rfl, rfl, hnc, hcm, hrl⟩
      · go_wp2_with fail
        go_region_held3 (fun u => Q w3 u ∧ True) (first | exact hst | exact hst0 | assumption) (first | (go_at_call 63; refine (TR.out _ ?_).mono ?_; assumption; rintro e z4 ⟨x1, x2, rfl, hlt4, hS⟩))
        have HQ4 := Lib.hid ((((Q.refl w).alloc _).trans HQ3.out).trans hS.1)
        have HL4 := Lib.hid hlt4
        have hq4 := hS.1
        have HR4 := Lib.hid (hrl.q hq4)
        clear hst hst0 hq4 hlt4 hS
        go_wp2_with fail
        go_ret2
        rw [HE.out.1, HE.out.2, HP.out, HY.out]
        exact ⟨_, _, rfl, HL4.out, HR4.out, HQ4.out⟩
      · go_wp2_with fail
        go_region_held3 (fun u => Q w3 u ∧ True) (first | exact hst | exact hst0 | assumption) (first | (go_at_call 63; refine (TR.out _ ?_).mono ?_; assumption; rintro e z4 ⟨x1, x2, rfl, hlt4, hS⟩))
        have HQ4 := Lib.hid ((((Q.refl w).alloc _).trans HQ3.out).trans hS.1)
        have HL4 := Lib.hid hlt4
        have hq4 := hS.1
        have HR4 := Lib.hid hrl
        clear hst hst0 hq4 hlt4 hS
        go_wp2_with fail
        go_ret2
        rw [HE.out.1, HE.out.2, HP.out, HY.out]
        exact ⟨_, _, rfl, HL4.out, by rw [HR4.out]; exact .nil _ _ _ (by unfold maxLen; omega) (by intro h; omega), HQ4.out⟩
      · go_wp2_with fail
        go_region_held3 (fun u => Q w3 u ∧ True) (first | exact hst | exact hst0 | assumption) (first | (go_at_call 63; refine (TR.out _ ?_).mono ?_; assumption; rintro e z4 ⟨x1, x2, rfl, hlt4, hS⟩))
        have HQ4 := Lib.hid ((((Q.refl w).alloc _).trans HQ3.out).trans hS.1)
        have HL4 := Lib.hid hlt4
        have hq4 := hS.1
        have HR4 := Lib.hid hrl
        clear hst hst0 hq4 hlt4 hS
        go_wp2_with fail
        go_ret2
        rw [HE.out.1, HE.out.2, HP.out, HY.out]
        exact ⟨_, _, rfl, HL4.out, by rw [HR4.out]; exact .nil _ _ _ (by unfold maxLen; omega) (by intro h; cases h), HQ4.out⟩
end Er
end Go.Proofs.Ytagpofhencpliaa
