/- What package draft's Atoms, Len, Dec and Text come to, by a walk through each. -/
import Derived.Test.YtagpofhencpliaaRows
import Derived.Test.YtagpofhencpliaaTmM
import Derived.Test.YtagpofhencpliaaTmS
import Derived.Test.YtagpofhencpliaaTmA
import Derived.Test.YtagpofhencpliaaTmB
import Derived.Test.YtagpofhencpliaaTmC
import Derived.Test.YtagpofhencpliaaDigM
import Derived.Test.YtagpofhencpliaaDigL
import Derived.Test.YtagpofhencpliaaDecM
import Derived.Test.YtagpofhencpliaaInts
import Derived.Test.YtagpofhencpliaaSto
import Derived.Test.YtagpofhencpliaaBlk
import Derived.Test.YtagpofhencpliaaDigA
import Derived.Test.YtagpofhencpliaaDigV
import Derived.Test.YtagpofhencpliaaDecR
import Derived.Test.YtagpofhencpliaaDecP
import Derived.Test.YtagpofhencpliaaDecQ
import Derived.Test.YtagpofhencpliaaLdR
import Derived.Deep.Cut
import Derived.Deep.RegionHeld
import Derived.Deep.QuietTactic
import Derived.Deep.RegionWith
import Derived.BigQuiet
import Derived.Laws.ResultCell
set_option linter.unusedVariables false
set_option linter.unusedSimpArgs false
namespace Go.Proofs.Ytagpofhencpliaa
open Go.RowKit
namespace Tm
theorem Qeq {u v : World} (h : u = v) : Q u v := by subst h; exact Q.refl u
theorem wrapN (x : Int) (m : Nat) (h : x = (m : Int)) (hm : m < 9223372036854775808) : IntKind.i64.wrap x = (m : Int) := by
  subst h; rw [IntKind.wrap_i64]; omega
end Tm
namespace Tp
open Tm
set_option maxRecDepth 100000 in
set_option maxHeartbeats 4000000 in
theorem atoms_any (g s : Bool) (a1 a2 : Option Addr) (n1 n2 c1 c2 : Nat) (I F : List Int) (w : World) (hi : Lst w (.slice a1 n1 c1) I) (hf : Lst w (.slice a2 n2 c2) F) (k1 : I.length = n1) (k2 : F.length = n2) (l1 : n1 ≤ 100000) (l2 : n2 ≤ 100000) :
    Calls Try.prog 16 #[.agg #[.bool g, .slice a1 n1 c1, .bool s, .slice a2 n2 c2]] w fun e w' => ∃ a c, e = .returned (.slice a (n1 + (sep s).length + n2) c) ∧ Own w' (w.heap.size + 1) (.slice a (n1 + (sep s).length + n2) c) (I ++ sep s ++ F) ∧ Q w w' := by
  obtain ⟨k, hk⟩ : ∃ k, k = (sep s).length := ⟨_, rfl⟩
  have hk1 : k ≤ 1 := by rw [hk]; exact sep_len s
  have HSP := Lib.hid (fun u => by have h := separator_any g s a1 a2 n1 n2 c1 c2 u; rw [← hk] at h; exact h)
  have HCT := Lib.hid (fun u b sa sc (q : Q w u) (hB : Bk u b 22 [.slice a1 n1 c1, .slice sa k sc, .slice a2 n2 c2]) (hl : Lst u (.slice sa k sc) (sep s)) => by
    have h := Ts.concat3 u b _ _ _ I (sep s) F hB (hi.q q) hl (hf.q q) (by omega) (by omega) (by omega)
    rw [k1, k2, ← hk] at h
    exact h)
  rw [← hk]
  clear hi hf k1 k2 hk
  obtain ⟨z, hz⟩ : ∃ y, y = w.alloc (.cells #[.bool g, .slice a1 n1 c1, .bool s, .slice a2 n2 c2] 30) := ⟨_, rfl⟩
  have HQ := Lib.hid (show Q w z by rw [hz]; exact (Q.refl w).alloc _)
  have HB := Lib.hid (show Bk z w.heap.size 30 [.bool g, .slice a1 n1 c1, .bool s, .slice a2 n2 c2] by rw [hz]; exact Bk.new _ _ _)
  have HZ := Lib.hid (show z.heap.size = w.heap.size + 1 by rw [hz]; simp)
  go_enter Try.func16, Try.ntmps16
  go_upto_region 1 with fail
  rw [← hz]
  clear hz
  refine wp_region_held_drew (S := fun u => Q z u) (by kernel_rfl) (by exact (Q.refl z).drew) (fun hHeld => ?_)
  have hS : Q z z.drew := hHeld
  clear hHeld
  have hq : Q z z.drew := (Q.refl _).drew
  clear hq
  generalize z.drew = yR1x0 at *
  change wpAnyH _ _ _ _ _ _ #[false, false, false, false, false, false, false, false, false] _ _
  refine wpAnyH_take (i := 0) (v := ?vR1x1) (by (try simp only [List.getElem?_toArray, List.getElem?_cons_succ, List.getElem?_cons_zero]); rfl) (by kernel_rfl) (by kernel_rfl) (by kernel_rfl) (by exact fun _ _ _ h => h) (Or.inl ⟨by first | kernel_rfl | rfl, ?hyR1x1⟩) (by exact hS) ?rsR1x1
  case hyR1x1 => (intro uz hSw; (try dsimp only at hSw); go_simp; try with_reducible rfl)
  try simp only [Act.put, List.setIfInBounds_toArray, List.set_cons_zero, List.set_cons_succ]
  change wpAnyH _ _ _ _ _ _ #[true, false, false, false, false, false, false, false, false] _ _
  refine wpAnyH_take (i := 1) (v := ?vR1x2) (by (try simp only [List.getElem?_toArray, List.getElem?_cons_succ, List.getElem?_cons_zero]); rfl) (by kernel_rfl) (by kernel_rfl) (by kernel_rfl) (by exact fun _ _ _ h => h) (Or.inl ⟨by first | kernel_rfl | rfl, ?hyR1x2⟩) (by exact hS) ?rsR1x2
  case hyR1x2 => (intro uz hSw; (try dsimp only at hSw); have hxx := HB.out.q hSw; have d0 := hxx.cell 1 rfl; clear hxx; go_simp; try with_reducible rfl)
  try simp only [Act.put, List.setIfInBounds_toArray, List.set_cons_zero, List.set_cons_succ]
  change wpAnyH _ _ _ _ _ _ #[true, true, false, false, false, false, false, false, false] _ _
  refine wpAnyH_take (i := 2) (v := ?vR1x3) (by (try simp only [List.getElem?_toArray, List.getElem?_cons_succ, List.getElem?_cons_zero]); rfl) (by kernel_rfl) (by kernel_rfl) (by kernel_rfl) (by exact fun _ _ _ h => h) (Or.inl ⟨by first | kernel_rfl | rfl, ?hyR1x3⟩) (by exact hS) ?rsR1x3
  case hyR1x3 => (intro uz hSw; (try dsimp only at hSw); have hxx := HB.out.q hSw; have d0 := hxx.cell 0 rfl; have d1 := hxx.cell 1 rfl; have d2 := hxx.cell 2 rfl; have d3 := hxx.cell 3 rfl; clear hxx; go_simp; try with_reducible rfl)
  try simp only [Act.put, List.setIfInBounds_toArray, List.set_cons_zero, List.set_cons_succ]
  change wpAnyH _ _ _ _ _ _ #[true, true, true, false, false, false, false, false, false] _ _
  refine wpAnyH_take (i := 4) (v := ?vR1x4) (by (try simp only [List.getElem?_toArray, List.getElem?_cons_succ, List.getElem?_cons_zero]); rfl) (by kernel_rfl) (by kernel_rfl) (by kernel_rfl) (by exact fun _ _ _ h => h) (Or.inl ⟨by first | kernel_rfl | rfl, ?hyR1x4⟩) (by exact hS) ?rsR1x4
  case hyR1x4 => (intro uz hSw; (try dsimp only at hSw); go_simp; try with_reducible rfl)
  try simp only [Act.put, List.setIfInBounds_toArray, List.set_cons_zero, List.set_cons_succ]
  change wpAnyH _ _ _ _ _ _ #[true, true, true, false, true, false, false, false, false] _ _
  refine wpAnyH_take (i := 5) (v := ?vR1x5) (by (try simp only [List.getElem?_toArray, List.getElem?_cons_succ, List.getElem?_cons_zero]); rfl) (by kernel_rfl) (by kernel_rfl) (by kernel_rfl) (by exact fun _ _ _ h => h) (Or.inl ⟨by first | kernel_rfl | rfl, ?hyR1x5⟩) (by exact hS) ?rsR1x5
  case hyR1x5 => (intro uz hSw; (try dsimp only at hSw); have hxx := HB.out.q hSw; have d0 := hxx.cell 3 rfl; clear hxx; go_simp; try with_reducible rfl)
  try simp only [Act.put, List.setIfInBounds_toArray, List.set_cons_zero, List.set_cons_succ]
  change wpAnyH _ _ _ _ _ _ #[true, true, true, false, true, true, false, false, false] _ _
  refine wpAnyH_ready (rs := [3]) (by kernel_rfl) (by simp) ?_
  refine (AllReadyH.cons (by (try simp only [List.getElem?_toArray, List.getElem?_cons_succ, List.getElem?_cons_zero]); rfl) (fun K hK => ?_) AllReadyH.nil)
  go_simp
  refine (HSP.out _).mono ?_
  rintro e yR1x6 ⟨sa, sc, rfl, hsl, hq⟩
  have HSL := Lib.hid hsl
  clear hsl
  try (go_wp2_with fail)
  have hS2 := Q.trans hS hq
  refine hK.out _ _ (by exact hS2) (fun hHeld => ?_)
  clear hK K hHeld hS hq
  have hS := hS2
  clear hS2
  try simp only [Act.put, List.setIfInBounds_toArray, List.set_cons_zero, List.set_cons_succ]
  change wpAnyH _ _ _ _ _ _ #[true, true, true, true, true, true, false, false, false] _ _
  refine wpAnyH_ready (rs := [6]) (by kernel_rfl) (by simp) ?_
  refine (AllReadyH.cons (by (try simp only [List.getElem?_toArray, List.getElem?_cons_succ, List.getElem?_cons_zero]); rfl) (fun K hK => ?_) AllReadyH.nil)
  go_simp
  have hq := (Q.refl yR1x6).alloc (.cells #[.slice a1 n1 c1, .slice sa k sc, .slice a2 n2 c2] 22)
  have HX := Lib.hid (Bk.new yR1x6 22 [.slice a1 n1 c1, .slice sa k sc, .slice a2 n2 c2])
  have HW_bx := Lib.hid (Q.le hS)
  have HSL := Lib.hid (Lst.q HSL.out hq)
  have hS2 := Q.trans hS hq
  refine hK.out _ _ (by exact hS2) (fun hHeld => ?_)
  clear hK K hHeld hS hq
  have hS := hS2
  clear hS2
  generalize yR1x6.alloc (.cells #[.slice a1 n1 c1, .slice sa k sc, .slice a2 n2 c2] 22) = yR1x7 at *
  generalize yR1x6.heap.size = bx at *
  try simp only [Act.put, List.setIfInBounds_toArray, List.set_cons_zero, List.set_cons_succ]
  change wpAnyH _ _ _ _ _ _ #[true, true, true, true, true, true, true, false, false] _ _
  refine wpAnyH_ready (rs := [7]) (by kernel_rfl) (by simp) ?_
  refine (AllReadyH.cons (by (try simp only [List.getElem?_toArray, List.getElem?_cons_succ, List.getElem?_cons_zero]); rfl) (fun K hK => ?_) AllReadyH.nil)
  go_simp
  refine (HCT.out _ bx sa sc (HQ.out.trans hS) HX.out HSL.out).mono ?_
  rintro e yR1x8 ⟨ra, rc, rfl, hro, hq⟩
  have HRO := Lib.hid (hro.mono (Nat.le_trans (Nat.le_of_eq HZ.out.symm) hS.le))
  clear hro
  try (go_wp2_with fail)
  have HSL := Lib.hid (Lst.q HSL.out hq)
  have HX := Lib.hid (Bk.q HX.out hq)
  have hS2 := Q.trans hS hq
  refine hK.out _ _ (by exact hS2) (fun hHeld => ?_)
  clear hK K hHeld hS hq
  have hS := hS2
  clear hS2
  try simp only [Act.put, List.setIfInBounds_toArray, List.set_cons_zero, List.set_cons_succ]
  change wpAnyH _ _ _ _ _ _ #[true, true, true, true, true, true, true, true, false] _ _
  refine wpAnyH_take (i := 8) (v := ?vR1x9) (by (try simp only [List.getElem?_toArray, List.getElem?_cons_succ, List.getElem?_cons_zero]); rfl) (by kernel_rfl) (by kernel_rfl) (by kernel_rfl) (by exact fun _ _ _ h => h) (Or.inl ⟨by first | kernel_rfl | rfl, ?hyR1x9⟩) (by exact hS) ?rsR1x9
  case hyR1x9 => (intro uz hSw; (try dsimp only at hSw); go_simp; try with_reducible rfl)
  try simp only [Act.put, List.setIfInBounds_toArray, List.set_cons_zero, List.set_cons_succ]
  change wpAnyH _ _ _ _ _ _ #[true, true, true, true, true, true, true, true, true] _ _
  refine wpAnyH_done (by kernel_rfl) ?_ _
  go_wp2_with fail
  go_ret
  exact ⟨_, _, rfl, HRO.out, HQ.out.trans hS⟩

set_option maxRecDepth 100000 in
set_option maxHeartbeats 4000000 in
theorem len_any (g s : Bool) (a1 a2 : Option Addr) (n1 n2 c1 c2 : Nat) (w : World) (l1 : n1 ≤ 100000) (l2 : n2 ≤ 100000) :
    Calls Try.prog 17 #[.agg #[.bool g, .slice a1 n1 c1, .bool s, .slice a2 n2 c2]] w fun e w' => e = .returned (.int .i64 ((n1 + (sep s).length + n2 : Nat) : Int)) ∧ Q w w' := by
  obtain ⟨k, hk⟩ : ∃ k, k = (sep s).length := ⟨_, rfl⟩
  have hk1 : k ≤ 1 := by rw [hk]; exact sep_len s
  have HSP := Lib.hid (fun u => by have h := separator_any g s a1 a2 n1 n2 c1 c2 u; rw [← hk] at h; exact h)
  rw [← hk]
  have hw1 : IntKind.i64.wrap ((n1 : Int) + (k : Int)) = (n1 : Int) + (k : Int) := by rw [IntKind.wrap_i64]; omega
  have hw2 : IntKind.i64.wrap ((n1 : Int) + (k : Int) + (n2 : Int)) = (n1 : Int) + (k : Int) + (n2 : Int) := by rw [IntKind.wrap_i64]; omega
  clear hk
  obtain ⟨z, hz⟩ : ∃ y, y = w.alloc (.cells #[.bool g, .slice a1 n1 c1, .bool s, .slice a2 n2 c2] 30) := ⟨_, rfl⟩
  have HQ := Lib.hid (show Q w z by rw [hz]; exact (Q.refl w).alloc _)
  have HB := Lib.hid (show Bk z w.heap.size 30 [.bool g, .slice a1 n1 c1, .bool s, .slice a2 n2 c2] by rw [hz]; exact Bk.new _ _ _)
  have HZ := Lib.hid (show z.heap.size = w.heap.size + 1 by rw [hz]; simp)
  go_enter Try.func17, Try.ntmps17
  go_upto_region 1 with fail
  rw [← hz]
  clear hz
  refine wp_region_held_drew (S := fun u => Q z u) (by kernel_rfl) (by exact (Q.refl z).drew) (fun hHeld => ?_)
  have hS : Q z z.drew := hHeld
  clear hHeld
  have hq : Q z z.drew := (Q.refl _).drew
  clear hq
  generalize z.drew = yR2x0 at *
  change wpAnyH _ _ _ _ _ _ #[false, false, false, false, false, false, false, false, false, false, false, false] _ _
  refine wpAnyH_take (i := 0) (v := ?vR2x1) (by (try simp only [List.getElem?_toArray, List.getElem?_cons_succ, List.getElem?_cons_zero]); rfl) (by kernel_rfl) (by kernel_rfl) (by kernel_rfl) (by exact fun _ _ _ h => h) (Or.inl ⟨by first | kernel_rfl | rfl, ?hyR2x1⟩) (by exact hS) ?rsR2x1
  case hyR2x1 => (intro uz hSw; (try dsimp only at hSw); go_simp; try with_reducible rfl)
  try simp only [Act.put, List.setIfInBounds_toArray, List.set_cons_zero, List.set_cons_succ]
  change wpAnyH _ _ _ _ _ _ #[true, false, false, false, false, false, false, false, false, false, false, false] _ _
  refine wpAnyH_take (i := 1) (v := ?vR2x2) (by (try simp only [List.getElem?_toArray, List.getElem?_cons_succ, List.getElem?_cons_zero]); rfl) (by kernel_rfl) (by kernel_rfl) (by kernel_rfl) (by exact fun _ _ _ h => h) (Or.inl ⟨by first | kernel_rfl | rfl, ?hyR2x2⟩) (by exact hS) ?rsR2x2
  case hyR2x2 => (intro uz hSw; (try dsimp only at hSw); have hxx := HB.out.q hSw; have d0 := hxx.cell 1 rfl; clear hxx; go_simp; try with_reducible rfl)
  try simp only [Act.put, List.setIfInBounds_toArray, List.set_cons_zero, List.set_cons_succ]
  change wpAnyH _ _ _ _ _ _ #[true, true, false, false, false, false, false, false, false, false, false, false] _ _
  refine wpAnyH_take (i := 2) (v := ?vR2x3) (by (try simp only [List.getElem?_toArray, List.getElem?_cons_succ, List.getElem?_cons_zero]); rfl) (by kernel_rfl) (by kernel_rfl) (by kernel_rfl) (by exact fun _ _ _ h => h) (Or.inl ⟨by first | kernel_rfl | rfl, ?hyR2x3⟩) (by exact hS) ?rsR2x3
  case hyR2x3 => (intro uz hSw; (try dsimp only at hSw); go_simp; try with_reducible rfl)
  try simp only [Act.put, List.setIfInBounds_toArray, List.set_cons_zero, List.set_cons_succ]
  change wpAnyH _ _ _ _ _ _ #[true, true, true, false, false, false, false, false, false, false, false, false] _ _
  refine wpAnyH_take (i := 3) (v := ?vR2x4) (by (try simp only [List.getElem?_toArray, List.getElem?_cons_succ, List.getElem?_cons_zero]); rfl) (by kernel_rfl) (by kernel_rfl) (by kernel_rfl) (by exact fun _ _ _ h => h) (Or.inl ⟨by first | kernel_rfl | rfl, ?hyR2x4⟩) (by exact hS) ?rsR2x4
  case hyR2x4 => (intro uz hSw; (try dsimp only at hSw); have hxx := HB.out.q hSw; have d0 := hxx.cell 0 rfl; have d1 := hxx.cell 1 rfl; have d2 := hxx.cell 2 rfl; have d3 := hxx.cell 3 rfl; clear hxx; go_simp; try with_reducible rfl)
  try simp only [Act.put, List.setIfInBounds_toArray, List.set_cons_zero, List.set_cons_succ]
  change wpAnyH _ _ _ _ _ _ #[true, true, true, true, false, false, false, false, false, false, false, false] _ _
  refine wpAnyH_take (i := 7) (v := ?vR2x5) (by (try simp only [List.getElem?_toArray, List.getElem?_cons_succ, List.getElem?_cons_zero]); rfl) (by kernel_rfl) (by kernel_rfl) (by kernel_rfl) (by exact fun _ _ _ h => h) (Or.inl ⟨by first | kernel_rfl | rfl, ?hyR2x5⟩) (by exact hS) ?rsR2x5
  case hyR2x5 => (intro uz hSw; (try dsimp only at hSw); go_simp; try with_reducible rfl)
  try simp only [Act.put, List.setIfInBounds_toArray, List.set_cons_zero, List.set_cons_succ]
  change wpAnyH _ _ _ _ _ _ #[true, true, true, true, false, false, false, true, false, false, false, false] _ _
  refine wpAnyH_take (i := 8) (v := ?vR2x6) (by (try simp only [List.getElem?_toArray, List.getElem?_cons_succ, List.getElem?_cons_zero]); rfl) (by kernel_rfl) (by kernel_rfl) (by kernel_rfl) (by exact fun _ _ _ h => h) (Or.inl ⟨by first | kernel_rfl | rfl, ?hyR2x6⟩) (by exact hS) ?rsR2x6
  case hyR2x6 => (intro uz hSw; (try dsimp only at hSw); have hxx := HB.out.q hSw; have d0 := hxx.cell 3 rfl; clear hxx; go_simp; try with_reducible rfl)
  try simp only [Act.put, List.setIfInBounds_toArray, List.set_cons_zero, List.set_cons_succ]
  change wpAnyH _ _ _ _ _ _ #[true, true, true, true, false, false, false, true, true, false, false, false] _ _
  refine wpAnyH_take (i := 9) (v := ?vR2x7) (by (try simp only [List.getElem?_toArray, List.getElem?_cons_succ, List.getElem?_cons_zero]); rfl) (by kernel_rfl) (by kernel_rfl) (by kernel_rfl) (by exact fun _ _ _ h => h) (Or.inl ⟨by first | kernel_rfl | rfl, ?hyR2x7⟩) (by exact hS) ?rsR2x7
  case hyR2x7 => (intro uz hSw; (try dsimp only at hSw); go_simp; try with_reducible rfl)
  try simp only [Act.put, List.setIfInBounds_toArray, List.set_cons_zero, List.set_cons_succ]
  change wpAnyH _ _ _ _ _ _ #[true, true, true, true, false, false, false, true, true, true, false, false] _ _
  refine wpAnyH_ready (rs := [4]) (by kernel_rfl) (by simp) ?_
  refine (AllReadyH.cons (by (try simp only [List.getElem?_toArray, List.getElem?_cons_succ, List.getElem?_cons_zero]); rfl) (fun K hK => ?_) AllReadyH.nil)
  go_simp
  refine (HSP.out _).mono ?_
  rintro e yR2x8 ⟨sa, sc, rfl, hsl, hq⟩
  have HSL := Lib.hid hsl
  clear hsl
  try (go_wp2_with fail)
  have hS2 := Q.trans hS hq
  refine hK.out _ _ (by exact hS2) (fun hHeld => ?_)
  clear hK K hHeld hS hq
  have hS := hS2
  clear hS2
  try simp only [Act.put, List.setIfInBounds_toArray, List.set_cons_zero, List.set_cons_succ]
  change wpAnyH _ _ _ _ _ _ #[true, true, true, true, true, false, false, true, true, true, false, false] _ _
  refine wpAnyH_take (i := 5) (v := ?vR2x9) (by (try simp only [List.getElem?_toArray, List.getElem?_cons_succ, List.getElem?_cons_zero]); rfl) (by kernel_rfl) (by kernel_rfl) (by kernel_rfl) (by exact fun _ _ _ h => h) (Or.inl ⟨by first | kernel_rfl | rfl, ?hyR2x9⟩) (by exact hS) ?rsR2x9
  case hyR2x9 => (intro uz hSw; (try dsimp only at hSw); go_simp; try with_reducible rfl)
  try simp only [Act.put, List.setIfInBounds_toArray, List.set_cons_zero, List.set_cons_succ]
  change wpAnyH _ _ _ _ _ _ #[true, true, true, true, true, true, false, true, true, true, false, false] _ _
  refine wpAnyH_take (i := 6) (v := ?vR2x10) (by (try simp only [List.getElem?_toArray, List.getElem?_cons_succ, List.getElem?_cons_zero]); rfl) (by kernel_rfl) (by kernel_rfl) (by kernel_rfl) (by exact fun _ _ _ h => h) (Or.inl ⟨by first | kernel_rfl | rfl, ?hyR2x10⟩) (by exact hS) ?rsR2x10
  case hyR2x10 => (intro uz hSw; (try dsimp only at hSw); go_simp; try with_reducible rfl)
  try simp only [Act.put, List.setIfInBounds_toArray, List.set_cons_zero, List.set_cons_succ]
  change wpAnyH _ _ _ _ _ _ #[true, true, true, true, true, true, true, true, true, true, false, false] _ _
  refine wpAnyH_take (i := 10) (v := ?vR2x11) (by (try simp only [List.getElem?_toArray, List.getElem?_cons_succ, List.getElem?_cons_zero]); rfl) (by kernel_rfl) (by kernel_rfl) (by kernel_rfl) (by exact fun _ _ _ h => h) (Or.inl ⟨by first | kernel_rfl | rfl, ?hyR2x11⟩) (by exact hS) ?rsR2x11
  case hyR2x11 => (intro uz hSw; (try dsimp only at hSw); go_simp; try with_reducible rfl)
  try simp only [Act.put, List.setIfInBounds_toArray, List.set_cons_zero, List.set_cons_succ]
  change wpAnyH _ _ _ _ _ _ #[true, true, true, true, true, true, true, true, true, true, true, false] _ _
  refine wpAnyH_take (i := 11) (v := ?vR2x12) (by (try simp only [List.getElem?_toArray, List.getElem?_cons_succ, List.getElem?_cons_zero]); rfl) (by kernel_rfl) (by kernel_rfl) (by kernel_rfl) (by exact fun _ _ _ h => h) (Or.inl ⟨by first | kernel_rfl | rfl, ?hyR2x12⟩) (by exact hS) ?rsR2x12
  case hyR2x12 => (intro uz hSw; (try dsimp only at hSw); go_simp; try with_reducible rfl)
  try simp only [Act.put, List.setIfInBounds_toArray, List.set_cons_zero, List.set_cons_succ]
  change wpAnyH _ _ _ _ _ _ #[true, true, true, true, true, true, true, true, true, true, true, true] _ _
  refine wpAnyH_done (by kernel_rfl) ?_ _
  go_wp2_with fail
  go_ret
  exact ⟨retI (by omega), HQ.out.trans hS⟩

/-- The decimal handed back. -/
theorem ret_dec {fn : Func} {p : Tmp} (h : fn.results = #[.cell p 41]) {R : Ending → World → Prop} {a : Act} {w : World} {g : Nat} {l : List Value}
    (hl : l.length = 3) (hp : a.tmps.getD p undef = .pointer (some ⟨g, 0, none⟩)) (hg : Bk w g 41 l) (hd : a.defers = []) (hR : R (.returned (.agg l.toArray)) w) : bodyPost Try.prog fn R .ret a w :=
  bodyPost_ret (results_cell_row h a.tmps w g 41 l.toArray (0, 0) _ hp hg Try.underlying41 rfl (by rw [Ep.infoD]; simp [hl])) hd hR
set_option maxRecDepth 100000 in
set_option maxHeartbeats 4000000 in
theorem dec_any (g s : Bool) (a1 a2 : Option Addr) (n1 n2 c1 c2 : Nat) (I F : List Int) (w : World) (hi : Lst w (.slice a1 n1 c1) I) (hf : Lst w (.slice a2 n2 c2) F) (k1 : I.length = n1) (k2 : F.length = n2) (l1 : n1 ≤ 100000) (l2 : n2 ≤ 100000) (hI : Dm.okD I) (hF : Dm.okD F) :
    Calls Try.prog 21 #[.agg #[.bool g, .slice a1 n1 c1, .bool s, .slice a2 n2 c2]] w fun e w' => ∃ a c, e = .returned (.agg #[.bool (Dm.cg g (Dm.num (I ++ F))), .slice a (Dm.dg (Dm.st (Dm.num (I ++ F)) n2).1).length c, .int .i64 ((Dm.st (Dm.num (I ++ F)) n2).2 : Nat)]) ∧ Lst w' (.slice a (Dm.dg (Dm.st (Dm.num (I ++ F)) n2).1).length c) (Dm.dg (Dm.st (Dm.num (I ++ F)) n2).1) ∧ Q w w' := by
  obtain ⟨x, hx⟩ : ∃ x, x = zeb F := ⟨_, rfl⟩
  have hxl : x ≤ n2 := by rw [hx, ← k2]; exact zeb_le F
  obtain ⟨M, hM⟩ : ∃ M, M = Dm.num (I ++ F) := ⟨_, rfl⟩
  have hcut := dec_cut I F hI hF x hx M hM
  obtain ⟨m, hm⟩ : ∃ m, m = n2 - x := ⟨_, rfl⟩
  rw [k2, ← hm] at hcut
  have HZB := Lib.hid (fun u (q : Q w u) => (by
    have h := zeb_any _ F u (hf.q q) (by omega)
    rw [← hx] at h
    exact h.mono fun _ _ h => ⟨h.1, Qeq h.2⟩ : Calls Try.prog 43 #[.slice a2 n2 c2] u fun e w' => e = .returned (.int .i64 x) ∧ Q u w'))
  have HCU := Lib.hid (fun u (q : Q w u) => (by
    have h := cut_any _ F 0 m u (hf.q q) (by omega) (by omega)
    rw [Nat.sub_zero, List.drop_zero] at h
    exact h.mono fun _ _ ⟨a, h1, h2, h3⟩ => ⟨a, h1, by rw [← h3]; exact h2, Qeq h3⟩ : Calls Try.prog 42 #[.slice a2 n2 c2, .int .i64 0, .int .i64 m] u fun e w' => ∃ a, e = .returned (.slice a m m) ∧ Lst w' (.slice a m m) (F.take m) ∧ Q u w'))
  obtain ⟨R, hR⟩ : ∃ R, R = F.take m := ⟨_, rfl⟩
  have hRl : R.length = m := by rw [hR, List.length_take]; omega
  rw [← hR] at HCU hcut
  have HCT := Lib.hid (fun u ra (q : Q w u) (hl : Lst u (.slice ra m m) R) => by
    have h := Ts.concat2 (u.alloc (.cells #[.slice a1 n1 c1, .slice ra m m] 22)) u.heap.size _ _ I R (Bk.new u 22 [.slice a1 n1 c1, .slice ra m m]) (hi.q (q.alloc _)) (hl.q ((Q.refl u).alloc _)) (by omega) (by omega)
    rw [k1, hRl] at h
    exact h)
  have HTR := Lib.hid (fun u v (h : Lst u v (I ++ R)) => Dw.trim_any v (I ++ R) u h (by rw [List.length_append]; omega))
  obtain ⟨Z, hZ⟩ : ∃ Z, Z = Dm.trimL (I ++ R) := ⟨_, rfl⟩
  obtain ⟨r, hr⟩ : ∃ r, r = Z.length := ⟨_, rfl⟩
  rw [← hZ] at hcut HTR
  rw [← hM]
  have hrb : r ≤ n1 + m := by
    have h1 := Dm.trim_len (I ++ R)
    rw [← hZ, ← hr, List.length_append, k1, hRl] at h1
    omega
  have hw1 : IntKind.i64.wrap ((n2 : Int) - (x : Int)) = (m : Int) := wrapN _ _ (by omega) (by omega)
  have HCC := Lib.hid hcut
  have HR := Lib.hid hr
  clear hi hf k1 k2 hI hF hx hM hm hR hRl hZ hr hcut hxl
  obtain ⟨y, hy⟩ : ∃ y, y = w.alloc (.cells #[.bool g, .slice a1 n1 c1, .bool s, .slice a2 n2 c2] 30) := ⟨_, rfl⟩
  have hqy : Q w y := by rw [hy]; exact (Q.refl w).alloc _
  have hby : Bk y w.heap.size 30 [.bool g, .slice a1 n1 c1, .bool s, .slice a2 n2 c2] := by rw [hy]; exact Bk.new _ _ _
  have hsy : y.heap.size = w.heap.size + 1 := by rw [hy]; simp
  obtain ⟨z, hz⟩ : ∃ z, z = y.alloc (.cells #[.bool false, .slice none 0 0, .int .i64 0] 41) := ⟨_, rfl⟩
  have hqz : Q y z := by rw [hz]; exact (Q.refl y).alloc _
  have HQ := Lib.hid (hqy.trans hqz)
  have HB := Lib.hid (hby.q hqz)
  have HD := Lib.hid (show Bk z (w.heap.size + 1) 41 [.bool false, .slice none 0 0, .int .i64 0] by rw [hz, ← hsy]; exact Bk.new _ _ _)
  have HWD := Lib.hid (Nat.le_succ w.heap.size)
  have hz2 : z = (w.alloc (.cells #[.bool g, .slice a1 n1 c1, .bool s, .slice a2 n2 c2] 30)).alloc (.cells #[.bool false, .slice none 0 0, .int .i64 0] 41) := by rw [hz, hy]
  clear hqy hby hsy hqz hz hy
  go_enter Try.func21, Try.ntmps21
  go_upto_region 1 with fail
  rw [← hz2]
  clear hz2
  refine wp_region_held_drew (S := fun u => Q z u) (by kernel_rfl) (by exact (Q.refl z).drew) (fun hHeld => ?_)
  have hS : Q z z.drew := hHeld
  clear hHeld
  have hq : Q z z.drew := (Q.refl _).drew
  clear hq
  generalize z.drew = yR3x0 at *
  change wpAnyH _ _ _ _ _ _ #[false, false, false, false, false, false, false, false, false, false, false] _ _
  refine wpAnyH_take (i := 0) (v := ?vR3x1) (by (try simp only [List.getElem?_toArray, List.getElem?_cons_succ, List.getElem?_cons_zero]); rfl) (by kernel_rfl) (by kernel_rfl) (by kernel_rfl) (by exact fun _ _ _ h => h) (Or.inl ⟨by first | kernel_rfl | rfl, ?hyR3x1⟩) (by exact hS) ?rsR3x1
  case hyR3x1 => (intro uz hSw; (try dsimp only at hSw); go_simp; try with_reducible rfl)
  try simp only [Act.put, List.setIfInBounds_toArray, List.set_cons_zero, List.set_cons_succ]
  change wpAnyH _ _ _ _ _ _ #[true, false, false, false, false, false, false, false, false, false, false] _ _
  refine wpAnyH_take (i := 1) (v := ?vR3x2) (by (try simp only [List.getElem?_toArray, List.getElem?_cons_succ, List.getElem?_cons_zero]); rfl) (by kernel_rfl) (by kernel_rfl) (by kernel_rfl) (by exact fun _ _ _ h => h) (Or.inl ⟨by first | kernel_rfl | rfl, ?hyR3x2⟩) (by exact hS) ?rsR3x2
  case hyR3x2 => (intro uz hSw; (try dsimp only at hSw); have hxx := HB.out.q hSw; have d0 := hxx.cell 3 rfl; clear hxx; go_simp; try with_reducible rfl)
  try simp only [Act.put, List.setIfInBounds_toArray, List.set_cons_zero, List.set_cons_succ]
  change wpAnyH _ _ _ _ _ _ #[true, true, false, false, false, false, false, false, false, false, false] _ _
  refine wpAnyH_take (i := 2) (v := ?vR3x3) (by (try simp only [List.getElem?_toArray, List.getElem?_cons_succ, List.getElem?_cons_zero]); rfl) (by kernel_rfl) (by kernel_rfl) (by kernel_rfl) (by exact fun _ _ _ h => h) (Or.inl ⟨by first | kernel_rfl | rfl, ?hyR3x3⟩) (by exact hS) ?rsR3x3
  case hyR3x3 => (intro uz hSw; (try dsimp only at hSw); go_simp; try with_reducible rfl)
  try simp only [Act.put, List.setIfInBounds_toArray, List.set_cons_zero, List.set_cons_succ]
  change wpAnyH _ _ _ _ _ _ #[true, true, true, false, false, false, false, false, false, false, false] _ _
  refine wpAnyH_take (i := 3) (v := ?vR3x4) (by (try simp only [List.getElem?_toArray, List.getElem?_cons_succ, List.getElem?_cons_zero]); rfl) (by kernel_rfl) (by kernel_rfl) (by kernel_rfl) (by exact fun _ _ _ h => h) (Or.inl ⟨by first | kernel_rfl | rfl, ?hyR3x4⟩) (by exact hS) ?rsR3x4
  case hyR3x4 => (intro uz hSw; (try dsimp only at hSw); have hxx := HB.out.q hSw; have d0 := hxx.cell 3 rfl; clear hxx; go_simp; try with_reducible rfl)
  try simp only [Act.put, List.setIfInBounds_toArray, List.set_cons_zero, List.set_cons_succ]
  change wpAnyH _ _ _ _ _ _ #[true, true, true, true, false, false, false, false, false, false, false] _ _
  refine wpAnyH_take (i := 4) (v := ?vR3x5) (by (try simp only [List.getElem?_toArray, List.getElem?_cons_succ, List.getElem?_cons_zero]); rfl) (by kernel_rfl) (by kernel_rfl) (by kernel_rfl) (by exact fun _ _ _ h => h) (Or.inl ⟨by first | kernel_rfl | rfl, ?hyR3x5⟩) (by exact hS) ?rsR3x5
  case hyR3x5 => (intro uz hSw; (try dsimp only at hSw); go_simp; try with_reducible rfl)
  try simp only [Act.put, List.setIfInBounds_toArray, List.set_cons_zero, List.set_cons_succ]
  change wpAnyH _ _ _ _ _ _ #[true, true, true, true, true, false, false, false, false, false, false] _ _
  refine wpAnyH_take (i := 5) (v := ?vR3x6) (by (try simp only [List.getElem?_toArray, List.getElem?_cons_succ, List.getElem?_cons_zero]); rfl) (by kernel_rfl) (by kernel_rfl) (by kernel_rfl) (by exact fun _ _ _ h => h) (Or.inl ⟨by first | kernel_rfl | rfl, ?hyR3x6⟩) (by exact hS) ?rsR3x6
  case hyR3x6 => (intro uz hSw; (try dsimp only at hSw); go_simp; try with_reducible rfl)
  try simp only [Act.put, List.setIfInBounds_toArray, List.set_cons_zero, List.set_cons_succ]
  change wpAnyH _ _ _ _ _ _ #[true, true, true, true, true, true, false, false, false, false, false] _ _
  refine wpAnyH_take (i := 6) (v := ?vR3x7) (by (try simp only [List.getElem?_toArray, List.getElem?_cons_succ, List.getElem?_cons_zero]); rfl) (by kernel_rfl) (by kernel_rfl) (by kernel_rfl) (by exact fun _ _ _ h => h) (Or.inl ⟨by first | kernel_rfl | rfl, ?hyR3x7⟩) (by exact hS) ?rsR3x7
  case hyR3x7 => (intro uz hSw; (try dsimp only at hSw); have hxx := HB.out.q hSw; have d0 := hxx.cell 3 rfl; clear hxx; go_simp; try with_reducible rfl)
  try simp only [Act.put, List.setIfInBounds_toArray, List.set_cons_zero, List.set_cons_succ]
  change wpAnyH _ _ _ _ _ _ #[true, true, true, true, true, true, true, false, false, false, false] _ _
  refine wpAnyH_ready (rs := [7]) (by kernel_rfl) (by simp) ?_
  refine (AllReadyH.cons (by (try simp only [List.getElem?_toArray, List.getElem?_cons_succ, List.getElem?_cons_zero]); rfl) (fun K hK => ?_) AllReadyH.nil)
  go_simp
  refine (HZB.out _ (HQ.out.trans hS)).mono ?_
  rintro e yR3x8 ⟨rfl, hq⟩
  try (go_wp2_with fail)
  have hS2 := Q.trans hS hq
  refine hK.out _ _ (by exact hS2) (fun hHeld => ?_)
  clear hK K hHeld hS hq
  have hS := hS2
  clear hS2
  try simp only [Act.put, List.setIfInBounds_toArray, List.set_cons_zero, List.set_cons_succ]
  change wpAnyH _ _ _ _ _ _ #[true, true, true, true, true, true, true, true, false, false, false] _ _
  refine wpAnyH_take (i := 8) (v := ?vR3x9) (by (try simp only [List.getElem?_toArray, List.getElem?_cons_succ, List.getElem?_cons_zero]); rfl) (by kernel_rfl) (by kernel_rfl) (by kernel_rfl) (by exact fun _ _ _ h => h) (Or.inl ⟨by first | kernel_rfl | rfl, ?hyR3x9⟩) (by exact hS) ?rsR3x9
  case hyR3x9 => (intro uz hSw; (try dsimp only at hSw); go_simp; try with_reducible rfl)
  try simp only [Act.put, List.setIfInBounds_toArray, List.set_cons_zero, List.set_cons_succ]
  change wpAnyH _ _ _ _ _ _ #[true, true, true, true, true, true, true, true, true, false, false] _ _
  refine wpAnyH_ready (rs := [9]) (by kernel_rfl) (by simp) ?_
  refine (AllReadyH.cons (by (try simp only [List.getElem?_toArray, List.getElem?_cons_succ, List.getElem?_cons_zero]); rfl) (fun K hK => ?_) AllReadyH.nil)
  go_simp
  refine (HCU.out _ (HQ.out.trans hS)).mono ?_
  rintro e yR3x10 ⟨cu, rfl, hcu, hq⟩
  have HCL := Lib.hid hcu
  clear hcu
  try (go_wp2_with fail)
  have hS2 := Q.trans hS hq
  refine hK.out _ _ (by exact hS2) (fun hHeld => ?_)
  clear hK K hHeld hS hq
  have hS := hS2
  clear hS2
  try simp only [Act.put, List.setIfInBounds_toArray, List.set_cons_zero, List.set_cons_succ]
  change wpAnyH _ _ _ _ _ _ #[true, true, true, true, true, true, true, true, true, true, false] _ _
  refine wpAnyH_take (i := 10) (v := ?vR3x11) (by (try simp only [List.getElem?_toArray, List.getElem?_cons_succ, List.getElem?_cons_zero]); rfl) (by kernel_rfl) (by kernel_rfl) (by kernel_rfl) (by exact fun _ _ _ h => h) (Or.inl ⟨by first | kernel_rfl | rfl, ?hyR3x11⟩) (by exact hS) ?rsR3x11
  case hyR3x11 => (intro uz hSw; (try dsimp only at hSw); go_simp; try with_reducible rfl)
  try simp only [Act.put, List.setIfInBounds_toArray, List.set_cons_zero, List.set_cons_succ]
  change wpAnyH _ _ _ _ _ _ #[true, true, true, true, true, true, true, true, true, true, true] _ _
  refine wpAnyH_done (by kernel_rfl) ?_ _
  have d1 := (HB.out.q hS).cell 1 rfl
  go_wp2_with fail
  refine (HCT.out _ _ (HQ.out.trans hS) HCL.out).mono ?_
  rintro e u2 ⟨va, vc, rfl, hv, hq2⟩
  have HV := Lib.hid hv.lst
  have HS2 := Lib.hid ((hS.alloc _).trans hq2)
  clear hv hq2 d1
  go_wp2_with fail
  refine (HTR.out _ _ HV.out).mono ?_
  rintro e u3 ⟨v3, rfl, hv3, hq3⟩
  obtain ⟨ta, tc, rfl, _, _⟩ := hv3.lst.form0 HR.out.symm
  have HS3 := Lib.hid (HS2.out.trans hq3)
  have HV3 := Lib.hid hv3
  have HB3 := Lib.hid (HB.out.q HS3.out)
  have HD3 := Lib.hid (HD.out.q HS3.out)
  clear hv3 hq3
  have x0 := HB3.out.cell 0 rfl
  have b0 := HD3.out.cell 0 rfl
  have f0 := HD3.out.free 0
  have b1 := HD3.out.cell 1 rfl
  have f1 := HD3.out.free 1
  have b2 := HD3.out.cell 2 rfl
  have f2 := HD3.out.free 2
  by_cases hr0 : r = 0
  · subst hr0
    have hZ0 := List.eq_nil_of_length_eq_zero HR.out.symm
    obtain rfl := HCC.out.2.2.2 hZ0
    go_wp2_with fail
    refine ret_dec rfl rfl rfl (((HD3.out.set 0 _).set 1 _).set 2 _) rfl ⟨none, 0, ?_, ?_, Q.setCell (Q.setCell (Q.setCell (HQ.out.trans HS3.out) HWD.out _) HWD.out _) HWD.out _⟩
    · rw [Dm.st_zero, Dm.dg_zero, Dm.cg_zero]; rfl
    · rw [Dm.st_zero, Dm.dg_zero]; exact Lst.nil _ none 0 (by unfold maxLen; omega) (fun _ => rfl)
  · have e0 : ((r : Int) == 0) = false := by rw [beq_eq_false_iff_ne]; omega
    have hM0 : M ≠ 0 := fun h => hr0 (by rw [HR.out, HCC.out.2.2.1 h]; rfl)
    have hs2 := HCC.out.2.1 hM0
    have hl1 := HCC.out.1
    have HM0 := Lib.hid hM0
    have HS := Lib.hid hs2
    have HL := Lib.hid hl1
    clear hM0 hs2 hl1
    go_wp2_with fail
    have hfin := Own_past (Own_past (Own_past HV3.out HD3.out (by decide) 0 (.bool g)) (HD3.out.set 0 _) (by decide) 1 (.slice ta r tc)) ((HD3.out.set 0 _).set 1 _) (by decide) 2 (.int .i64 m)
    refine ret_dec rfl rfl rfl (((HD3.out.set 0 _).set 1 _).set 2 _) rfl ⟨ta, tc, ?_, ?_, Q.setCell (Q.setCell (Q.setCell (HQ.out.trans HS3.out) HWD.out _) HWD.out _) HWD.out _⟩
    · rw [Dm.cg_pos HM0.out, HS.out, ← HL.out, ← HR.out]; rfl
    · rw [← HL.out, ← HR.out]; exact hfin.lst
end Tp
end Go.Proofs.Ytagpofhencpliaa
