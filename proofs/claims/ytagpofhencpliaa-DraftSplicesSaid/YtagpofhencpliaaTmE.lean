/- What package draft's Text comes to, by a walk through it. -/
import Derived.Test.YtagpofhencpliaaRows
import Derived.Test.YtagpofhencpliaaTmM
import Derived.Test.YtagpofhencpliaaTmS
import Derived.Test.YtagpofhencpliaaTmA
import Derived.Test.YtagpofhencpliaaTmB
import Derived.Test.YtagpofhencpliaaTmC
import Derived.Test.YtagpofhencpliaaTmD
import Derived.Test.YtagpofhencpliaaDigM
import Derived.Test.YtagpofhencpliaaDigL
import Derived.Test.YtagpofhencpliaaDecM
import Derived.Test.YtagpofhencpliaaInts
import Derived.Test.YtagpofhencpliaaSto
import Derived.Test.YtagpofhencpliaaBlk
import Derived.Test.YtagpofhencpliaaDigA
import Derived.Test.YtagpofhencpliaaDigV
import Derived.Test.YtagpofhencpliaaDecR
import Derived.Test.YtagpofhencpliaaDecP
import Derived.Test.YtagpofhencpliaaDecQ
import Derived.Test.YtagpofhencpliaaLdR
import Derived.Deep.Cut
import Derived.Deep.RegionHeld
import Derived.Deep.QuietTactic
import Derived.Deep.RegionWith
import Derived.BigQuiet
import Derived.Laws.ResultCell
set_option linter.unusedVariables false
set_option linter.unusedSimpArgs false
namespace Go.Proofs.Ytagpofhencpliaa
open Go.RowKit
namespace Tm
/-- A draft's text, of its digits' texts. -/
def txt (g s : Bool) (A B : ByteArray) : ByteArray := (if s = true then (if g = true then ⟨#[45]⟩ ++ A else A) ++ ⟨#[46]⟩ else (if g = true then ⟨#[45]⟩ ++ A else A)) ++ B
end Tm
namespace Tp
open Tm
set_option maxRecDepth 100000 in
set_option maxHeartbeats 4000000 in
theorem text_any (g s : Bool) (a1 a2 : Option Addr) (n1 n2 c1 c2 : Nat) (I F : List Int) (w : World) (hi : Lst w (.slice a1 n1 c1) I) (hf : Lst w (.slice a2 n2 c2) F) (k1 : I.length = n1) (k2 : F.length = n2) (l1 : n1 ≤ 100000) (l2 : n2 ≤ 100000) (hI : Dm.okD I) (hF : Dm.okD F) :
    Calls Try.prog 23 #[.agg #[.bool g, .slice a1 n1 c1, .bool s, .slice a2 n2 c2]] w fun e w' => e = .returned (.string (txt g s (Dm.txtB I) (Dm.txtB F))) ∧ Q w w' := by
  have HTA := Lib.hid (fun u (q : Q w u) => Dw.text_any _ I u (hi.q q) (by omega) hI)
  have HTB := Lib.hid (fun u (q : Q w u) => Dw.text_any _ F u (hf.q q) (by omega) hF)
  have s1 := Dm.txt_size I
  have s2 := Dm.txt_size F
  rw [k1] at s1
  rw [k2] at s2
  have s3 : (Dm.txtB I).size ≤ 100000 := by omega
  have s4 : (Dm.txtB F).size ≤ 100000 := by omega
  clear hi hf k1 k2 hI hF s1 s2
  generalize Dm.txtB I = A at *
  generalize Dm.txtB F = B at *
  obtain ⟨z, hz⟩ : ∃ y, y = w.alloc (.cells #[.bool g, .slice a1 n1 c1, .bool s, .slice a2 n2 c2] 30) := ⟨_, rfl⟩
  have HQ := Lib.hid (show Q w z by rw [hz]; exact (Q.refl w).alloc _)
  have HB := Lib.hid (show Bk z w.heap.size 30 [.bool g, .slice a1 n1 c1, .bool s, .slice a2 n2 c2] by rw [hz]; exact Bk.new _ _ _)
  have HZ := Lib.hid (show z.heap.size = w.heap.size + 1 by rw [hz]; simp)
  have x0 := HB.out.cell 0 rfl
  have x2 := HB.out.cell 2 rfl
  cases g <;> cases s
  · have h1 : ¬ (9223372036854775807 < A.size) := by omega
    have h2 : ¬ (9223372036854775807 < A.size) := by omega
    have h3 : ¬ (9223372036854775807 < A.size + B.size) := by omega
    go_enter Try.func23, Try.ntmps23
    go_upto_region 1 with fail
    rw [← hz]
    clear hz
    go_wp2_with fail
    refine wp_region_held_drew (S := fun u => Q z u) (by kernel_rfl) (by exact (Q.refl z).drew) (fun hHeld => ?_)
    have hS : Q z z.drew := hHeld
    clear hHeld
    have hq : Q z z.drew := (Q.refl _).drew
    clear hq
    generalize z.drew = yR1x0 at *
    change wpAnyH _ _ _ _ _ _ #[false, false, false, false, false, false, false, false, false, false, false, false] _ _
    refine wpAnyH_take (i := 0) (v := ?vR1x1) (by (try simp only [List.getElem?_toArray, List.getElem?_cons_succ, List.getElem?_cons_zero]); rfl) (by kernel_rfl) (by kernel_rfl) (by kernel_rfl) (by exact fun _ _ _ h => h) (Or.inl ⟨by first | kernel_rfl | rfl, ?hyR1x1⟩) (by exact hS) ?rsR1x1
    case hyR1x1 => (intro uz hSw; (try dsimp only at hSw); go_simp; try with_reducible rfl)
    try simp only [Act.put, List.setIfInBounds_toArray, List.set_cons_zero, List.set_cons_succ]
    change wpAnyH _ _ _ _ _ _ #[true, false, false, false, false, false, false, false, false, false, false, false] _ _
    refine wpAnyH_take (i := 1) (v := ?vR1x2) (by (try simp only [List.getElem?_toArray, List.getElem?_cons_succ, List.getElem?_cons_zero]); rfl) (by kernel_rfl) (by kernel_rfl) (by kernel_rfl) (by exact fun _ _ _ h => h) (Or.inl ⟨by first | kernel_rfl | rfl, ?hyR1x2⟩) (by exact hS) ?rsR1x2
    case hyR1x2 => (intro uz hSw; (try dsimp only at hSw); go_simp; try with_reducible rfl)
    try simp only [Act.put, List.setIfInBounds_toArray, List.set_cons_zero, List.set_cons_succ]
    change wpAnyH _ _ _ _ _ _ #[true, true, false, false, false, false, false, false, false, false, false, false] _ _
    refine wpAnyH_take (i := 2) (v := ?vR1x3) (by (try simp only [List.getElem?_toArray, List.getElem?_cons_succ, List.getElem?_cons_zero]); rfl) (by kernel_rfl) (by kernel_rfl) (by kernel_rfl) (by exact fun _ _ _ h => h) (Or.inl ⟨by first | kernel_rfl | rfl, ?hyR1x3⟩) (by exact hS) ?rsR1x3
    case hyR1x3 => (intro uz hSw; (try dsimp only at hSw); have hxx := HB.out.q hSw; have d0 := hxx.cell 1 rfl; clear hxx; go_simp; try with_reducible rfl)
    try simp only [Act.put, List.setIfInBounds_toArray, List.set_cons_zero, List.set_cons_succ]
    change wpAnyH _ _ _ _ _ _ #[true, true, true, false, false, false, false, false, false, false, false, false] _ _
    refine wpAnyH_take (i := 5) (v := ?vR1x4) (by (try simp only [List.getElem?_toArray, List.getElem?_cons_succ, List.getElem?_cons_zero]); rfl) (by kernel_rfl) (by kernel_rfl) (by kernel_rfl) (by exact fun _ _ _ h => h) (Or.inl ⟨by first | kernel_rfl | rfl, ?hyR1x4⟩) (by exact hS) ?rsR1x4
    case hyR1x4 => (intro uz hSw; (try dsimp only at hSw); go_simp; try with_reducible rfl)
    try simp only [Act.put, List.setIfInBounds_toArray, List.set_cons_zero, List.set_cons_succ]
    change wpAnyH _ _ _ _ _ _ #[true, true, true, false, false, true, false, false, false, false, false, false] _ _
    refine wpAnyH_take (i := 7) (v := ?vR1x5) (by (try simp only [List.getElem?_toArray, List.getElem?_cons_succ, List.getElem?_cons_zero]); rfl) (by kernel_rfl) (by kernel_rfl) (by kernel_rfl) (by exact fun _ _ _ h => h) (Or.inl ⟨by first | kernel_rfl | rfl, ?hyR1x5⟩) (by exact hS) ?rsR1x5
    case hyR1x5 => (intro uz hSw; (try dsimp only at hSw); go_simp; try with_reducible rfl)
    try simp only [Act.put, List.setIfInBounds_toArray, List.set_cons_zero, List.set_cons_succ]
    change wpAnyH _ _ _ _ _ _ #[true, true, true, false, false, true, false, true, false, false, false, false] _ _
    refine wpAnyH_take (i := 8) (v := ?vR1x6) (by (try simp only [List.getElem?_toArray, List.getElem?_cons_succ, List.getElem?_cons_zero]); rfl) (by kernel_rfl) (by kernel_rfl) (by kernel_rfl) (by exact fun _ _ _ h => h) (Or.inl ⟨by first | kernel_rfl | rfl, ?hyR1x6⟩) (by exact hS) ?rsR1x6
    case hyR1x6 => (intro uz hSw; (try dsimp only at hSw); have hxx := HB.out.q hSw; have d0 := hxx.cell 3 rfl; clear hxx; go_simp; try with_reducible rfl)
    try simp only [Act.put, List.setIfInBounds_toArray, List.set_cons_zero, List.set_cons_succ]
    change wpAnyH _ _ _ _ _ _ #[true, true, true, false, false, true, false, true, true, false, false, false] _ _
    refine wpAnyH_ready (rs := [3]) (by kernel_rfl) (by simp) ?_
    refine (AllReadyH.cons (by (try simp only [List.getElem?_toArray, List.getElem?_cons_succ, List.getElem?_cons_zero]); rfl) (fun K hK => ?_) AllReadyH.nil)
    go_simp
    refine (HTA.out _ (HQ.out.trans hS)).mono ?_
    rintro e yR1x7 ⟨rfl, hq⟩
    try (go_wp2_with fail)
    have hS2 := Q.trans hS hq
    refine hK.out _ _ (by exact hS2) (fun hHeld => ?_)
    clear hK K hHeld hS hq
    have hS := hS2
    clear hS2
    try simp only [Act.put, List.setIfInBounds_toArray, List.set_cons_zero, List.set_cons_succ]
    change wpAnyH _ _ _ _ _ _ #[true, true, true, true, false, true, false, true, true, false, false, false] _ _
    refine wpAnyH_take (i := 4) (v := ?vR1x8) (by (try simp only [List.getElem?_toArray, List.getElem?_cons_succ, List.getElem?_cons_zero]); rfl) (by kernel_rfl) (by kernel_rfl) (by kernel_rfl) (by exact fun _ _ _ h => h) (Or.inl ⟨by first | kernel_rfl | rfl, ?hyR1x8⟩) (by exact hS) ?rsR1x8
    case hyR1x8 => (intro uz hSw; (try dsimp only at hSw); go_simp; try with_reducible rfl)
    try simp only [Act.put, List.setIfInBounds_toArray, List.set_cons_zero, List.set_cons_succ]
    change wpAnyH _ _ _ _ _ _ #[true, true, true, true, true, true, false, true, true, false, false, false] _ _
    refine wpAnyH_take (i := 6) (v := ?vR1x9) (by (try simp only [List.getElem?_toArray, List.getElem?_cons_succ, List.getElem?_cons_zero]); rfl) (by kernel_rfl) (by kernel_rfl) (by kernel_rfl) (by exact fun _ _ _ h => h) (Or.inl ⟨by first | kernel_rfl | rfl, ?hyR1x9⟩) (by exact hS) ?rsR1x9
    case hyR1x9 => (intro uz hSw; (try dsimp only at hSw); go_simp; try with_reducible rfl)
    try simp only [Act.put, List.setIfInBounds_toArray, List.set_cons_zero, List.set_cons_succ]
    change wpAnyH _ _ _ _ _ _ #[true, true, true, true, true, true, true, true, true, false, false, false] _ _
    refine wpAnyH_ready (rs := [9]) (by kernel_rfl) (by simp) ?_
    refine (AllReadyH.cons (by (try simp only [List.getElem?_toArray, List.getElem?_cons_succ, List.getElem?_cons_zero]); rfl) (fun K hK => ?_) AllReadyH.nil)
    go_simp
    refine (HTB.out _ (HQ.out.trans hS)).mono ?_
    rintro e yR1x10 ⟨rfl, hq⟩
    try (go_wp2_with fail)
    have hS2 := Q.trans hS hq
    refine hK.out _ _ (by exact hS2) (fun hHeld => ?_)
    clear hK K hHeld hS hq
    have hS := hS2
    clear hS2
    try simp only [Act.put, List.setIfInBounds_toArray, List.set_cons_zero, List.set_cons_succ]
    change wpAnyH _ _ _ _ _ _ #[true, true, true, true, true, true, true, true, true, true, false, false] _ _
    refine wpAnyH_take (i := 10) (v := ?vR1x11) (by (try simp only [List.getElem?_toArray, List.getElem?_cons_succ, List.getElem?_cons_zero]); rfl) (by kernel_rfl) (by kernel_rfl) (by kernel_rfl) (by exact fun _ _ _ h => h) (Or.inl ⟨by first | kernel_rfl | rfl, ?hyR1x11⟩) (by exact hS) ?rsR1x11
    case hyR1x11 => (intro uz hSw; (try dsimp only at hSw); go_simp; try with_reducible rfl)
    try simp only [Act.put, List.setIfInBounds_toArray, List.set_cons_zero, List.set_cons_succ]
    change wpAnyH _ _ _ _ _ _ #[true, true, true, true, true, true, true, true, true, true, true, false] _ _
    refine wpAnyH_take (i := 11) (v := ?vR1x12) (by (try simp only [List.getElem?_toArray, List.getElem?_cons_succ, List.getElem?_cons_zero]); rfl) (by kernel_rfl) (by kernel_rfl) (by kernel_rfl) (by exact fun _ _ _ h => h) (Or.inl ⟨by first | kernel_rfl | rfl, ?hyR1x12⟩) (by exact hS) ?rsR1x12
    case hyR1x12 => (intro uz hSw; (try dsimp only at hSw); go_simp; try with_reducible rfl)
    try simp only [Act.put, List.setIfInBounds_toArray, List.set_cons_zero, List.set_cons_succ]
    change wpAnyH _ _ _ _ _ _ #[true, true, true, true, true, true, true, true, true, true, true, true] _ _
    refine wpAnyH_done (by kernel_rfl) ?_ _
    go_wp2_with fail
    go_ret
    exact ⟨retS (by first | (simp [txt]; done) | (rw [show (ByteArray.mk #[]) = ByteArray.empty from rfl]; simp [txt]; done)), HQ.out.trans hS⟩
  · have h1 : ¬ (9223372036854775807 < A.size) := by omega
    have h2 : ¬ (9223372036854775807 < A.size + 1) := by omega
    have h3 : ¬ (9223372036854775807 < A.size + 1 + B.size) := by omega
    go_enter Try.func23, Try.ntmps23
    go_upto_region 1 with fail
    rw [← hz]
    clear hz
    go_wp2_with fail
    refine wp_region_held_drew (S := fun u => Q z u) (by kernel_rfl) (by exact (Q.refl z).drew) (fun hHeld => ?_)
    have hS : Q z z.drew := hHeld
    clear hHeld
    have hq : Q z z.drew := (Q.refl _).drew
    clear hq
    generalize z.drew = yR2x0 at *
    change wpAnyH _ _ _ _ _ _ #[false, false, false, false, false, false, false, false, false, false, false, false] _ _
    refine wpAnyH_take (i := 0) (v := ?vR2x1) (by (try simp only [List.getElem?_toArray, List.getElem?_cons_succ, List.getElem?_cons_zero]); rfl) (by kernel_rfl) (by kernel_rfl) (by kernel_rfl) (by exact fun _ _ _ h => h) (Or.inl ⟨by first | kernel_rfl | rfl, ?hyR2x1⟩) (by exact hS) ?rsR2x1
    case hyR2x1 => (intro uz hSw; (try dsimp only at hSw); go_simp; try with_reducible rfl)
    try simp only [Act.put, List.setIfInBounds_toArray, List.set_cons_zero, List.set_cons_succ]
    change wpAnyH _ _ _ _ _ _ #[true, false, false, false, false, false, false, false, false, false, false, false] _ _
    refine wpAnyH_take (i := 1) (v := ?vR2x2) (by (try simp only [List.getElem?_toArray, List.getElem?_cons_succ, List.getElem?_cons_zero]); rfl) (by kernel_rfl) (by kernel_rfl) (by kernel_rfl) (by exact fun _ _ _ h => h) (Or.inl ⟨by first | kernel_rfl | rfl, ?hyR2x2⟩) (by exact hS) ?rsR2x2
    case hyR2x2 => (intro uz hSw; (try dsimp only at hSw); go_simp; try with_reducible rfl)
    try simp only [Act.put, List.setIfInBounds_toArray, List.set_cons_zero, List.set_cons_succ]
    change wpAnyH _ _ _ _ _ _ #[true, true, false, false, false, false, false, false, false, false, false, false] _ _
    refine wpAnyH_take (i := 2) (v := ?vR2x3) (by (try simp only [List.getElem?_toArray, List.getElem?_cons_succ, List.getElem?_cons_zero]); rfl) (by kernel_rfl) (by kernel_rfl) (by kernel_rfl) (by exact fun _ _ _ h => h) (Or.inl ⟨by first | kernel_rfl | rfl, ?hyR2x3⟩) (by exact hS) ?rsR2x3
    case hyR2x3 => (intro uz hSw; (try dsimp only at hSw); have hxx := HB.out.q hSw; have d0 := hxx.cell 1 rfl; clear hxx; go_simp; try with_reducible rfl)
    try simp only [Act.put, List.setIfInBounds_toArray, List.set_cons_zero, List.set_cons_succ]
    change wpAnyH _ _ _ _ _ _ #[true, true, true, false, false, false, false, false, false, false, false, false] _ _
    refine wpAnyH_take (i := 5) (v := ?vR2x4) (by (try simp only [List.getElem?_toArray, List.getElem?_cons_succ, List.getElem?_cons_zero]); rfl) (by kernel_rfl) (by kernel_rfl) (by kernel_rfl) (by exact fun _ _ _ h => h) (Or.inl ⟨by first | kernel_rfl | rfl, ?hyR2x4⟩) (by exact hS) ?rsR2x4
    case hyR2x4 => (intro uz hSw; (try dsimp only at hSw); go_simp; try with_reducible rfl)
    try simp only [Act.put, List.setIfInBounds_toArray, List.set_cons_zero, List.set_cons_succ]
    change wpAnyH _ _ _ _ _ _ #[true, true, true, false, false, true, false, false, false, false, false, false] _ _
    refine wpAnyH_take (i := 7) (v := ?vR2x5) (by (try simp only [List.getElem?_toArray, List.getElem?_cons_succ, List.getElem?_cons_zero]); rfl) (by kernel_rfl) (by kernel_rfl) (by kernel_rfl) (by exact fun _ _ _ h => h) (Or.inl ⟨by first | kernel_rfl | rfl, ?hyR2x5⟩) (by exact hS) ?rsR2x5
    case hyR2x5 => (intro uz hSw; (try dsimp only at hSw); go_simp; try with_reducible rfl)
    try simp only [Act.put, List.setIfInBounds_toArray, List.set_cons_zero, List.set_cons_succ]
    change wpAnyH _ _ _ _ _ _ #[true, true, true, false, false, true, false, true, false, false, false, false] _ _
    refine wpAnyH_take (i := 8) (v := ?vR2x6) (by (try simp only [List.getElem?_toArray, List.getElem?_cons_succ, List.getElem?_cons_zero]); rfl) (by kernel_rfl) (by kernel_rfl) (by kernel_rfl) (by exact fun _ _ _ h => h) (Or.inl ⟨by first | kernel_rfl | rfl, ?hyR2x6⟩) (by exact hS) ?rsR2x6
    case hyR2x6 => (intro uz hSw; (try dsimp only at hSw); have hxx := HB.out.q hSw; have d0 := hxx.cell 3 rfl; clear hxx; go_simp; try with_reducible rfl)
    try simp only [Act.put, List.setIfInBounds_toArray, List.set_cons_zero, List.set_cons_succ]
    change wpAnyH _ _ _ _ _ _ #[true, true, true, false, false, true, false, true, true, false, false, false] _ _
    refine wpAnyH_ready (rs := [3]) (by kernel_rfl) (by simp) ?_
    refine (AllReadyH.cons (by (try simp only [List.getElem?_toArray, List.getElem?_cons_succ, List.getElem?_cons_zero]); rfl) (fun K hK => ?_) AllReadyH.nil)
    go_simp
    refine (HTA.out _ (HQ.out.trans hS)).mono ?_
    rintro e yR2x7 ⟨rfl, hq⟩
    try (go_wp2_with fail)
    have hS2 := Q.trans hS hq
    refine hK.out _ _ (by exact hS2) (fun hHeld => ?_)
    clear hK K hHeld hS hq
    have hS := hS2
    clear hS2
    try simp only [Act.put, List.setIfInBounds_toArray, List.set_cons_zero, List.set_cons_succ]
    change wpAnyH _ _ _ _ _ _ #[true, true, true, true, false, true, false, true, true, false, false, false] _ _
    refine wpAnyH_take (i := 4) (v := ?vR2x8) (by (try simp only [List.getElem?_toArray, List.getElem?_cons_succ, List.getElem?_cons_zero]); rfl) (by kernel_rfl) (by kernel_rfl) (by kernel_rfl) (by exact fun _ _ _ h => h) (Or.inl ⟨by first | kernel_rfl | rfl, ?hyR2x8⟩) (by exact hS) ?rsR2x8
    case hyR2x8 => (intro uz hSw; (try dsimp only at hSw); go_simp; try with_reducible rfl)
    try simp only [Act.put, List.setIfInBounds_toArray, List.set_cons_zero, List.set_cons_succ]
    change wpAnyH _ _ _ _ _ _ #[true, true, true, true, true, true, false, true, true, false, false, false] _ _
    refine wpAnyH_take (i := 6) (v := ?vR2x9) (by (try simp only [List.getElem?_toArray, List.getElem?_cons_succ, List.getElem?_cons_zero]); rfl) (by kernel_rfl) (by kernel_rfl) (by kernel_rfl) (by exact fun _ _ _ h => h) (Or.inl ⟨by first | kernel_rfl | rfl, ?hyR2x9⟩) (by exact hS) ?rsR2x9
    case hyR2x9 => (intro uz hSw; (try dsimp only at hSw); go_simp; try with_reducible rfl)
    try simp only [Act.put, List.setIfInBounds_toArray, List.set_cons_zero, List.set_cons_succ]
    change wpAnyH _ _ _ _ _ _ #[true, true, true, true, true, true, true, true, true, false, false, false] _ _
    refine wpAnyH_ready (rs := [9]) (by kernel_rfl) (by simp) ?_
    refine (AllReadyH.cons (by (try simp only [List.getElem?_toArray, List.getElem?_cons_succ, List.getElem?_cons_zero]); rfl) (fun K hK => ?_) AllReadyH.nil)
    go_simp
    refine (HTB.out _ (HQ.out.trans hS)).mono ?_
    rintro e yR2x10 ⟨rfl, hq⟩
    try (go_wp2_with fail)
    have hS2 := Q.trans hS hq
    refine hK.out _ _ (by exact hS2) (fun hHeld => ?_)
    clear hK K hHeld hS hq
    have hS := hS2
    clear hS2
    try simp only [Act.put, List.setIfInBounds_toArray, List.set_cons_zero, List.set_cons_succ]
    change wpAnyH _ _ _ _ _ _ #[true, true, true, true, true, true, true, true, true, true, false, false] _ _
    refine wpAnyH_take (i := 10) (v := ?vR2x11) (by (try simp only [List.getElem?_toArray, List.getElem?_cons_succ, List.getElem?_cons_zero]); rfl) (by kernel_rfl) (by kernel_rfl) (by kernel_rfl) (by exact fun _ _ _ h => h) (Or.inl ⟨by first | kernel_rfl | rfl, ?hyR2x11⟩) (by exact hS) ?rsR2x11
    case hyR2x11 => (intro uz hSw; (try dsimp only at hSw); go_simp; try with_reducible rfl)
    try simp only [Act.put, List.setIfInBounds_toArray, List.set_cons_zero, List.set_cons_succ]
    change wpAnyH _ _ _ _ _ _ #[true, true, true, true, true, true, true, true, true, true, true, false] _ _
    refine wpAnyH_take (i := 11) (v := ?vR2x12) (by (try simp only [List.getElem?_toArray, List.getElem?_cons_succ, List.getElem?_cons_zero]); rfl) (by kernel_rfl) (by kernel_rfl) (by kernel_rfl) (by exact fun _ _ _ h => h) (Or.inl ⟨by first | kernel_rfl | rfl, ?hyR2x12⟩) (by exact hS) ?rsR2x12
    case hyR2x12 => (intro uz hSw; (try dsimp only at hSw); go_simp; try with_reducible rfl)
    try simp only [Act.put, List.setIfInBounds_toArray, List.set_cons_zero, List.set_cons_succ]
    change wpAnyH _ _ _ _ _ _ #[true, true, true, true, true, true, true, true, true, true, true, true] _ _
    refine wpAnyH_done (by kernel_rfl) ?_ _
    go_wp2_with fail
    go_ret
    exact ⟨retS (by first | (simp [txt]; done) | (rw [show (ByteArray.mk #[]) = ByteArray.empty from rfl]; simp [txt]; done)), HQ.out.trans hS⟩
  · have h1 : ¬ (9223372036854775807 < 1 + A.size) := by omega
    have h2 : ¬ (9223372036854775807 < 1 + A.size) := by omega
    have h3 : ¬ (9223372036854775807 < 1 + A.size + B.size) := by omega
    go_enter Try.func23, Try.ntmps23
    go_upto_region 1 with fail
    rw [← hz]
    clear hz
    go_wp2_with fail
    refine wp_region_held_drew (S := fun u => Q z u) (by kernel_rfl) (by exact (Q.refl z).drew) (fun hHeld => ?_)
    have hS : Q z z.drew := hHeld
    clear hHeld
    have hq : Q z z.drew := (Q.refl _).drew
    clear hq
    generalize z.drew = yR3x0 at *
    change wpAnyH _ _ _ _ _ _ #[false, false, false, false, false, false, false, false, false, false, false, false] _ _
    refine wpAnyH_take (i := 0) (v := ?vR3x1) (by (try simp only [List.getElem?_toArray, List.getElem?_cons_succ, List.getElem?_cons_zero]); rfl) (by kernel_rfl) (by kernel_rfl) (by kernel_rfl) (by exact fun _ _ _ h => h) (Or.inl ⟨by first | kernel_rfl | rfl, ?hyR3x1⟩) (by exact hS) ?rsR3x1
    case hyR3x1 => (intro uz hSw; (try dsimp only at hSw); go_simp; try with_reducible rfl)
    try simp only [Act.put, List.setIfInBounds_toArray, List.set_cons_zero, List.set_cons_succ]
    change wpAnyH _ _ _ _ _ _ #[true, false, false, false, false, false, false, false, false, false, false, false] _ _
    refine wpAnyH_take (i := 1) (v := ?vR3x2) (by (try simp only [List.getElem?_toArray, List.getElem?_cons_succ, List.getElem?_cons_zero]); rfl) (by kernel_rfl) (by kernel_rfl) (by kernel_rfl) (by exact fun _ _ _ h => h) (Or.inl ⟨by first | kernel_rfl | rfl, ?hyR3x2⟩) (by exact hS) ?rsR3x2
    case hyR3x2 => (intro uz hSw; (try dsimp only at hSw); go_simp; try with_reducible rfl)
    try simp only [Act.put, List.setIfInBounds_toArray, List.set_cons_zero, List.set_cons_succ]
    change wpAnyH _ _ _ _ _ _ #[true, true, false, false, false, false, false, false, false, false, false, false] _ _
    refine wpAnyH_take (i := 2) (v := ?vR3x3) (by (try simp only [List.getElem?_toArray, List.getElem?_cons_succ, List.getElem?_cons_zero]); rfl) (by kernel_rfl) (by kernel_rfl) (by kernel_rfl) (by exact fun _ _ _ h => h) (Or.inl ⟨by first | kernel_rfl | rfl, ?hyR3x3⟩) (by exact hS) ?rsR3x3
    case hyR3x3 => (intro uz hSw; (try dsimp only at hSw); have hxx := HB.out.q hSw; have d0 := hxx.cell 1 rfl; clear hxx; go_simp; try with_reducible rfl)
    try simp only [Act.put, List.setIfInBounds_toArray, List.set_cons_zero, List.set_cons_succ]
    change wpAnyH _ _ _ _ _ _ #[true, true, true, false, false, false, false, false, false, false, false, false] _ _
    refine wpAnyH_take (i := 5) (v := ?vR3x4) (by (try simp only [List.getElem?_toArray, List.getElem?_cons_succ, List.getElem?_cons_zero]); rfl) (by kernel_rfl) (by kernel_rfl) (by kernel_rfl) (by exact fun _ _ _ h => h) (Or.inl ⟨by first | kernel_rfl | rfl, ?hyR3x4⟩) (by exact hS) ?rsR3x4
    case hyR3x4 => (intro uz hSw; (try dsimp only at hSw); go_simp; try with_reducible rfl)
    try simp only [Act.put, List.setIfInBounds_toArray, List.set_cons_zero, List.set_cons_succ]
    change wpAnyH _ _ _ _ _ _ #[true, true, true, false, false, true, false, false, false, false, false, false] _ _
    refine wpAnyH_take (i := 7) (v := ?vR3x5) (by (try simp only [List.getElem?_toArray, List.getElem?_cons_succ, List.getElem?_cons_zero]); rfl) (by kernel_rfl) (by kernel_rfl) (by kernel_rfl) (by exact fun _ _ _ h => h) (Or.inl ⟨by first | kernel_rfl | rfl, ?hyR3x5⟩) (by exact hS) ?rsR3x5
    case hyR3x5 => (intro uz hSw; (try dsimp only at hSw); go_simp; try with_reducible rfl)
    try simp only [Act.put, List.setIfInBounds_toArray, List.set_cons_zero, List.set_cons_succ]
    change wpAnyH _ _ _ _ _ _ #[true, true, true, false, false, true, false, true, false, false, false, false] _ _
    refine wpAnyH_take (i := 8) (v := ?vR3x6) (by (try simp only [List.getElem?_toArray, List.getElem?_cons_succ, List.getElem?_cons_zero]); rfl) (by kernel_rfl) (by kernel_rfl) (by kernel_rfl) (by exact fun _ _ _ h => h) (Or.inl ⟨by first | kernel_rfl | rfl, ?hyR3x6⟩) (by exact hS) ?rsR3x6
    case hyR3x6 => (intro uz hSw; (try dsimp only at hSw); have hxx := HB.out.q hSw; have d0 := hxx.cell 3 rfl; clear hxx; go_simp; try with_reducible rfl)
    try simp only [Act.put, List.setIfInBounds_toArray, List.set_cons_zero, List.set_cons_succ]
    change wpAnyH _ _ _ _ _ _ #[true, true, true, false, false, true, false, true, true, false, false, false] _ _
    refine wpAnyH_ready (rs := [3]) (by kernel_rfl) (by simp) ?_
    refine (AllReadyH.cons (by (try simp only [List.getElem?_toArray, List.getElem?_cons_succ, List.getElem?_cons_zero]); rfl) (fun K hK => ?_) AllReadyH.nil)
    go_simp
    refine (HTA.out _ (HQ.out.trans hS)).mono ?_
    rintro e yR3x7 ⟨rfl, hq⟩
    try (go_wp2_with fail)
    have hS2 := Q.trans hS hq
    refine hK.out _ _ (by exact hS2) (fun hHeld => ?_)
    clear hK K hHeld hS hq
    have hS := hS2
    clear hS2
    try simp only [Act.put, List.setIfInBounds_toArray, List.set_cons_zero, List.set_cons_succ]
    change wpAnyH _ _ _ _ _ _ #[true, true, true, true, false, true, false, true, true, false, false, false] _ _
    refine wpAnyH_take (i := 4) (v := ?vR3x8) (by (try simp only [List.getElem?_toArray, List.getElem?_cons_succ, List.getElem?_cons_zero]); rfl) (by kernel_rfl) (by kernel_rfl) (by kernel_rfl) (by exact fun _ _ _ h => h) (Or.inl ⟨by first | kernel_rfl | rfl, ?hyR3x8⟩) (by exact hS) ?rsR3x8
    case hyR3x8 => (intro uz hSw; (try dsimp only at hSw); go_simp; try with_reducible rfl)
    try simp only [Act.put, List.setIfInBounds_toArray, List.set_cons_zero, List.set_cons_succ]
    change wpAnyH _ _ _ _ _ _ #[true, true, true, true, true, true, false, true, true, false, false, false] _ _
    refine wpAnyH_take (i := 6) (v := ?vR3x9) (by (try simp only [List.getElem?_toArray, List.getElem?_cons_succ, List.getElem?_cons_zero]); rfl) (by kernel_rfl) (by kernel_rfl) (by kernel_rfl) (by exact fun _ _ _ h => h) (Or.inl ⟨by first | kernel_rfl | rfl, ?hyR3x9⟩) (by exact hS) ?rsR3x9
    case hyR3x9 => (intro uz hSw; (try dsimp only at hSw); go_simp; try with_reducible rfl)
    try simp only [Act.put, List.setIfInBounds_toArray, List.set_cons_zero, List.set_cons_succ]
    change wpAnyH _ _ _ _ _ _ #[true, true, true, true, true, true, true, true, true, false, false, false] _ _
    refine wpAnyH_ready (rs := [9]) (by kernel_rfl) (by simp) ?_
    refine (AllReadyH.cons (by (try simp only [List.getElem?_toArray, List.getElem?_cons_succ, List.getElem?_cons_zero]); rfl) (fun K hK => ?_) AllReadyH.nil)
    go_simp
    refine (HTB.out _ (HQ.out.trans hS)).mono ?_
    rintro e yR3x10 ⟨rfl, hq⟩
    try (go_wp2_with fail)
    have hS2 := Q.trans hS hq
    refine hK.out _ _ (by exact hS2) (fun hHeld => ?_)
    clear hK K hHeld hS hq
    have hS := hS2
    clear hS2
    try simp only [Act.put, List.setIfInBounds_toArray, List.set_cons_zero, List.set_cons_succ]
    change wpAnyH _ _ _ _ _ _ #[true, true, true, true, true, true, true, true, true, true, false, false] _ _
    refine wpAnyH_take (i := 10) (v := ?vR3x11) (by (try simp only [List.getElem?_toArray, List.getElem?_cons_succ, List.getElem?_cons_zero]); rfl) (by kernel_rfl) (by kernel_rfl) (by kernel_rfl) (by exact fun _ _ _ h => h) (Or.inl ⟨by first | kernel_rfl | rfl, ?hyR3x11⟩) (by exact hS) ?rsR3x11
    case hyR3x11 => (intro uz hSw; (try dsimp only at hSw); go_simp; try with_reducible rfl)
    try simp only [Act.put, List.setIfInBounds_toArray, List.set_cons_zero, List.set_cons_succ]
    change wpAnyH _ _ _ _ _ _ #[true, true, true, true, true, true, true, true, true, true, true, false] _ _
    refine wpAnyH_take (i := 11) (v := ?vR3x12) (by (try simp only [List.getElem?_toArray, List.getElem?_cons_succ, List.getElem?_cons_zero]); rfl) (by kernel_rfl) (by kernel_rfl) (by kernel_rfl) (by exact fun _ _ _ h => h) (Or.inl ⟨by first | kernel_rfl | rfl, ?hyR3x12⟩) (by exact hS) ?rsR3x12
    case hyR3x12 => (intro uz hSw; (try dsimp only at hSw); go_simp; try with_reducible rfl)
    try simp only [Act.put, List.setIfInBounds_toArray, List.set_cons_zero, List.set_cons_succ]
    change wpAnyH _ _ _ _ _ _ #[true, true, true, true, true, true, true, true, true, true, true, true] _ _
    refine wpAnyH_done (by kernel_rfl) ?_ _
    go_wp2_with fail
    go_ret
    exact ⟨retS (by first | (simp [txt]; done) | (rw [show (ByteArray.mk #[]) = ByteArray.empty from rfl]; simp [txt]; done)), HQ.out.trans hS⟩
  · have h1 : ¬ (9223372036854775807 < 1 + A.size) := by omega
    have h2 : ¬ (9223372036854775807 < 1 + A.size + 1) := by omega
    have h3 : ¬ (9223372036854775807 < 1 + A.size + 1 + B.size) := by omega
    go_enter Try.func23, Try.ntmps23
    go_upto_region 1 with fail
    rw [← hz]
    clear hz
    go_wp2_with fail
    refine wp_region_held_drew (S := fun u => Q z u) (by kernel_rfl) (by exact (Q.refl z).drew) (fun hHeld => ?_)
    have hS : Q z z.drew := hHeld
    clear hHeld
    have hq : Q z z.drew := (Q.refl _).drew
    clear hq
    generalize z.drew = yR4x0 at *
    change wpAnyH _ _ _ _ _ _ #[false, false, false, false, false, false, false, false, false, false, false, false] _ _
    refine wpAnyH_take (i := 0) (v := ?vR4x1) (by (try simp only [List.getElem?_toArray, List.getElem?_cons_succ, List.getElem?_cons_zero]); rfl) (by kernel_rfl) (by kernel_rfl) (by kernel_rfl) (by exact fun _ _ _ h => h) (Or.inl ⟨by first | kernel_rfl | rfl, ?hyR4x1⟩) (by exact hS) ?rsR4x1
    case hyR4x1 => (intro uz hSw; (try dsimp only at hSw); go_simp; try with_reducible rfl)
    try simp only [Act.put, List.setIfInBounds_toArray, List.set_cons_zero, List.set_cons_succ]
    change wpAnyH _ _ _ _ _ _ #[true, false, false, false, false, false, false, false, false, false, false, false] _ _
    refine wpAnyH_take (i := 1) (v := ?vR4x2) (by (try simp only [List.getElem?_toArray, List.getElem?_cons_succ, List.getElem?_cons_zero]); rfl) (by kernel_rfl) (by kernel_rfl) (by kernel_rfl) (by exact fun _ _ _ h => h) (Or.inl ⟨by first | kernel_rfl | rfl, ?hyR4x2⟩) (by exact hS) ?rsR4x2
    case hyR4x2 => (intro uz hSw; (try dsimp only at hSw); go_simp; try with_reducible rfl)
    try simp only [Act.put, List.setIfInBounds_toArray, List.set_cons_zero, List.set_cons_succ]
    change wpAnyH _ _ _ _ _ _ #[true, true, false, false, false, false, false, false, false, false, false, false] _ _
    refine wpAnyH_take (i := 2) (v := ?vR4x3) (by (try simp only [List.getElem?_toArray, List.getElem?_cons_succ, List.getElem?_cons_zero]); rfl) (by kernel_rfl) (by kernel_rfl) (by kernel_rfl) (by exact fun _ _ _ h => h) (Or.inl ⟨by first | kernel_rfl | rfl, ?hyR4x3⟩) (by exact hS) ?rsR4x3
    case hyR4x3 => (intro uz hSw; (try dsimp only at hSw); have hxx := HB.out.q hSw; have d0 := hxx.cell 1 rfl; clear hxx; go_simp; try with_reducible rfl)
    try simp only [Act.put, List.setIfInBounds_toArray, List.set_cons_zero, List.set_cons_succ]
    change wpAnyH _ _ _ _ _ _ #[true, true, true, false, false, false, false, false, false, false, false, false] _ _
    refine wpAnyH_take (i := 5) (v := ?vR4x4) (by (try simp only [List.getElem?_toArray, List.getElem?_cons_succ, List.getElem?_cons_zero]); rfl) (by kernel_rfl) (by kernel_rfl) (by kernel_rfl) (by exact fun _ _ _ h => h) (Or.inl ⟨by first | kernel_rfl | rfl, ?hyR4x4⟩) (by exact hS) ?rsR4x4
    case hyR4x4 => (intro uz hSw; (try dsimp only at hSw); go_simp; try with_reducible rfl)
    try simp only [Act.put, List.setIfInBounds_toArray, List.set_cons_zero, List.set_cons_succ]
    change wpAnyH _ _ _ _ _ _ #[true, true, true, false, false, true, false, false, false, false, false, false] _ _
    refine wpAnyH_take (i := 7) (v := ?vR4x5) (by (try simp only [List.getElem?_toArray, List.getElem?_cons_succ, List.getElem?_cons_zero]); rfl) (by kernel_rfl) (by kernel_rfl) (by kernel_rfl) (by exact fun _ _ _ h => h) (Or.inl ⟨by first | kernel_rfl | rfl, ?hyR4x5⟩) (by exact hS) ?rsR4x5
    case hyR4x5 => (intro uz hSw; (try dsimp only at hSw); go_simp; try with_reducible rfl)
    try simp only [Act.put, List.setIfInBounds_toArray, List.set_cons_zero, List.set_cons_succ]
    change wpAnyH _ _ _ _ _ _ #[true, true, true, false, false, true, false, true, false, false, false, false] _ _
    refine wpAnyH_take (i := 8) (v := ?vR4x6) (by (try simp only [List.getElem?_toArray, List.getElem?_cons_succ, List.getElem?_cons_zero]); rfl) (by kernel_rfl) (by kernel_rfl) (by kernel_rfl) (by exact fun _ _ _ h => h) (Or.inl ⟨by first | kernel_rfl | rfl, ?hyR4x6⟩) (by exact hS) ?rsR4x6
    case hyR4x6 => (intro uz hSw; (try dsimp only at hSw); have hxx := HB.out.q hSw; have d0 := hxx.cell 3 rfl; clear hxx; go_simp; try with_reducible rfl)
    try simp only [Act.put, List.setIfInBounds_toArray, List.set_cons_zero, List.set_cons_succ]
    change wpAnyH _ _ _ _ _ _ #[true, true, true, false, false, true, false, true, true, false, false, false] _ _
    refine wpAnyH_ready (rs := [3]) (by kernel_rfl) (by simp) ?_
    refine (AllReadyH.cons (by (try simp only [List.getElem?_toArray, List.getElem?_cons_succ, List.getElem?_cons_zero]); rfl) (fun K hK => ?_) AllReadyH.nil)
    go_simp
    refine (HTA.out _ (HQ.out.trans hS)).mono ?_
    rintro e yR4x7 ⟨rfl, hq⟩
    try (go_wp2_with fail)
    have hS2 := Q.trans hS hq
    refine hK.out _ _ (by exact hS2) (fun hHeld => ?_)
    clear hK K hHeld hS hq
    have hS := hS2
    clear hS2
    try simp only [Act.put, List.setIfInBounds_toArray, List.set_cons_zero, List.set_cons_succ]
    change wpAnyH _ _ _ _ _ _ #[true, true, true, true, false, true, false, true, true, false, false, false] _ _
    refine wpAnyH_take (i := 4) (v := ?vR4x8) (by (try simp only [List.getElem?_toArray, List.getElem?_cons_succ, List.getElem?_cons_zero]); rfl) (by kernel_rfl) (by kernel_rfl) (by kernel_rfl) (by exact fun _ _ _ h => h) (Or.inl ⟨by first | kernel_rfl | rfl, ?hyR4x8⟩) (by exact hS) ?rsR4x8
    case hyR4x8 => (intro uz hSw; (try dsimp only at hSw); go_simp; try with_reducible rfl)
    try simp only [Act.put, List.setIfInBounds_toArray, List.set_cons_zero, List.set_cons_succ]
    change wpAnyH _ _ _ _ _ _ #[true, true, true, true, true, true, false, true, true, false, false, false] _ _
    refine wpAnyH_take (i := 6) (v := ?vR4x9) (by (try simp only [List.getElem?_toArray, List.getElem?_cons_succ, List.getElem?_cons_zero]); rfl) (by kernel_rfl) (by kernel_rfl) (by kernel_rfl) (by exact fun _ _ _ h => h) (Or.inl ⟨by first | kernel_rfl | rfl, ?hyR4x9⟩) (by exact hS) ?rsR4x9
    case hyR4x9 => (intro uz hSw; (try dsimp only at hSw); go_simp; try with_reducible rfl)
    try simp only [Act.put, List.setIfInBounds_toArray, List.set_cons_zero, List.set_cons_succ]
    change wpAnyH _ _ _ _ _ _ #[true, true, true, true, true, true, true, true, true, false, false, false] _ _
    refine wpAnyH_ready (rs := [9]) (by kernel_rfl) (by simp) ?_
    refine (AllReadyH.cons (by (try simp only [List.getElem?_toArray, List.getElem?_cons_succ, List.getElem?_cons_zero]); rfl) (fun K hK => ?_) AllReadyH.nil)
    go_simp
    refine (HTB.out _ (HQ.out.trans hS)).mono ?_
    rintro e yR4x10 ⟨rfl, hq⟩
    try (go_wp2_with fail)
    have hS2 := Q.trans hS hq
    refine hK.out _ _ (by exact hS2) (fun hHeld => ?_)
    clear hK K hHeld hS hq
    have hS := hS2
    clear hS2
    try simp only [Act.put, List.setIfInBounds_toArray, List.set_cons_zero, List.set_cons_succ]
    change wpAnyH _ _ _ _ _ _ #[true, true, true, true, true, true, true, true, true, true, false, false] _ _
    refine wpAnyH_take (i := 10) (v := ?vR4x11) (by (try simp only [List.getElem?_toArray, List.getElem?_cons_succ, List.getElem?_cons_zero]); rfl) (by kernel_rfl) (by kernel_rfl) (by kernel_rfl) (by exact fun _ _ _ h => h) (Or.inl ⟨by first | kernel_rfl | rfl, ?hyR4x11⟩) (by exact hS) ?rsR4x11
    case hyR4x11 => (intro uz hSw; (try dsimp only at hSw); go_simp; try with_reducible rfl)
    try simp only [Act.put, List.setIfInBounds_toArray, List.set_cons_zero, List.set_cons_succ]
    change wpAnyH _ _ _ _ _ _ #[true, true, true, true, true, true, true, true, true, true, true, false] _ _
    refine wpAnyH_take (i := 11) (v := ?vR4x12) (by (try simp only [List.getElem?_toArray, List.getElem?_cons_succ, List.getElem?_cons_zero]); rfl) (by kernel_rfl) (by kernel_rfl) (by kernel_rfl) (by exact fun _ _ _ h => h) (Or.inl ⟨by first | kernel_rfl | rfl, ?hyR4x12⟩) (by exact hS) ?rsR4x12
    case hyR4x12 => (intro uz hSw; (try dsimp only at hSw); go_simp; try with_reducible rfl)
    try simp only [Act.put, List.setIfInBounds_toArray, List.set_cons_zero, List.set_cons_succ]
    change wpAnyH _ _ _ _ _ _ #[true, true, true, true, true, true, true, true, true, true, true, true] _ _
    refine wpAnyH_done (by kernel_rfl) ?_ _
    go_wp2_with fail
    go_ret
    exact ⟨retS (by first | (simp [txt]; done) | (rw [show (ByteArray.mk #[]) = ByteArray.empty from rfl]; simp [txt]; done)), HQ.out.trans hS⟩
end Tp
end Go.Proofs.Ytagpofhencpliaa
