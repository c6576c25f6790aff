/- What package draft's Splice comes to, by a walk through it. -/
import Derived.Test.YtagpofhencpliaaRows
import Derived.Test.YtagpofhencpliaaTmM
import Derived.Test.YtagpofhencpliaaTmS
import Derived.Test.YtagpofhencpliaaTmA
import Derived.Test.YtagpofhencpliaaTmB
import Derived.Test.YtagpofhencpliaaTmC
import Derived.Test.YtagpofhencpliaaTmD
import Derived.Test.YtagpofhencpliaaDigM
import Derived.Test.YtagpofhencpliaaDigL
import Derived.Test.YtagpofhencpliaaDecM
import Derived.Test.YtagpofhencpliaaInts
import Derived.Test.YtagpofhencpliaaSto
import Derived.Test.YtagpofhencpliaaBlk
import Derived.Test.YtagpofhencpliaaLdR
import Derived.Deep.Cut
import Derived.Deep.RegionHeld
import Derived.Deep.QuietTactic
import Derived.Deep.RegionWith
import Derived.BigQuiet
import Derived.Laws.ResultCell
set_option linter.unusedVariables false
set_option linter.unusedSimpArgs false
namespace Go.Proofs.Ytagpofhencpliaa
open Go.RowKit
namespace Tm
theorem Own_past4 {w : World} {B g : Nat} {v : Value} {zs : List Int} {ty : TypeId} {l : List Value} (h : Own w B v zs) (hb : Bk w g ty l) (ht : ty ≠ 3) (x0 x1 x2 x3 : Value) :
    Own ((((w.setCell ⟨g, 0, none⟩ x0).setCell ⟨g, 1, none⟩ x1).setCell ⟨g, 2, none⟩ x2).setCell ⟨g, 3, none⟩ x3) B v zs :=
  Own_past (Own_past (Own_past (Own_past h hb ht 0 x0) (hb.set 0 _) ht 1 x1) ((hb.set 0 _).set 1 _) ht 2 x2) (((hb.set 0 _).set 1 _).set 2 _) ht 3 x3
/-- What stands while a function works that stores into one block: nothing that was there has changed, and its own copy is as it was. -/
def SX (w : World) (b : Nat) (ty : TypeId) (l : List Value) (u : World) : Prop := Q w u ∧ Bk u b ty l
theorem SX.q {w u u' : World} {b : Nat} {ty : TypeId} {l : List Value} (h : SX w b ty l u) (q : Q u u') : SX w b ty l u' := ⟨h.1.trans q, h.2.q q⟩
end Tm
namespace Tp
open Tm
set_option maxRecDepth 100000 in
set_option maxHeartbeats 1500000 in
theorem splice_any (g s : Bool) (a1 a2 : Option Addr) (n1 n2 c1 c2 : Nat) (I F : List Int) (w : World) (hi : Lst w (.slice a1 n1 c1) I) (hf : Lst w (.slice a2 n2 c2) F) (k1 : I.length = n1) (k2 : F.length = n2) (l1 : n1 ≤ 100000) (l2 : n2 ≤ 100000) (i j : Int) (va : Value) (A : List Int) (ha : Lst w va A) (la : A.length ≤ 100000) :
    Calls Try.prog 27 #[.agg #[.bool g, .slice a1 n1 c1, .bool s, .slice a2 n2 c2], .int .i64 i, .int .i64 j, va] w fun e w' => ∃ x, e = .returned (.tuple #[x, .int .i64 (spC ⟨g, I, s, F⟩ i j A)]) ∧ LD w' (w.heap.size + 1) x (spR ⟨g, I, s, F⟩ i j A) ∧ Q w w' := by
  obtain ⟨m, hm⟩ : ∃ m, m = A.length := ⟨_, rfl⟩
  obtain ⟨ax, cx, rfl, _, _⟩ := ha.form0 hm.symm
  rw [← hm] at la
  have HMY := Lib.hid (fun u (q : Q w u) => may_any g s _ _ I F u (hi.q q) (hf.q q) (by omega) (by omega))
  have HAA := Lib.hid (fun u (q : Q w u) => ((areAtoms_any _ A u (ha.q q) (by omega)).mono fun _ _ h => ⟨h.1, Qeq h.2⟩ : Calls Try.prog 48 #[.slice ax m cx] u fun e w' => e = .returned (.bool (okA A)) ∧ Q u w'))
  obtain ⟨N, hN⟩ : ∃ N, N = n1 + (sep s).length + n2 := ⟨_, rfl⟩
  have hsl := sep_len s
  have HAT := Lib.hid (fun u (q : Q w u) => by
    have h := atoms_any g s a1 a2 n1 n2 c1 c2 I F u (hi.q q) (hf.q q) k1 k2 l1 l2
    rw [← hN] at h
    exact h)
  have hal : (ats ⟨g, I, s, F⟩).length = N := by rw [ats_len, hN]; dsimp only; rw [k1, k2]
  have hate : I ++ sep s ++ F = ats ⟨g, I, s, F⟩ := rfl
  rw [hate] at HAT
  have hbad := fun (h : (may ⟨g, I, s, F⟩ && okA A) = false) => spC_bad (i := i) (j := j) h
  have hfar := fun (h : (may ⟨g, I, s, F⟩ && okA A) = true) h2 => spC_far (i := i) (j := j) h h2
  have hin := fun (h : (may ⟨g, I, s, F⟩ && okA A) = true) h2 => spC_in (i := i) (j := j) h h2
  rw [hal] at hfar hin
  have HA := Lib.hid (fun u (q : Q w u) => ha.q q)
  have hNb : N ≤ 200001 := by omega
  have hsp : spl ⟨g, I, s, F⟩ i j A = (ats ⟨g, I, s, F⟩).take i.toNat ++ A ++ (ats ⟨g, I, s, F⟩).drop j.toNat := rfl
  dsimp only at hin
  generalize may ⟨g, I, s, F⟩ = r at *
  generalize okA A = r2 at *
  generalize spC ⟨g, I, s, F⟩ i j A = C at *
  generalize spR ⟨g, I, s, F⟩ i j A = R at *
  generalize spl ⟨g, I, s, F⟩ i j A = J at *
  generalize ats ⟨g, I, s, F⟩ = D at *
  obtain ⟨y, hy⟩ : ∃ y, y = w.alloc (.cells #[.bool g, .slice a1 n1 c1, .bool s, .slice a2 n2 c2] 30) := ⟨_, rfl⟩
  have hqy : Q w y := by rw [hy]; exact (Q.refl w).alloc _
  have hby : Bk y w.heap.size 30 [.bool g, .slice a1 n1 c1, .bool s, .slice a2 n2 c2] := by rw [hy]; exact Bk.new _ _ _
  have hsy : y.heap.size = w.heap.size + 1 := by rw [hy]; simp
  obtain ⟨z, hz⟩ : ∃ z, z = y.alloc (.cells #[.bool false, .slice none 0 0, .bool false, .slice none 0 0] 30) := ⟨_, rfl⟩
  have hqz : Q y z := by rw [hz]; exact (Q.refl y).alloc _
  have HQ := Lib.hid (hqy.trans hqz)
  have HB := Lib.hid (hby.q hqz)
  have HD := Lib.hid (show Bk z (w.heap.size + 1) 30 [.bool false, .slice none 0 0, .bool false, .slice none 0 0] by rw [hz, ← hsy]; exact Bk.new _ _ _)
  have HWD := Lib.hid (Nat.le_succ w.heap.size)
  have hz2 : z = (w.alloc (.cells #[.bool g, .slice a1 n1 c1, .bool s, .slice a2 n2 c2] 30)).alloc (.cells #[.bool false, .slice none 0 0, .bool false, .slice none 0 0] 30) := by rw [hz, hy]
  have HM := Lib.hid hm.symm
  have HAL := Lib.hid hal
  have HSPL := Lib.hid hsp
  clear hqy hby hsy hqz hz hy hi hf ha k1 k2 hate hsl hN hm hal hsp
  cases r
  · obtain ⟨rfl, rfl⟩ := hbad rfl
    clear hbad hfar hin
    go_enter Try.func27, Try.ntmps27
    go_upto_region 1 with fail
    rw [← hz2]
    clear hz2
    have x0 := HB.out.cell 0 rfl
    have x1 := HB.out.cell 1 rfl
    have x2 := HB.out.cell 2 rfl
    have x3 := HB.out.cell 3 rfl
    go_wp2_with fail
    refine (HMY.out _ HQ.out).mono ?_
    rintro e u1 ⟨rfl, hq⟩
    have HB1 := Lib.hid (HB.out.q hq)
    have HD1 := Lib.hid (HD.out.q hq)
    have HQ1 := Lib.hid (HQ.out.trans hq)
    clear hq x0 x1 x2 x3 HB HD HQ
    have b0 := HD1.out.cell 0 rfl
    have f0 := HD1.out.free 0
    have b1 := HD1.out.cell 1 rfl
    have f1 := HD1.out.free 1
    have b2 := HD1.out.cell 2 rfl
    have f2 := HD1.out.free 2
    have b3 := HD1.out.cell 3 rfl
    have f3 := HD1.out.free 3
    go_wp2_with fail
    exact ret_d2 rfl rfl rfl rfl ((((HD1.out.set 0 _).set 1 _).set 2 _).set 3 _) rfl ⟨_, rfl, LD.zero _ _, Q.setCell (Q.setCell (Q.setCell (Q.setCell HQ1.out HWD.out _) HWD.out _) HWD.out _) HWD.out _⟩
  · cases r2
    · obtain ⟨rfl, rfl⟩ := hbad rfl
      clear hbad hfar hin
      go_enter Try.func27, Try.ntmps27
      go_upto_region 1 with fail
      rw [← hz2]
      clear hz2
      have x0 := HB.out.cell 0 rfl
      have x1 := HB.out.cell 1 rfl
      have x2 := HB.out.cell 2 rfl
      have x3 := HB.out.cell 3 rfl
      go_wp2_with fail
      refine (HMY.out _ HQ.out).mono ?_
      rintro e u1 ⟨rfl, hq⟩
      have HB1 := Lib.hid (HB.out.q hq)
      have HD1 := Lib.hid (HD.out.q hq)
      have HQ1 := Lib.hid (HQ.out.trans hq)
      clear hq x0 x1 x2 x3 HB HD HQ
      go_wp2_with fail
      refine (HAA.out _ HQ1.out).mono ?_
      rintro e u2 ⟨rfl, hq⟩
      have HB2 := Lib.hid (HB1.out.q hq)
      have HD2 := Lib.hid (HD1.out.q hq)
      have HQ2 := Lib.hid (HQ1.out.trans hq)
      clear hq HB1 HD1 HQ1
      have b0 := HD2.out.cell 0 rfl
      have f0 := HD2.out.free 0
      have b1 := HD2.out.cell 1 rfl
      have f1 := HD2.out.free 1
      have b2 := HD2.out.cell 2 rfl
      have f2 := HD2.out.free 2
      have b3 := HD2.out.cell 3 rfl
      have f3 := HD2.out.free 3
      go_wp2_with fail
      exact ret_d2 rfl rfl rfl rfl ((((HD2.out.set 0 _).set 1 _).set 2 _).set 3 _) rfl ⟨_, rfl, LD.zero _ _, Q.setCell (Q.setCell (Q.setCell (Q.setCell HQ2.out HWD.out _) HWD.out _) HWD.out _) HWD.out _⟩
    · clear hbad
      by_cases hi0 : i < 0
      · obtain ⟨rfl, rfl⟩ := hfar rfl (.inl hi0)
        clear hfar hin
        go_enter Try.func27, Try.ntmps27
        go_upto_region 1 with fail
        rw [← hz2]
        clear hz2
        have x0 := HB.out.cell 0 rfl
        have x1 := HB.out.cell 1 rfl
        have x2 := HB.out.cell 2 rfl
        have x3 := HB.out.cell 3 rfl
        go_wp2_with fail
        refine (HMY.out _ HQ.out).mono ?_
        rintro e u1 ⟨rfl, hq⟩
        have HB1 := Lib.hid (HB.out.q hq)
        have HD1 := Lib.hid (HD.out.q hq)
        have HQ1 := Lib.hid (HQ.out.trans hq)
        clear hq x0 x1 x2 x3 HB HD HQ
        go_wp2_with fail
        refine (HAA.out _ HQ1.out).mono ?_
        rintro e u2 ⟨rfl, hq⟩
        have HB2 := Lib.hid (HB1.out.q hq)
        have HD2 := Lib.hid (HD1.out.q hq)
        have HQ2 := Lib.hid (HQ1.out.trans hq)
        clear hq HB1 HD1 HQ1
        have x0 := HB2.out.cell 0 rfl
        have x1 := HB2.out.cell 1 rfl
        have x2 := HB2.out.cell 2 rfl
        have x3 := HB2.out.cell 3 rfl
        go_wp2_with fail
        refine (HAT.out _ HQ2.out).mono ?_
        rintro e u3 ⟨da, dc, rfl, ho, hq⟩
        have HO := Lib.hid ho
        have HB3 := Lib.hid (HB2.out.q hq)
        have HD3 := Lib.hid (HD2.out.q hq)
        have HQ3 := Lib.hid (HQ2.out.trans hq)
        clear hq ho x0 x1 x2 x3 HB2 HD2 HQ2
        have b0 := HD3.out.cell 0 rfl
        have f0 := HD3.out.free 0
        have b1 := HD3.out.cell 1 rfl
        have f1 := HD3.out.free 1
        have b2 := HD3.out.cell 2 rfl
        have f2 := HD3.out.free 2
        have b3 := HD3.out.cell 3 rfl
        have f3 := HD3.out.free 3
        go_wp2_with fail
        exact ret_d2 rfl rfl rfl rfl ((((HD3.out.set 0 _).set 1 _).set 2 _).set 3 _) rfl ⟨_, rfl, LD.zero _ _, Q.setCell (Q.setCell (Q.setCell (Q.setCell HQ3.out HWD.out _) HWD.out _) HWD.out _) HWD.out _⟩
      · have hi1 : 0 ≤ i := by omega
        by_cases hji : j < i
        · obtain ⟨rfl, rfl⟩ := hfar rfl (.inr (.inl hji))
          clear hfar hin
          go_enter Try.func27, Try.ntmps27
          go_upto_region 1 with fail
          rw [← hz2]
          clear hz2
          have x0 := HB.out.cell 0 rfl
          have x1 := HB.out.cell 1 rfl
          have x2 := HB.out.cell 2 rfl
          have x3 := HB.out.cell 3 rfl
          go_wp2_with fail
          refine (HMY.out _ HQ.out).mono ?_
          rintro e u1 ⟨rfl, hq⟩
          have HB1 := Lib.hid (HB.out.q hq)
          have HD1 := Lib.hid (HD.out.q hq)
          have HQ1 := Lib.hid (HQ.out.trans hq)
          clear hq x0 x1 x2 x3 HB HD HQ
          go_wp2_with fail
          refine (HAA.out _ HQ1.out).mono ?_
          rintro e u2 ⟨rfl, hq⟩
          have HB2 := Lib.hid (HB1.out.q hq)
          have HD2 := Lib.hid (HD1.out.q hq)
          have HQ2 := Lib.hid (HQ1.out.trans hq)
          clear hq HB1 HD1 HQ1
          have x0 := HB2.out.cell 0 rfl
          have x1 := HB2.out.cell 1 rfl
          have x2 := HB2.out.cell 2 rfl
          have x3 := HB2.out.cell 3 rfl
          go_wp2_with fail
          refine (HAT.out _ HQ2.out).mono ?_
          rintro e u3 ⟨da, dc, rfl, ho, hq⟩
          have HO := Lib.hid ho
          have HB3 := Lib.hid (HB2.out.q hq)
          have HD3 := Lib.hid (HD2.out.q hq)
          have HQ3 := Lib.hid (HQ2.out.trans hq)
          clear hq ho x0 x1 x2 x3 HB2 HD2 HQ2
          have b0 := HD3.out.cell 0 rfl
          have f0 := HD3.out.free 0
          have b1 := HD3.out.cell 1 rfl
          have f1 := HD3.out.free 1
          have b2 := HD3.out.cell 2 rfl
          have f2 := HD3.out.free 2
          have b3 := HD3.out.cell 3 rfl
          have f3 := HD3.out.free 3
          go_wp2_with fail
          exact ret_d2 rfl rfl rfl rfl ((((HD3.out.set 0 _).set 1 _).set 2 _).set 3 _) rfl ⟨_, rfl, LD.zero _ _, Q.setCell (Q.setCell (Q.setCell (Q.setCell HQ3.out HWD.out _) HWD.out _) HWD.out _) HWD.out _⟩
        · have hji1 : i ≤ j := by omega
          by_cases hjN : (N : Int) < j
          · obtain ⟨rfl, rfl⟩ := hfar rfl (.inr (.inr hjN))
            clear hfar hin
            go_enter Try.func27, Try.ntmps27
            go_upto_region 1 with fail
            rw [← hz2]
            clear hz2
            have x0 := HB.out.cell 0 rfl
            have x1 := HB.out.cell 1 rfl
            have x2 := HB.out.cell 2 rfl
            have x3 := HB.out.cell 3 rfl
            go_wp2_with fail
            refine (HMY.out _ HQ.out).mono ?_
            rintro e u1 ⟨rfl, hq⟩
            have HB1 := Lib.hid (HB.out.q hq)
            have HD1 := Lib.hid (HD.out.q hq)
            have HQ1 := Lib.hid (HQ.out.trans hq)
            clear hq x0 x1 x2 x3 HB HD HQ
            go_wp2_with fail
            refine (HAA.out _ HQ1.out).mono ?_
            rintro e u2 ⟨rfl, hq⟩
            have HB2 := Lib.hid (HB1.out.q hq)
            have HD2 := Lib.hid (HD1.out.q hq)
            have HQ2 := Lib.hid (HQ1.out.trans hq)
            clear hq HB1 HD1 HQ1
            have x0 := HB2.out.cell 0 rfl
            have x1 := HB2.out.cell 1 rfl
            have x2 := HB2.out.cell 2 rfl
            have x3 := HB2.out.cell 3 rfl
            go_wp2_with fail
            refine (HAT.out _ HQ2.out).mono ?_
            rintro e u3 ⟨da, dc, rfl, ho, hq⟩
            have HO := Lib.hid ho
            have HB3 := Lib.hid (HB2.out.q hq)
            have HD3 := Lib.hid (HD2.out.q hq)
            have HQ3 := Lib.hid (HQ2.out.trans hq)
            clear hq ho x0 x1 x2 x3 HB2 HD2 HQ2
            have b0 := HD3.out.cell 0 rfl
            have f0 := HD3.out.free 0
            have b1 := HD3.out.cell 1 rfl
            have f1 := HD3.out.free 1
            have b2 := HD3.out.cell 2 rfl
            have f2 := HD3.out.free 2
            have b3 := HD3.out.cell 3 rfl
            have f3 := HD3.out.free 3
            go_wp2_with fail
            exact ret_d2 rfl rfl rfl rfl ((((HD3.out.set 0 _).set 1 _).set 2 _).set 3 _) rfl ⟨_, rfl, LD.zero _ _, Q.setCell (Q.setCell (Q.setCell (Q.setCell HQ3.out HWD.out _) HWD.out _) HWD.out _) HWD.out _⟩
          · have hjN1 : j ≤ (N : Int) := by omega
            obtain ⟨p, rfl⟩ : ∃ p : Nat, i = p := ⟨i.toNat, by omega⟩
            obtain ⟨q, rfl⟩ : ∃ q : Nat, j = q := ⟨j.toNat, by omega⟩
            obtain ⟨rfl, rfl⟩ := hin rfl (by omega)
            clear hin hfar
            have hsp := HSPL.out
            rw [Int.toNat_natCast, Int.toNat_natCast] at hsp
            have hpq : p ≤ q := by omega
            have hqN : q ≤ N := by omega
            have hjl : J.length ≤ 400000 := by
              have h1 := HAL.out
              have h2 := HM.out
              rw [hsp, List.length_append, List.length_append, List.length_take, List.length_drop, h1, h2]; omega
            have HOF := Lib.hid (fun u v (h : Lst u v J) => of_any g v J u h (by omega))
            replace HSPL := Lib.hid hsp
            generalize hRR : ofR g J = R at *
            clear hRR
            generalize ofC J = C at *
            clear hjl hsp
            go_enter Try.func27, Try.ntmps27
            go_upto_region 1 with fail
            rw [← hz2]
            clear hz2
            have x0 := HB.out.cell 0 rfl
            have x1 := HB.out.cell 1 rfl
            have x2 := HB.out.cell 2 rfl
            have x3 := HB.out.cell 3 rfl
            go_wp2_with fail
            refine (HMY.out _ HQ.out).mono ?_
            rintro e u1 ⟨rfl, hq⟩
            have HB1 := Lib.hid (HB.out.q hq)
            have HD1 := Lib.hid (HD.out.q hq)
            have HQ1 := Lib.hid (HQ.out.trans hq)
            clear hq x0 x1 x2 x3 HB HD HQ
            go_wp2_with fail
            refine (HAA.out _ HQ1.out).mono ?_
            rintro e u2 ⟨rfl, hq⟩
            have HB2 := Lib.hid (HB1.out.q hq)
            have HD2 := Lib.hid (HD1.out.q hq)
            have HQ2 := Lib.hid (HQ1.out.trans hq)
            clear hq HB1 HD1 HQ1
            have x0 := HB2.out.cell 0 rfl
            have x1 := HB2.out.cell 1 rfl
            have x2 := HB2.out.cell 2 rfl
            have x3 := HB2.out.cell 3 rfl
            go_wp2_with fail
            refine (HAT.out _ HQ2.out).mono ?_
            rintro e u3 ⟨da, dc, rfl, ho, hq⟩
            have HO := Lib.hid ho
            have HB3 := Lib.hid (HB2.out.q hq)
            have HD3 := Lib.hid (HD2.out.q hq)
            have HQ3 := Lib.hid (HQ2.out.trans hq)
            clear hq ho x0 x1 x2 x3 HB2 HD2 HQ2
            have hcu := cut_any _ D 0 p u3 HO.out.lst (by omega) (by rw [HAL.out]; omega)
            rw [Nat.sub_zero, List.drop_zero] at hcu
            have HCU := Lib.hid hcu
            clear hcu
            go_wp2_with fail
            refine HCU.out.mono ?_
            rintro e u4 ⟨ca, rfl, hca, rfl⟩
            have hpl : (D.take p).length = p := by rw [List.length_take, HAL.out]; omega
            have HAP := Lib.hid (show Ap u3 u3.heap.size (.slice ca p p) (D.take p) from .inr ⟨hca, ca, by rw [hpl]⟩)
            have HPL := Lib.hid hpl
            have HAX := Lib.hid (HA.out u3 HQ3.out)
            clear hca hpl
            go_wp2_with (at_builtin; refine app_plain HAP.out HAX.out p m HPL.out HM.out (Nat.le_refl _) (by omega) rfl _ _ rfl (by rfl) (by rfl) ?_)
            intro sa sc u5 hsp5 hq5
            have HSP := Lib.hid hsp5
            have HQB := Lib.hid (hq5 u3 (Q.refl u3) (Nat.le_refl _))
            have HWB := Lib.hid HQ3.out.le
            have HQ5 := Lib.hid (HQ3.out.trans HQB.out)
            have HDB := Lib.hid HD3.out
            have HLB := Lib.hid HO.out.lst
            have hspl : (D.take p ++ A).length = p + m := by rw [List.length_append, HPL.out, HM.out]
            have HSL := Lib.hid hspl
            have hdl : (D.drop q).length = N - q := by rw [List.length_drop, HAL.out]
            have HDL := Lib.hid hdl
            have HR := Lib.hid (HO.out.lst.rest HAL.out hqN)
            have hcm := HO.out.lst.form0 HAL.out
            obtain ⟨_, _, hsh, hca, hcb⟩ := hcm
            cases hsh
            unfold maxLen at hcb
            have hq0 : (0 : Int) ≤ (q : Int) := by omega
            have hqNi : (q : Int) ≤ (N : Int) := by omega
            have hqci : (q : Int) ≤ (dc : Int) := by omega
            have hNci : (N : Int) ≤ (dc : Int) := by omega
            clear hsp5 hq5 hspl hdl HAP HCU
            rcases HR.out with ⟨gg, off, rfl, hz, hnc, hcm, hrl⟩ | ⟨rfl, rfl, hrl⟩ | ⟨ad, rfl, rfl, hnc, hcm, hrl⟩
            · have hx0 : Bk u5 w.heap.size 30 [.bool g, .slice a1 n1 c1, .bool s, .slice a2 n2 c2] := HB3.out.q HQB.out
              have HNE := Lib.hid (show w.heap.size + 1 ≠ w.heap.size by omega)
              go_wp2_with fail
              have hne : ¬ (dc = q) := by omega
              have hne2 : ¬ (dc - q = 0) := by omega
              have hne3 : ¬ (N = q) := by omega
              refine wp_region_held_drew (S := fun u => SX w w.heap.size 30 [.bool g, .slice a1 n1 c1, .bool s, .slice a2 n2 c2] u) (by kernel_rfl) (by exact ⟨HQ5.out.drew, hx0.q ((Q.refl _).drew)⟩) (fun hHeld => ?_)
              have hS : SX w w.heap.size 30 [.bool g, .slice a1 n1 c1, .bool s, .slice a2 n2 c2] u5.drew := hHeld
              clear hHeld
              have hq : Q u5 u5.drew := (Q.refl _).drew
              have HQB := Lib.hid (Q.trans HQB.out hq)
              have HSP := Lib.hid (Ap.q HSP.out hq)
              clear hq
              generalize u5.drew = yR1x0 at *
              change wpAnyH _ _ _ _ _ _ #[false, false, false, false, false, false, false, false, false, false, false, false] _ _
              refine wpAnyH_take (i := 0) (v := ?vR1x1) (by (try simp only [List.getElem?_toArray, List.getElem?_cons_succ, List.getElem?_cons_zero]); rfl) (by kernel_rfl) (by kernel_rfl) (by kernel_rfl) (by exact fun _ _ _ h => h) (Or.inl ⟨by first | kernel_rfl | rfl, ?hyR1x1⟩) (by exact hS) ?rsR1x1
              case hyR1x1 => (intro uz hSw; (try dsimp only at hSw); go_simp; try with_reducible rfl)
              try simp only [Act.put, List.setIfInBounds_toArray, List.set_cons_zero, List.set_cons_succ]
              change wpAnyH _ _ _ _ _ _ #[true, false, false, false, false, false, false, false, false, false, false, false] _ _
              refine wpAnyH_take (i := 1) (v := ?vR1x2) (by (try simp only [List.getElem?_toArray, List.getElem?_cons_succ, List.getElem?_cons_zero]); rfl) (by kernel_rfl) (by kernel_rfl) (by kernel_rfl) (by exact fun _ _ _ h => h) (Or.inl ⟨by first | kernel_rfl | rfl, ?hyR1x2⟩) (by exact hS) ?rsR1x2
              case hyR1x2 => (intro uz hSw; (try dsimp only at hSw); have d0 := hSw.2.cell 0 rfl; go_simp; try with_reducible rfl)
              try simp only [Act.put, List.setIfInBounds_toArray, List.set_cons_zero, List.set_cons_succ]
              change wpAnyH _ _ _ _ _ _ #[true, true, false, false, false, false, false, false, false, false, false, false] _ _
              refine wpAnyH_take (i := 2) (v := ?vR1x3) (by (try simp only [List.getElem?_toArray, List.getElem?_cons_succ, List.getElem?_cons_zero]); rfl) (by kernel_rfl) (by kernel_rfl) (by kernel_rfl) (by exact fun _ _ _ h => h) (Or.inl ⟨by first | kernel_rfl | rfl, ?hyR1x3⟩) (by exact hS) ?rsR1x3
              case hyR1x3 => (intro uz hSw; (try dsimp only at hSw); go_simp; try with_reducible rfl)
              try simp only [Act.put, List.setIfInBounds_toArray, List.set_cons_zero, List.set_cons_succ]
              change wpAnyH _ _ _ _ _ _ #[true, true, true, false, false, false, false, false, false, false, false, false] _ _
              refine wpAnyH_take (i := 3) (v := ?vR1x4) (by (try simp only [List.getElem?_toArray, List.getElem?_cons_succ, List.getElem?_cons_zero]); rfl) (by kernel_rfl) (by kernel_rfl) (by kernel_rfl) (by exact fun _ _ _ h => h) (Or.inl ⟨by first | kernel_rfl | rfl, ?hyR1x4⟩) (by exact hS) ?rsR1x4
              case hyR1x4 => (intro uz hSw; (try dsimp only at hSw); go_simp; try with_reducible rfl)
              try simp only [Act.put, List.setIfInBounds_toArray, List.set_cons_zero, List.set_cons_succ]
              change wpAnyH _ _ _ _ _ _ #[true, true, true, true, false, false, false, false, false, false, false, false] _ _
              refine wpAnyH_take (i := 4) (v := ?vR1x5) (by (try simp only [List.getElem?_toArray, List.getElem?_cons_succ, List.getElem?_cons_zero]); rfl) (by kernel_rfl) (by kernel_rfl) (by kernel_rfl) (by exact fun _ _ _ h => h) (Or.inl ⟨by first | kernel_rfl | rfl, ?hyR1x5⟩) (by exact hS) ?rsR1x5
              case hyR1x5 => (intro uz hSw; (try dsimp only at hSw); go_simp; try with_reducible rfl)
              try simp only [Act.put, List.setIfInBounds_toArray, List.set_cons_zero, List.set_cons_succ]
              change wpAnyH _ _ _ _ _ _ #[true, true, true, true, true, false, false, false, false, false, false, false] _ _
              refine wpAnyH_take (i := 5) (v := ?vR1x6) (by (try simp only [List.getElem?_toArray, List.getElem?_cons_succ, List.getElem?_cons_zero]); rfl) (by kernel_rfl) (by kernel_rfl) (by kernel_rfl) (by exact fun _ _ _ h => h) (Or.inl ⟨by first | kernel_rfl | rfl, ?hyR1x6⟩) (by exact hS) ?rsR1x6
              case hyR1x6 => (intro uz hSw; (try dsimp only at hSw); go_simp; try with_reducible rfl)
              try simp only [Act.put, List.setIfInBounds_toArray, List.set_cons_zero, List.set_cons_succ]
              change wpAnyH _ _ _ _ _ _ #[true, true, true, true, true, true, false, false, false, false, false, false] _ _
              refine wpAnyH_ready (rs := [6]) (by kernel_rfl) (by simp) ?_
              refine (AllReadyH.cons (by (try simp only [List.getElem?_toArray, List.getElem?_cons_succ, List.getElem?_cons_zero]); rfl) (fun K hK => ?_) AllReadyH.nil)
              refine app_step (B := u3.heap.size) (ys := D.drop q) HSP.out ?hu (p + m) (N - q) HSL.out (by rw [HDL.out]; try omega) HQB.out.le (by omega) rfl _ _ rfl (by rfl) (by rfl) ?_
              case hu => exact hrl.q HQB.out
              rw [← HSPL.out]
              intro ra rc yR1x7 hro hqq
              replace HQB := Lib.hid (hqq _ HQB.out (Nat.le_refl _))
              have hS2 : SX w w.heap.size 30 [.bool g, .slice a1 n1 c1, .bool s, .slice a2 n2 c2] yR1x7 := ⟨hqq _ hS.1 HWB.out, HB3.out.q HQB.out⟩
              have HJ := Lib.hid hro.lst
              clear HSP hro hqq
              refine hK.out _ _ (by exact hS2) (fun hHeld => ?_)
              clear hK K hHeld hS
              have hS := hS2
              clear hS2
              try simp only [Act.put, List.setIfInBounds_toArray, List.set_cons_zero, List.set_cons_succ]
              change wpAnyH _ _ _ _ _ _ #[true, true, true, true, true, true, true, false, false, false, false, false] _ _
              refine wpAnyH_ready (rs := [7]) (by kernel_rfl) (by simp) ?_
              refine (AllReadyH.cons (by (try simp only [List.getElem?_toArray, List.getElem?_cons_succ, List.getElem?_cons_zero]); rfl) (fun K hK => ?_) AllReadyH.nil)
              go_simp
              refine (HOF.out _ _ HJ.out).mono ?_
              rintro e yR1x8 ⟨xo, rfl, ⟨o1, p1, o2, p2, rfl, ho1, ho2⟩, hq⟩
              have HO1 := Lib.hid (ho1.mono (Nat.succ_le_succ hS.1.le))
              have HO2 := Lib.hid (ho2.mono (Nat.succ_le_succ hS.1.le))
              clear ho1 ho2
              try (go_wp2_with fail)
              have HQB := Lib.hid (Q.trans HQB.out hq)
              have HJ := Lib.hid (Lst.q HJ.out hq)
              have hS2 := SX.q hS hq
              refine hK.out _ _ (by exact hS2) (fun hHeld => ?_)
              clear hK K hHeld hS hq
              have hS := hS2
              clear hS2
              try simp only [Act.put, List.setIfInBounds_toArray, List.set_cons_zero, List.set_cons_succ]
              change wpAnyH _ _ _ _ _ _ #[true, true, true, true, true, true, true, true, false, false, false, false] _ _
              refine wpAnyH_take (i := 8) (v := ?vR1x9) (by (try simp only [List.getElem?_toArray, List.getElem?_cons_succ, List.getElem?_cons_zero]); rfl) (by kernel_rfl) (by kernel_rfl) (by kernel_rfl) (by exact fun _ _ _ h => h) (Or.inl ⟨by first | kernel_rfl | rfl, ?hyR1x9⟩) (by exact hS) ?rsR1x9
              case hyR1x9 => (intro uz hSw; (try dsimp only at hSw); go_simp; try with_reducible rfl)
              try simp only [Act.put, List.setIfInBounds_toArray, List.set_cons_zero, List.set_cons_succ]
              change wpAnyH _ _ _ _ _ _ #[true, true, true, true, true, true, true, true, true, false, false, false] _ _
              refine wpAnyH_take (i := 9) (v := ?vR1x10) (by (try simp only [List.getElem?_toArray, List.getElem?_cons_succ, List.getElem?_cons_zero]); rfl) (by kernel_rfl) (by kernel_rfl) (by kernel_rfl) (by exact fun _ _ _ h => h) (Or.inl ⟨by first | kernel_rfl | rfl, ?hyR1x10⟩) (by exact hS) ?rsR1x10
              case hyR1x10 => (intro uz hSw; (try dsimp only at hSw); go_simp; try with_reducible rfl)
              try simp only [Act.put, List.setIfInBounds_toArray, List.set_cons_zero, List.set_cons_succ]
              change wpAnyH _ _ _ _ _ _ #[true, true, true, true, true, true, true, true, true, true, false, false] _ _
              refine wpAnyH_ready (rs := [10]) (by kernel_rfl) (by simp) ?_
              refine (AllReadyH.cons (by (try simp only [List.getElem?_toArray, List.getElem?_cons_succ, List.getElem?_cons_zero]); rfl) (fun K hK => ?_) AllReadyH.nil)
              have hd := HDB.out.q HQB.out
              have b0 := hd.cell 0 rfl
              have f0 := hd.free 0
              have b1 := hd.cell 1 rfl
              have f1 := hd.free 1
              have b2 := hd.cell 2 rfl
              have f2 := hd.free 2
              have b3 := hd.cell 3 rfl
              have f3 := hd.free 3
              go_simp
              have hS2 : SX w w.heap.size 30 [.bool g, .slice a1 n1 c1, .bool s, .slice a2 n2 c2] _ := ⟨(Q.setCell (Q.setCell (Q.setCell (Q.setCell hS.1 (ad := ⟨w.heap.size + 1, 0, none⟩) HWD.out (.bool R.g)) (ad := ⟨w.heap.size + 1, 1, none⟩) HWD.out (.slice o1 R.i.length p1)) (ad := ⟨w.heap.size + 1, 2, none⟩) HWD.out (.bool R.s)) (ad := ⟨w.heap.size + 1, 3, none⟩) HWD.out (.slice o2 R.f.length p2)), (Bk.past (Bk.past (Bk.past (Bk.past hS.2 HNE.out (.bool R.g)) HNE.out (.slice o1 R.i.length p1)) HNE.out (.bool R.s)) HNE.out (.slice o2 R.f.length p2))⟩
              have HE := Lib.hid ((((hd.set 0 (.bool R.g)).set 1 (.slice o1 R.i.length p1)).set 2 (.bool R.s)).set 3 (.slice o2 R.f.length p2))
              replace HO1 := Lib.hid (Tm.Own_past4 HO1.out hd (by decide) (.bool R.g) (.slice o1 R.i.length p1) (.bool R.s) (.slice o2 R.f.length p2))
              replace HO2 := Lib.hid (Tm.Own_past4 HO2.out hd (by decide) (.bool R.g) (.slice o1 R.i.length p1) (.bool R.s) (.slice o2 R.f.length p2))
              clear hd HQB
              refine hK.out _ _ (by exact hS2) (fun hHeld => ?_)
              clear hK K hHeld hS
              have hS := hS2
              clear hS2 b0 f0 b1 f1 b2 f2 b3 f3
              generalize ((((yR1x8.setCell ⟨w.heap.size + 1, 0, none⟩ (.bool R.g)).setCell ⟨w.heap.size + 1, 1, none⟩ (.slice o1 R.i.length p1)).setCell ⟨w.heap.size + 1, 2, none⟩ (.bool R.s)).setCell ⟨w.heap.size + 1, 3, none⟩ (.slice o2 R.f.length p2)) = yR1x11 at *
              try simp only [Act.put, List.setIfInBounds_toArray, List.set_cons_zero, List.set_cons_succ]
              change wpAnyH _ _ _ _ _ _ #[true, true, true, true, true, true, true, true, true, true, true, false] _ _
              refine wpAnyH_take (i := 11) (v := ?vR1x12) (by (try simp only [List.getElem?_toArray, List.getElem?_cons_succ, List.getElem?_cons_zero]); rfl) (by kernel_rfl) (by kernel_rfl) (by kernel_rfl) (by exact fun _ _ _ h => h) (Or.inl ⟨by first | kernel_rfl | rfl, ?hyR1x12⟩) (by exact hS) ?rsR1x12
              case hyR1x12 => (intro uz hSw; (try dsimp only at hSw); go_simp; try with_reducible rfl)
              try simp only [Act.put, List.setIfInBounds_toArray, List.set_cons_zero, List.set_cons_succ]
              change wpAnyH _ _ _ _ _ _ #[true, true, true, true, true, true, true, true, true, true, true, true] _ _
              refine wpAnyH_done (by kernel_rfl) ?_ _
              go_wp2_with fail
              exact ret_d2 rfl rfl rfl rfl HE.out rfl ⟨_, rfl, ⟨o1, p1, o2, p2, rfl, HO1.out, HO2.out⟩, hS.1⟩
            · have hx0 : Bk u5 w.heap.size 30 [.bool g, .slice a1 n1 c1, .bool s, .slice a2 n2 c2] := HB3.out.q HQB.out
              have HNE := Lib.hid (show w.heap.size + 1 ≠ w.heap.size by omega)
              go_wp2_with fail
              refine wp_region_held_drew (S := fun u => SX w w.heap.size 30 [.bool g, .slice a1 n1 c1, .bool s, .slice a2 n2 c2] u) (by kernel_rfl) (by exact ⟨HQ5.out.drew, hx0.q ((Q.refl _).drew)⟩) (fun hHeld => ?_)
              have hS : SX w w.heap.size 30 [.bool g, .slice a1 n1 c1, .bool s, .slice a2 n2 c2] u5.drew := hHeld
              clear hHeld
              have hq : Q u5 u5.drew := (Q.refl _).drew
              have HQB := Lib.hid (Q.trans HQB.out hq)
              have HSP := Lib.hid (Ap.q HSP.out hq)
              clear hq
              generalize u5.drew = yR2x0 at *
              change wpAnyH _ _ _ _ _ _ #[false, false, false, false, false, false, false, false, false, false, false, false] _ _
              refine wpAnyH_take (i := 0) (v := ?vR2x1) (by (try simp only [List.getElem?_toArray, List.getElem?_cons_succ, List.getElem?_cons_zero]); rfl) (by kernel_rfl) (by kernel_rfl) (by kernel_rfl) (by exact fun _ _ _ h => h) (Or.inl ⟨by first | kernel_rfl | rfl, ?hyR2x1⟩) (by exact hS) ?rsR2x1
              case hyR2x1 => (intro uz hSw; (try dsimp only at hSw); go_simp; try with_reducible rfl)
              try simp only [Act.put, List.setIfInBounds_toArray, List.set_cons_zero, List.set_cons_succ]
              change wpAnyH _ _ _ _ _ _ #[true, false, false, false, false, false, false, false, false, false, false, false] _ _
              refine wpAnyH_take (i := 1) (v := ?vR2x2) (by (try simp only [List.getElem?_toArray, List.getElem?_cons_succ, List.getElem?_cons_zero]); rfl) (by kernel_rfl) (by kernel_rfl) (by kernel_rfl) (by exact fun _ _ _ h => h) (Or.inl ⟨by first | kernel_rfl | rfl, ?hyR2x2⟩) (by exact hS) ?rsR2x2
              case hyR2x2 => (intro uz hSw; (try dsimp only at hSw); have d0 := hSw.2.cell 0 rfl; go_simp; try with_reducible rfl)
              try simp only [Act.put, List.setIfInBounds_toArray, List.set_cons_zero, List.set_cons_succ]
              change wpAnyH _ _ _ _ _ _ #[true, true, false, false, false, false, false, false, false, false, false, false] _ _
              refine wpAnyH_take (i := 2) (v := ?vR2x3) (by (try simp only [List.getElem?_toArray, List.getElem?_cons_succ, List.getElem?_cons_zero]); rfl) (by kernel_rfl) (by kernel_rfl) (by kernel_rfl) (by exact fun _ _ _ h => h) (Or.inl ⟨by first | kernel_rfl | rfl, ?hyR2x3⟩) (by exact hS) ?rsR2x3
              case hyR2x3 => (intro uz hSw; (try dsimp only at hSw); go_simp; try with_reducible rfl)
              try simp only [Act.put, List.setIfInBounds_toArray, List.set_cons_zero, List.set_cons_succ]
              change wpAnyH _ _ _ _ _ _ #[true, true, true, false, false, false, false, false, false, false, false, false] _ _
              refine wpAnyH_take (i := 3) (v := ?vR2x4) (by (try simp only [List.getElem?_toArray, List.getElem?_cons_succ, List.getElem?_cons_zero]); rfl) (by kernel_rfl) (by kernel_rfl) (by kernel_rfl) (by exact fun _ _ _ h => h) (Or.inl ⟨by first | kernel_rfl | rfl, ?hyR2x4⟩) (by exact hS) ?rsR2x4
              case hyR2x4 => (intro uz hSw; (try dsimp only at hSw); go_simp; try with_reducible rfl)
              try simp only [Act.put, List.setIfInBounds_toArray, List.set_cons_zero, List.set_cons_succ]
              change wpAnyH _ _ _ _ _ _ #[true, true, true, true, false, false, false, false, false, false, false, false] _ _
              refine wpAnyH_take (i := 4) (v := ?vR2x5) (by (try simp only [List.getElem?_toArray, List.getElem?_cons_succ, List.getElem?_cons_zero]); rfl) (by kernel_rfl) (by kernel_rfl) (by kernel_rfl) (by exact fun _ _ _ h => h) (Or.inl ⟨by first | kernel_rfl | rfl, ?hyR2x5⟩) (by exact hS) ?rsR2x5
              case hyR2x5 => (intro uz hSw; (try dsimp only at hSw); go_simp; try with_reducible rfl)
              try simp only [Act.put, List.setIfInBounds_toArray, List.set_cons_zero, List.set_cons_succ]
              change wpAnyH _ _ _ _ _ _ #[true, true, true, true, true, false, false, false, false, false, false, false] _ _
              refine wpAnyH_take (i := 5) (v := ?vR2x6) (by (try simp only [List.getElem?_toArray, List.getElem?_cons_succ, List.getElem?_cons_zero]); rfl) (by kernel_rfl) (by kernel_rfl) (by kernel_rfl) (by exact fun _ _ _ h => h) (Or.inl ⟨by first | kernel_rfl | rfl, ?hyR2x6⟩) (by exact hS) ?rsR2x6
              case hyR2x6 => (intro uz hSw; (try dsimp only at hSw); go_simp; try with_reducible rfl)
              try simp only [Act.put, List.setIfInBounds_toArray, List.set_cons_zero, List.set_cons_succ]
              change wpAnyH _ _ _ _ _ _ #[true, true, true, true, true, true, false, false, false, false, false, false] _ _
              refine wpAnyH_ready (rs := [6]) (by kernel_rfl) (by simp) ?_
              refine (AllReadyH.cons (by (try simp only [List.getElem?_toArray, List.getElem?_cons_succ, List.getElem?_cons_zero]); rfl) (fun K hK => ?_) AllReadyH.nil)
              refine app_step (B := u3.heap.size) (ys := D.drop dc) HSP.out ?hu (p + m) 0 HSL.out (by rw [HDL.out]; try omega) HQB.out.le (by omega) rfl _ _ rfl (by rfl) (by rfl) ?_
              case hu => exact by rw [hrl]; exact .nil _ _ _ (by unfold maxLen; omega) (by intro h; omega)
              rw [← HSPL.out]
              intro ra rc yR2x7 hro hqq
              replace HQB := Lib.hid (hqq _ HQB.out (Nat.le_refl _))
              have hS2 : SX w w.heap.size 30 [.bool g, .slice a1 n1 c1, .bool s, .slice a2 n2 c2] yR2x7 := ⟨hqq _ hS.1 HWB.out, HB3.out.q HQB.out⟩
              have HJ := Lib.hid hro.lst
              clear HSP hro hqq
              refine hK.out _ _ (by exact hS2) (fun hHeld => ?_)
              clear hK K hHeld hS
              have hS := hS2
              clear hS2
              try simp only [Act.put, List.setIfInBounds_toArray, List.set_cons_zero, List.set_cons_succ]
              change wpAnyH _ _ _ _ _ _ #[true, true, true, true, true, true, true, false, false, false, false, false] _ _
              refine wpAnyH_ready (rs := [7]) (by kernel_rfl) (by simp) ?_
              refine (AllReadyH.cons (by (try simp only [List.getElem?_toArray, List.getElem?_cons_succ, List.getElem?_cons_zero]); rfl) (fun K hK => ?_) AllReadyH.nil)
              go_simp
              refine (HOF.out _ _ HJ.out).mono ?_
              rintro e yR2x8 ⟨xo, rfl, ⟨o1, p1, o2, p2, rfl, ho1, ho2⟩, hq⟩
              have HO1 := Lib.hid (ho1.mono (Nat.succ_le_succ hS.1.le))
              have HO2 := Lib.hid (ho2.mono (Nat.succ_le_succ hS.1.le))
              clear ho1 ho2
              try (go_wp2_with fail)
              have HQB := Lib.hid (Q.trans HQB.out hq)
              have HJ := Lib.hid (Lst.q HJ.out hq)
              have hS2 := SX.q hS hq
              refine hK.out _ _ (by exact hS2) (fun hHeld => ?_)
              clear hK K hHeld hS hq
              have hS := hS2
              clear hS2
              try simp only [Act.put, List.setIfInBounds_toArray, List.set_cons_zero, List.set_cons_succ]
              change wpAnyH _ _ _ _ _ _ #[true, true, true, true, true, true, true, true, false, false, false, false] _ _
              refine wpAnyH_take (i := 8) (v := ?vR2x9) (by (try simp only [List.getElem?_toArray, List.getElem?_cons_succ, List.getElem?_cons_zero]); rfl) (by kernel_rfl) (by kernel_rfl) (by kernel_rfl) (by exact fun _ _ _ h => h) (Or.inl ⟨by first | kernel_rfl | rfl, ?hyR2x9⟩) (by exact hS) ?rsR2x9
              case hyR2x9 => (intro uz hSw; (try dsimp only at hSw); go_simp; try with_reducible rfl)
              try simp only [Act.put, List.setIfInBounds_toArray, List.set_cons_zero, List.set_cons_succ]
              change wpAnyH _ _ _ _ _ _ #[true, true, true, true, true, true, true, true, true, false, false, false] _ _
              refine wpAnyH_take (i := 9) (v := ?vR2x10) (by (try simp only [List.getElem?_toArray, List.getElem?_cons_succ, List.getElem?_cons_zero]); rfl) (by kernel_rfl) (by kernel_rfl) (by kernel_rfl) (by exact fun _ _ _ h => h) (Or.inl ⟨by first | kernel_rfl | rfl, ?hyR2x10⟩) (by exact hS) ?rsR2x10
              case hyR2x10 => (intro uz hSw; (try dsimp only at hSw); go_simp; try with_reducible rfl)
              try simp only [Act.put, List.setIfInBounds_toArray, List.set_cons_zero, List.set_cons_succ]
              change wpAnyH _ _ _ _ _ _ #[true, true, true, true, true, true, true, true, true, true, false, false] _ _
              refine wpAnyH_ready (rs := [10]) (by kernel_rfl) (by simp) ?_
              refine (AllReadyH.cons (by (try simp only [List.getElem?_toArray, List.getElem?_cons_succ, List.getElem?_cons_zero]); rfl) (fun K hK => ?_) AllReadyH.nil)
              have hd := HDB.out.q HQB.out
              have b0 := hd.cell 0 rfl
              have f0 := hd.free 0
              have b1 := hd.cell 1 rfl
              have f1 := hd.free 1
              have b2 := hd.cell 2 rfl
              have f2 := hd.free 2
              have b3 := hd.cell 3 rfl
              have f3 := hd.free 3
              go_simp
              have hS2 : SX w w.heap.size 30 [.bool g, .slice a1 n1 c1, .bool s, .slice a2 n2 c2] _ := ⟨(Q.setCell (Q.setCell (Q.setCell (Q.setCell hS.1 (ad := ⟨w.heap.size + 1, 0, none⟩) HWD.out (.bool R.g)) (ad := ⟨w.heap.size + 1, 1, none⟩) HWD.out (.slice o1 R.i.length p1)) (ad := ⟨w.heap.size + 1, 2, none⟩) HWD.out (.bool R.s)) (ad := ⟨w.heap.size + 1, 3, none⟩) HWD.out (.slice o2 R.f.length p2)), (Bk.past (Bk.past (Bk.past (Bk.past hS.2 HNE.out (.bool R.g)) HNE.out (.slice o1 R.i.length p1)) HNE.out (.bool R.s)) HNE.out (.slice o2 R.f.length p2))⟩
              have HE := Lib.hid ((((hd.set 0 (.bool R.g)).set 1 (.slice o1 R.i.length p1)).set 2 (.bool R.s)).set 3 (.slice o2 R.f.length p2))
              replace HO1 := Lib.hid (Tm.Own_past4 HO1.out hd (by decide) (.bool R.g) (.slice o1 R.i.length p1) (.bool R.s) (.slice o2 R.f.length p2))
              replace HO2 := Lib.hid (Tm.Own_past4 HO2.out hd (by decide) (.bool R.g) (.slice o1 R.i.length p1) (.bool R.s) (.slice o2 R.f.length p2))
              clear hd HQB
              refine hK.out _ _ (by exact hS2) (fun hHeld => ?_)
              clear hK K hHeld hS
              have hS := hS2
              clear hS2 b0 f0 b1 f1 b2 f2 b3 f3
              generalize ((((yR2x8.setCell ⟨w.heap.size + 1, 0, none⟩ (.bool R.g)).setCell ⟨w.heap.size + 1, 1, none⟩ (.slice o1 R.i.length p1)).setCell ⟨w.heap.size + 1, 2, none⟩ (.bool R.s)).setCell ⟨w.heap.size + 1, 3, none⟩ (.slice o2 R.f.length p2)) = yR2x11 at *
              try simp only [Act.put, List.setIfInBounds_toArray, List.set_cons_zero, List.set_cons_succ]
              change wpAnyH _ _ _ _ _ _ #[true, true, true, true, true, true, true, true, true, true, true, false] _ _
              refine wpAnyH_take (i := 11) (v := ?vR2x12) (by (try simp only [List.getElem?_toArray, List.getElem?_cons_succ, List.getElem?_cons_zero]); rfl) (by kernel_rfl) (by kernel_rfl) (by kernel_rfl) (by exact fun _ _ _ h => h) (Or.inl ⟨by first | kernel_rfl | rfl, ?hyR2x12⟩) (by exact hS) ?rsR2x12
              case hyR2x12 => (intro uz hSw; (try dsimp only at hSw); go_simp; try with_reducible rfl)
              try simp only [Act.put, List.setIfInBounds_toArray, List.set_cons_zero, List.set_cons_succ]
              change wpAnyH _ _ _ _ _ _ #[true, true, true, true, true, true, true, true, true, true, true, true] _ _
              refine wpAnyH_done (by kernel_rfl) ?_ _
              go_wp2_with fail
              exact ret_d2 rfl rfl rfl rfl HE.out rfl ⟨_, rfl, ⟨o1, p1, o2, p2, rfl, HO1.out, HO2.out⟩, hS.1⟩
            · have hx0 : Bk u5 w.heap.size 30 [.bool g, .slice a1 n1 c1, .bool s, .slice a2 n2 c2] := HB3.out.q HQB.out
              have HNE := Lib.hid (show w.heap.size + 1 ≠ w.heap.size by omega)
              go_wp2_with fail
              have hne : ¬ (dc = q) := by omega
              have hne2 : ¬ (dc - q = 0) := by omega
              refine wp_region_held_drew (S := fun u => SX w w.heap.size 30 [.bool g, .slice a1 n1 c1, .bool s, .slice a2 n2 c2] u) (by kernel_rfl) (by exact ⟨HQ5.out.drew, hx0.q ((Q.refl _).drew)⟩) (fun hHeld => ?_)
              have hS : SX w w.heap.size 30 [.bool g, .slice a1 n1 c1, .bool s, .slice a2 n2 c2] u5.drew := hHeld
              clear hHeld
              have hq : Q u5 u5.drew := (Q.refl _).drew
              have HQB := Lib.hid (Q.trans HQB.out hq)
              have HSP := Lib.hid (Ap.q HSP.out hq)
              clear hq
              generalize u5.drew = yR3x0 at *
              change wpAnyH _ _ _ _ _ _ #[false, false, false, false, false, false, false, false, false, false, false, false] _ _
              refine wpAnyH_take (i := 0) (v := ?vR3x1) (by (try simp only [List.getElem?_toArray, List.getElem?_cons_succ, List.getElem?_cons_zero]); rfl) (by kernel_rfl) (by kernel_rfl) (by kernel_rfl) (by exact fun _ _ _ h => h) (Or.inl ⟨by first | kernel_rfl | rfl, ?hyR3x1⟩) (by exact hS) ?rsR3x1
              case hyR3x1 => (intro uz hSw; (try dsimp only at hSw); go_simp; try with_reducible rfl)
              try simp only [Act.put, List.setIfInBounds_toArray, List.set_cons_zero, List.set_cons_succ]
              change wpAnyH _ _ _ _ _ _ #[true, false, false, false, false, false, false, false, false, false, false, false] _ _
              refine wpAnyH_take (i := 1) (v := ?vR3x2) (by (try simp only [List.getElem?_toArray, List.getElem?_cons_succ, List.getElem?_cons_zero]); rfl) (by kernel_rfl) (by kernel_rfl) (by kernel_rfl) (by exact fun _ _ _ h => h) (Or.inl ⟨by first | kernel_rfl | rfl, ?hyR3x2⟩) (by exact hS) ?rsR3x2
              case hyR3x2 => (intro uz hSw; (try dsimp only at hSw); have d0 := hSw.2.cell 0 rfl; go_simp; try with_reducible rfl)
              try simp only [Act.put, List.setIfInBounds_toArray, List.set_cons_zero, List.set_cons_succ]
              change wpAnyH _ _ _ _ _ _ #[true, true, false, false, false, false, false, false, false, false, false, false] _ _
              refine wpAnyH_take (i := 2) (v := ?vR3x3) (by (try simp only [List.getElem?_toArray, List.getElem?_cons_succ, List.getElem?_cons_zero]); rfl) (by kernel_rfl) (by kernel_rfl) (by kernel_rfl) (by exact fun _ _ _ h => h) (Or.inl ⟨by first | kernel_rfl | rfl, ?hyR3x3⟩) (by exact hS) ?rsR3x3
              case hyR3x3 => (intro uz hSw; (try dsimp only at hSw); go_simp; try with_reducible rfl)
              try simp only [Act.put, List.setIfInBounds_toArray, List.set_cons_zero, List.set_cons_succ]
              change wpAnyH _ _ _ _ _ _ #[true, true, true, false, false, false, false, false, false, false, false, false] _ _
              refine wpAnyH_take (i := 3) (v := ?vR3x4) (by (try simp only [List.getElem?_toArray, List.getElem?_cons_succ, List.getElem?_cons_zero]); rfl) (by kernel_rfl) (by kernel_rfl) (by kernel_rfl) (by exact fun _ _ _ h => h) (Or.inl ⟨by first | kernel_rfl | rfl, ?hyR3x4⟩) (by exact hS) ?rsR3x4
              case hyR3x4 => (intro uz hSw; (try dsimp only at hSw); go_simp; try with_reducible rfl)
              try simp only [Act.put, List.setIfInBounds_toArray, List.set_cons_zero, List.set_cons_succ]
              change wpAnyH _ _ _ _ _ _ #[true, true, true, true, false, false, false, false, false, false, false, false] _ _
              refine wpAnyH_take (i := 4) (v := ?vR3x5) (by (try simp only [List.getElem?_toArray, List.getElem?_cons_succ, List.getElem?_cons_zero]); rfl) (by kernel_rfl) (by kernel_rfl) (by kernel_rfl) (by exact fun _ _ _ h => h) (Or.inl ⟨by first | kernel_rfl | rfl, ?hyR3x5⟩) (by exact hS) ?rsR3x5
              case hyR3x5 => (intro uz hSw; (try dsimp only at hSw); go_simp; try with_reducible rfl)
              try simp only [Act.put, List.setIfInBounds_toArray, List.set_cons_zero, List.set_cons_succ]
              change wpAnyH _ _ _ _ _ _ #[true, true, true, true, true, false, false, false, false, false, false, false] _ _
              refine wpAnyH_take (i := 5) (v := ?vR3x6) (by (try simp only [List.getElem?_toArray, List.getElem?_cons_succ, List.getElem?_cons_zero]); rfl) (by kernel_rfl) (by kernel_rfl) (by kernel_rfl) (by exact fun _ _ _ h => h) (Or.inl ⟨by first | kernel_rfl | rfl, ?hyR3x6⟩) (by exact hS) ?rsR3x6
              case hyR3x6 => (intro uz hSw; (try dsimp only at hSw); go_simp; try with_reducible rfl)
              try simp only [Act.put, List.setIfInBounds_toArray, List.set_cons_zero, List.set_cons_succ]
              change wpAnyH _ _ _ _ _ _ #[true, true, true, true, true, true, false, false, false, false, false, false] _ _
              refine wpAnyH_ready (rs := [6]) (by kernel_rfl) (by simp) ?_
              refine (AllReadyH.cons (by (try simp only [List.getElem?_toArray, List.getElem?_cons_succ, List.getElem?_cons_zero]); rfl) (fun K hK => ?_) AllReadyH.nil)
              refine app_step (B := u3.heap.size) (ys := D.drop q) HSP.out ?hu (p + m) 0 HSL.out (by rw [HDL.out]; try omega) HQB.out.le (by omega) rfl _ _ rfl (by rfl) (by rfl) ?_
              case hu => exact by rw [hrl]; exact .nil _ _ _ (by unfold maxLen; omega) (by intro h; cases h)
              rw [← HSPL.out]
              intro ra rc yR3x7 hro hqq
              replace HQB := Lib.hid (hqq _ HQB.out (Nat.le_refl _))
              have hS2 : SX w w.heap.size 30 [.bool g, .slice a1 n1 c1, .bool s, .slice a2 n2 c2] yR3x7 := ⟨hqq _ hS.1 HWB.out, HB3.out.q HQB.out⟩
              have HJ := Lib.hid hro.lst
              clear HSP hro hqq
              refine hK.out _ _ (by exact hS2) (fun hHeld => ?_)
              clear hK K hHeld hS
              have hS := hS2
              clear hS2
              try simp only [Act.put, List.setIfInBounds_toArray, List.set_cons_zero, List.set_cons_succ]
              change wpAnyH _ _ _ _ _ _ #[true, true, true, true, true, true, true, false, false, false, false, false] _ _
              refine wpAnyH_ready (rs := [7]) (by kernel_rfl) (by simp) ?_
              refine (AllReadyH.cons (by (try simp only [List.getElem?_toArray, List.getElem?_cons_succ, List.getElem?_cons_zero]); rfl) (fun K hK => ?_) AllReadyH.nil)
              go_simp
              refine (HOF.out _ _ HJ.out).mono ?_
              rintro e yR3x8 ⟨xo, rfl, ⟨o1, p1, o2, p2, rfl, ho1, ho2⟩, hq⟩
              have HO1 := Lib.hid (ho1.mono (Nat.succ_le_succ hS.1.le))
              have HO2 := Lib.hid (ho2.mono (Nat.succ_le_succ hS.1.le))
              clear ho1 ho2
              try (go_wp2_with fail)
              have HQB := Lib.hid (Q.trans HQB.out hq)
              have HJ := Lib.hid (Lst.q HJ.out hq)
              have hS2 := SX.q hS hq
              refine hK.out _ _ (by exact hS2) (fun hHeld => ?_)
              clear hK K hHeld hS hq
              have hS := hS2
              clear hS2
              try simp only [Act.put, List.setIfInBounds_toArray, List.set_cons_zero, List.set_cons_succ]
              change wpAnyH _ _ _ _ _ _ #[true, true, true, true, true, true, true, true, false, false, false, false] _ _
              refine wpAnyH_take (i := 8) (v := ?vR3x9) (by (try simp only [List.getElem?_toArray, List.getElem?_cons_succ, List.getElem?_cons_zero]); rfl) (by kernel_rfl) (by kernel_rfl) (by kernel_rfl) (by exact fun _ _ _ h => h) (Or.inl ⟨by first | kernel_rfl | rfl, ?hyR3x9⟩) (by exact hS) ?rsR3x9
              case hyR3x9 => (intro uz hSw; (try dsimp only at hSw); go_simp; try with_reducible rfl)
              try simp only [Act.put, List.setIfInBounds_toArray, List.set_cons_zero, List.set_cons_succ]
              change wpAnyH _ _ _ _ _ _ #[true, true, true, true, true, true, true, true, true, false, false, false] _ _
              refine wpAnyH_take (i := 9) (v := ?vR3x10) (by (try simp only [List.getElem?_toArray, List.getElem?_cons_succ, List.getElem?_cons_zero]); rfl) (by kernel_rfl) (by kernel_rfl) (by kernel_rfl) (by exact fun _ _ _ h => h) (Or.inl ⟨by first | kernel_rfl | rfl, ?hyR3x10⟩) (by exact hS) ?rsR3x10
              case hyR3x10 => (intro uz hSw; (try dsimp only at hSw); go_simp; try with_reducible rfl)
              try simp only [Act.put, List.setIfInBounds_toArray, List.set_cons_zero, List.set_cons_succ]
              change wpAnyH _ _ _ _ _ _ #[true, true, true, true, true, true, true, true, true, true, false, false] _ _
              refine wpAnyH_ready (rs := [10]) (by kernel_rfl) (by simp) ?_
              refine (AllReadyH.cons (by (try simp only [List.getElem?_toArray, List.getElem?_cons_succ, List.getElem?_cons_zero]); rfl) (fun K hK => ?_) AllReadyH.nil)
              have hd := HDB.out.q HQB.out
              have b0 := hd.cell 0 rfl
              have f0 := hd.free 0
              have b1 := hd.cell 1 rfl
              have f1 := hd.free 1
              have b2 := hd.cell 2 rfl
              have f2 := hd.free 2
              have b3 := hd.cell 3 rfl
              have f3 := hd.free 3
              go_simp
              have hS2 : SX w w.heap.size 30 [.bool g, .slice a1 n1 c1, .bool s, .slice a2 n2 c2] _ := ⟨(Q.setCell (Q.setCell (Q.setCell (Q.setCell hS.1 (ad := ⟨w.heap.size + 1, 0, none⟩) HWD.out (.bool R.g)) (ad := ⟨w.heap.size + 1, 1, none⟩) HWD.out (.slice o1 R.i.length p1)) (ad := ⟨w.heap.size + 1, 2, none⟩) HWD.out (.bool R.s)) (ad := ⟨w.heap.size + 1, 3, none⟩) HWD.out (.slice o2 R.f.length p2)), (Bk.past (Bk.past (Bk.past (Bk.past hS.2 HNE.out (.bool R.g)) HNE.out (.slice o1 R.i.length p1)) HNE.out (.bool R.s)) HNE.out (.slice o2 R.f.length p2))⟩
              have HE := Lib.hid ((((hd.set 0 (.bool R.g)).set 1 (.slice o1 R.i.length p1)).set 2 (.bool R.s)).set 3 (.slice o2 R.f.length p2))
              replace HO1 := Lib.hid (Tm.Own_past4 HO1.out hd (by decide) (.bool R.g) (.slice o1 R.i.length p1) (.bool R.s) (.slice o2 R.f.length p2))
              replace HO2 := Lib.hid (Tm.Own_past4 HO2.out hd (by decide) (.bool R.g) (.slice o1 R.i.length p1) (.bool R.s) (.slice o2 R.f.length p2))
              clear hd HQB
              refine hK.out _ _ (by exact hS2) (fun hHeld => ?_)
              clear hK K hHeld hS
              have hS := hS2
              clear hS2 b0 f0 b1 f1 b2 f2 b3 f3
              generalize ((((yR3x8.setCell ⟨w.heap.size + 1, 0, none⟩ (.bool R.g)).setCell ⟨w.heap.size + 1, 1, none⟩ (.slice o1 R.i.length p1)).setCell ⟨w.heap.size + 1, 2, none⟩ (.bool R.s)).setCell ⟨w.heap.size + 1, 3, none⟩ (.slice o2 R.f.length p2)) = yR3x11 at *
              try simp only [Act.put, List.setIfInBounds_toArray, List.set_cons_zero, List.set_cons_succ]
              change wpAnyH _ _ _ _ _ _ #[true, true, true, true, true, true, true, true, true, true, true, false] _ _
              refine wpAnyH_take (i := 11) (v := ?vR3x12) (by (try simp only [List.getElem?_toArray, List.getElem?_cons_succ, List.getElem?_cons_zero]); rfl) (by kernel_rfl) (by kernel_rfl) (by kernel_rfl) (by exact fun _ _ _ h => h) (Or.inl ⟨by first | kernel_rfl | rfl, ?hyR3x12⟩) (by exact hS) ?rsR3x12
              case hyR3x12 => (intro uz hSw; (try dsimp only at hSw); go_simp; try with_reducible rfl)
              try simp only [Act.put, List.setIfInBounds_toArray, List.set_cons_zero, List.set_cons_succ]
              change wpAnyH _ _ _ _ _ _ #[true, true, true, true, true, true, true, true, true, true, true, true] _ _
              refine wpAnyH_done (by kernel_rfl) ?_ _
              go_wp2_with fail
              exact ret_d2 rfl rfl rfl rfl HE.out rfl ⟨_, rfl, ⟨o1, p1, o2, p2, rfl, HO1.out, HO2.out⟩, hS.1⟩
end Tp
end Go.Proofs.Ytagpofhencpliaa
