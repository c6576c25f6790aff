/- DraftSplices: of whatever draft (the first nine numbers of each list; raw, and made one that may be), whatever two numbers (raw, and made 0 to 19) and whatever numbers (the first five; raw, and made atoms), the draft with these in the place of those between is the document's, or refused as there; no conditions. -/
import Derived.Test.YtagpofhencpliaaRows
import Derived.WalkKit
import Derived.ProofKit
import Derived.OpenShut
import Derived.ShutString
import Derived.ChangeOld
import Derived.Below
import Derived.Lib.SmallJoins
import Derived.Test.YtagpofhencpliaaInts
import Derived.Test.YtagpofhencpliaaRows
import Derived.Test.YtagpofhencpliaaUtfM
import Derived.Test.YtagpofhencpliaaUtfG
import Derived.Test.YtagpofhencpliaaUtfR
import Derived.Test.YtagpofhencpliaaDigM
import Derived.Test.YtagpofhencpliaaDigL
import Derived.Test.YtagpofhencpliaaDigR
import Derived.Test.YtagpofhencpliaaDecM
import Derived.Test.YtagpofhencpliaaInts
import Derived.Test.YtagpofhencpliaaSto
import Derived.Test.YtagpofhencpliaaDecR
import Derived.Test.YtagpofhencpliaaDecS
import Derived.Test.YtagpofhencpliaaDecC
import Derived.Test.YtagpofhencpliaaBlk
import Derived.Test.YtagpofhencpliaaLdR
import Derived.Test.YtagpofhencpliaaFrH
import Derived.Test.YtagpofhencpliaaTmM
import Derived.Test.YtagpofhencpliaaTmS
import Derived.Test.YtagpofhencpliaaTmA
import Derived.Test.YtagpofhencpliaaTmB
import Derived.Test.YtagpofhencpliaaTmC
import Derived.Test.YtagpofhencpliaaTmD
import Derived.Test.YtagpofhencpliaaTmE
import Derived.Test.YtagpofhencpliaaTmF
import Derived.Test.YtagpofhencpliaaTmG
import Derived.Test.YtagpofhencpliaaTrA
import Derived.Test.YtagpofhencpliaaTrB
import Derived.Test.YtagpofhencpliaaTrC
import Derived.Test.YtagpofhencpliaaTrD
import Derived.Test.YtagpofhencpliaaTrE
import Derived.Test.YtagpofhencpliaaTlA
import Derived.Test.YtagpofhencpliaaTlB
set_option linter.unusedVariables false
set_option linter.unusedSimpArgs false
namespace Go.Proofs.Ytagpofhencpliaa.draftSplices
open Go.ChangeShapes Go.WideShapes Go.ChangeAt Go.RowKit
open Go.ChangeMaps (open_string shut_string)

theorem own : ownKnob Try.prog.godebug = none := by kernel_rfl
theorem laidOut : laidOutB Try.prog = true := by kernel_rfl


set_option maxHeartbeats 8000000 in
set_option maxRecDepth 100000 in
theorem walk (w : World) (g0_0 : Bool) (f0_1 : Value) (xs0_1 : List Int) (w0_1 : Lst w f0_1 xs0_1) (b0_1 : ∀ n ∈ xs0_1, -9223372036854775808 ≤ n ∧ n ≤ 9223372036854775807) (g0_2 : Bool) (f0_3 : Value) (xs0_3 : List Int) (w0_3 : Lst w f0_3 xs0_3) (b0_3 : ∀ n ∈ xs0_3, -9223372036854775808 ≤ n ∧ n ≤ 9223372036854775807) (a1 : Int) (w1 : -9223372036854775808 ≤ a1 ∧ a1 ≤ 9223372036854775807) (a2 : Int) (w2 : -9223372036854775808 ≤ a2 ∧ a2 ≤ 9223372036854775807) (v3 : Value) (xs3 : List Int) (w3 : Lst w v3 xs3) (b3 : ∀ n ∈ xs3, -9223372036854775808 ≤ n ∧ n ≤ 9223372036854775807) :
    Calls Try.prog 4 #[.agg #[.bool g0_0, f0_1, .bool g0_2, f0_3], .int .i64 a1, .int .i64 a2, v3] w fun e w' => e = .returned (.bool true) ∧ Q w w' := by
  obtain ⟨A0, C0, rfl, ha0, hc0⟩ := w0_1.shape2
  obtain ⟨E0, G0, rfl, he0, hg0⟩ := w0_3.shape2
  obtain ⟨l0, hl0⟩ : ∃ x, x = xs0_1.length := ⟨_, rfl⟩
  obtain ⟨m0, hm0⟩ : ∃ x, x = xs0_3.length := ⟨_, rfl⟩
  rw [← hl0] at w0_1 ha0 ⊢
  rw [← hm0] at w0_3 he0 ⊢
  have HG0 := Lib.hid (fun u (qq : Q w u) => Tr.good_any g0_0 g0_2 A0 E0 l0 m0 C0 G0 xs0_1 xs0_3 u (w0_1.q qq) (w0_3.q qq) hl0.symm hm0.symm (by unfold maxLen at hc0; omega) (by unfold maxLen at hg0; omega) b0_1 b0_3 9 9 (by omega) (by omega))
  have mX := Tm.gdT_may g0_0 g0_2 xs0_1 xs0_3 9 9
  have lX := Tm.gdT_len g0_0 g0_2 xs0_1 xs0_3 9 9
  obtain ⟨X, hX⟩ : ∃ X, X = Tm.gdT g0_0 g0_2 xs0_1 xs0_3 9 9 := ⟨_, rfl⟩
  rw [← hX] at HG0 mX lX
  obtain ⟨iX, hiX⟩ : ∃ n, n = X.i.length := ⟨_, rfl⟩
  obtain ⟨fX, hfX⟩ : ∃ n, n = X.f.length := ⟨_, rfl⟩
  rw [← hiX, ← hfX] at lX
  have HXL := Lib.hid (⟨hiX.symm, hfX.symm⟩ : X.i.length = iX ∧ X.f.length = fX)
  clear hiX hfX hX
  obtain ⟨okiX, okfX, _⟩ := Tm.may_dig mX
  obtain ⟨p1, hp1⟩ : ∃ p, p = min l0 9 := ⟨_, rfl⟩
  obtain ⟨p2, hp2⟩ : ∃ p, p = min m0 9 := ⟨_, rfl⟩
  have HFW := Lib.hid (fun u => Tr.few_any g0_0 g0_2 A0 E0 l0 m0 C0 G0 9 u ha0 he0 hc0 hg0 (by omega) p1 p2 hp1 hp2)
  have hr1 := w0_1.take p1 (by omega)
  have hr2 := w0_3.take p2 (by omega)
  obtain ⟨L1, hL1⟩ : ∃ L, L = xs0_1.take p1 := ⟨_, rfl⟩
  obtain ⟨L2, hL2⟩ : ∃ L, L = xs0_3.take p2 := ⟨_, rfl⟩
  have k1 : L1.length = p1 := by rw [hL1, List.length_take]; omega
  have k2 : L2.length = p2 := by rw [hL2, List.length_take]; omega
  rw [← hL1] at hr1
  rw [← hL2] at hr2
  have HLL := Lib.hid (⟨k1, k2⟩ : _ ∧ _)
  have HRW := Lib.hid (fun u (q : Q w u) => (⟨hr1.q q, hr2.q q⟩ : _ ∧ _))
  have hp19 : p1 ≤ 9 := by omega
  have hp29 : p2 ≤ 9 := by omega
  obtain ⟨A3, C3, rfl, ha3, hc3⟩ := w3.shape2
  obtain ⟨l3, hl3⟩ : ∃ x, x = xs3.length := ⟨_, rfl⟩
  rw [← hl3] at w3 ha3 ⊢
  obtain ⟨fl, hfl⟩ : ∃ f, f = min l3 5 := ⟨_, rfl⟩
  have hfl5 : fl ≤ 5 := by omega
  have hr3 := w3.take fl (by omega)
  obtain ⟨L3, hL3⟩ : ∃ L, L = xs3.take fl := ⟨_, rfl⟩
  have k3 : L3.length = fl := by rw [hL3, List.length_take]; omega
  rw [← hL3] at hr3
  have HR3 := Lib.hid (fun u (q : Q w u) => hr3.q q)
  have HL3 := Lib.hid k3
  obtain ⟨A, hA⟩ : ∃ A, A = Tm.ptL xs3 5 := ⟨_, rfl⟩
  obtain ⟨K, hK⟩ : ∃ K, K = A.length := ⟨_, rfl⟩
  have hK5 : K ≤ 5 := by rw [hK, hA, Tm.ptL_len]; omega
  have HKL := Lib.hid hK.symm
  have HP := Lib.hid (fun u (q : Q w u) => (by
    refine (Tr.points_any _ xs3 5 u (w3.q q) (by unfold maxLen at hc3; omega) (by omega) b3).mono ?_
    rintro e w' ⟨x, rfl, hx, hq⟩
    rw [← hA] at hx
    obtain ⟨pa, pc, rfl, _, _⟩ := hx.lst.form0 hK.symm
    exact ⟨pa, pc, rfl, hx.lst, hq⟩ : Calls Try.prog 26 #[.slice A3 l3 C3, .int .i64 5] u fun e w' => ∃ pa pc, e = .returned (.slice pa K pc) ∧ Lst w' (.slice pa K pc) A ∧ Q u w'))
  obtain ⟨x, hx⟩ : ∃ p, p = Um.around a1 20 := ⟨_, rfl⟩
  obtain ⟨y, hy⟩ : ∃ p, p = Um.around a2 20 := ⟨_, rfl⟩
  have HR1 := Lib.hid (fun u => (by
    refine (Ur.around_any a1 20 u w1.1 w1.2 (by omega) (by omega)).mono ?_
    rintro e w' ⟨rfl, rfl⟩
    exact ⟨by rw [hx], Q.refl _⟩ : Calls Try.prog 11 #[.int .i64 a1, .int .i64 20] u fun e w' => e = .returned (.int .i64 x) ∧ Q u w'))
  have HR2 := Lib.hid (fun u => (by
    refine (Ur.around_any a2 20 u w2.1 w2.2 (by omega) (by omega)).mono ?_
    rintro e w' ⟨rfl, rfl⟩
    exact ⟨by rw [hy], Q.refl _⟩ : Calls Try.prog 11 #[.int .i64 a2, .int .i64 20] u fun e w' => e = .returned (.int .i64 y) ∧ Q u w'))
  have HLV := Lib.hid Tl.lives_any
  have HOF := Lib.hid Tl.of_q
  have HAS := Lib.hid Tl.as_q
  clear hp1 hp2 hL1 hL2 hL3 k1 k2 k3 hr1 hr2 hr3 hA hK hx hy mX okiX okfX ha0 hc0 he0 hg0 hl0 hm0 w0_1 w0_3 b0_1 b0_3 w1 w2 w3 b3 hl3
  obtain ⟨y0, hy0⟩ : ∃ y, y = w.alloc (.cells #[.bool g0_0, .slice A0 l0 C0, .bool g0_2, .slice E0 m0 G0] 24) := ⟨_, rfl⟩
  have hq : Q w y0 := by rw [hy0]; exact (Q.refl _).alloc _
  have hb : Bk y0 (w.heap.size) 24 [.bool g0_0, .slice A0 l0 C0, .bool g0_2, .slice E0 m0 G0] := by rw [hy0]; exact Bk.new _ _ _
  have hs0 : y0.heap.size = w.heap.size + 1 := by rw [hy0]; simp
  have HQ := Lib.hid hq
  have HA := Lib.hid hb
  clear hq hb
  go_enter Try.func4, Try.ntmps4
  go_upto_region 1 with fail
  first | rw [← hy0] | (rw [← hy0])
  clear hy0 hs0
  have d0 := HA.out.cell 0 rfl
  have d1 := HA.out.cell 1 rfl
  have d2 := HA.out.cell 2 rfl
  have d3 := HA.out.cell 3 rfl
  go_wp2_with fail
  refine (HFW.out _).mono ?_
  rintro e v1 ⟨rfl, hq⟩
  clear d0 d1 d2 d3
  replace HQ := Lib.hid (Q.trans HQ.out hq)
  replace HA := Lib.hid (Bk.q HA.out hq)
  clear hq
  obtain ⟨v2, hv2⟩ : ∃ y, y = v1.alloc (.cells #[.bool g0_0, .slice A0 p1 C0, .bool g0_2, .slice E0 p2 G0] 24) := ⟨_, rfl⟩
  have hqb : Q v1 v2 := by rw [hv2]; exact (Q.refl _).alloc _
  have hbx : Bk v2 v1.heap.size 24 [.bool g0_0, .slice A0 p1 C0, .bool g0_2, .slice E0 p2 G0] := by rw [hv2]; exact Bk.new _ _ _
  obtain ⟨brw, hbrw⟩ : ∃ b, b = v1.heap.size := ⟨_, rfl⟩
  rw [← hbrw] at hbx
  replace HQ := Lib.hid (Q.trans HQ.out hqb)
  replace HA := Lib.hid (Bk.q HA.out hqb)
  have HBrw := Lib.hid hbx
  clear hqb hbx
  go_upto_region 2 with fail
  rw [← hv2, ← hbrw]
  clear hv2 hbrw
  have d0 := HA.out.cell 0 rfl
  have d1 := HA.out.cell 1 rfl
  have d2 := HA.out.cell 2 rfl
  have d3 := HA.out.cell 3 rfl
  go_wp2_with fail
  refine (HG0.out _ HQ.out).mono ?_
  rintro e v3 ⟨xv, rfl, ⟨aX, cX, bX, dX, rfl, ho1, ho2⟩, hq⟩
  rw [HXL.out.1] at ho1 ⊢
  rw [HXL.out.2] at ho2 ⊢
  clear d0 d1 d2 d3
  replace HQ := Lib.hid (Q.trans HQ.out hq)
  replace HA := Lib.hid (Bk.q HA.out hq)
  replace HBrw := Lib.hid (Bk.q HBrw.out hq)
  have HIX := Lib.hid ho1.lst
  have HFX := Lib.hid ho2.lst
  clear hq ho1 ho2
  obtain ⟨v4, hv4⟩ : ∃ y, y = v3.alloc (.cells #[.bool X.g, .slice aX iX cX, .bool X.s, .slice bX fX dX] 24) := ⟨_, rfl⟩
  have hqb : Q v3 v4 := by rw [hv4]; exact (Q.refl _).alloc _
  have hbx : Bk v4 v3.heap.size 24 [.bool X.g, .slice aX iX cX, .bool X.s, .slice bX fX dX] := by rw [hv4]; exact Bk.new _ _ _
  obtain ⟨bxx, hbxx⟩ : ∃ b, b = v3.heap.size := ⟨_, rfl⟩
  rw [← hbxx] at hbx
  replace HQ := Lib.hid (Q.trans HQ.out hqb)
  replace HA := Lib.hid (Bk.q HA.out hqb)
  replace HBrw := Lib.hid (Bk.q HBrw.out hqb)
  replace HIX := Lib.hid (Lst.q HIX.out hqb)
  replace HFX := Lib.hid (Lst.q HFX.out hqb)
  have HBxx := Lib.hid hbx
  clear hqb hbx
  go_upto_region 3 with fail
  rw [← hv4, ← hbxx]
  clear hv4 hbxx
  go_cut [11] (fun sl wx => sl = .slice A3 fl C3 ∧ Q v4 wx)
  case first =>
    unfold maxLen at hc3
    by_cases h5 : l3 ≤ 5
    · have HFE := Lib.hid (show fl = l3 from by omega)
      have h5i : (l3 : Int) ≤ 5 := by omega
      clear hfl
      go_wp2_with fail

      go_meet
      exact ⟨by rw [HFE.out], Q.refl _⟩
    · have HFE := Lib.hid (show fl = 5 from by omega)
      have h5i : ¬ (l3 : Int) ≤ 5 := by omega
      have h5c : (5 : Int) ≤ (C3 : Int) := by omega
      clear hfl
      go_wp2_with fail
      go_meet
      exact ⟨by rw [HFE.out], Q.refl _⟩
  case rest =>
    obtain ⟨rfl, hqc⟩ := hcut
    obtain ⟨v4n, hv4n⟩ : ∃ x, x = wc := ⟨_, rfl⟩
    subst hv4n
    replace HQ := Lib.hid (Q.trans HQ.out hqc)
    replace HA := Lib.hid (Bk.q HA.out hqc)
    replace HBrw := Lib.hid (Bk.q HBrw.out hqc)
    replace HIX := Lib.hid (Lst.q HIX.out hqc)
    replace HFX := Lib.hid (Lst.q HFX.out hqc)
    replace HBxx := Lib.hid (Bk.q HBxx.out hqc)
    clear hqc hfl
    go_upto_region 4 with fail
    go_wp2_with fail
    refine (HP.out _ HQ.out).mono ?_
    rintro e v5 ⟨pa, pc, rfl, ho, hq⟩
    replace HQ := Lib.hid (Q.trans HQ.out hq)
    replace HA := Lib.hid (Bk.q HA.out hq)
    replace HBrw := Lib.hid (Bk.q HBrw.out hq)
    replace HIX := Lib.hid (Lst.q HIX.out hq)
    replace HFX := Lib.hid (Lst.q HFX.out hq)
    replace HBxx := Lib.hid (Bk.q HBxx.out hq)
    have HAT := Lib.hid ho
    clear hq ho
    go_wp2_with fail
    refine (HR1.out _).mono ?_
    rintro e v6 ⟨rfl, hq⟩
    replace HQ := Lib.hid (Q.trans HQ.out hq)
    replace HA := Lib.hid (Bk.q HA.out hq)
    replace HBrw := Lib.hid (Bk.q HBrw.out hq)
    replace HIX := Lib.hid (Lst.q HIX.out hq)
    replace HFX := Lib.hid (Lst.q HFX.out hq)
    replace HBxx := Lib.hid (Bk.q HBxx.out hq)
    replace HAT := Lib.hid (Lst.q HAT.out hq)
    clear hq
    go_wp2_with fail
    refine (HR2.out _).mono ?_
    rintro e v7 ⟨rfl, hq⟩
    replace HQ := Lib.hid (Q.trans HQ.out hq)
    replace HA := Lib.hid (Bk.q HA.out hq)
    replace HBrw := Lib.hid (Bk.q HBrw.out hq)
    replace HIX := Lib.hid (Lst.q HIX.out hq)
    replace HFX := Lib.hid (Lst.q HFX.out hq)
    replace HBxx := Lib.hid (Bk.q HBxx.out hq)
    replace HAT := Lib.hid (Lst.q HAT.out hq)
    clear hq
    go_upto_region 7 with fail
    have x_0 := HBxx.out.cell 0 rfl
    have x_1 := HBxx.out.cell 1 rfl
    have x_2 := HBxx.out.cell 2 rfl
    have x_3 := HBxx.out.cell 3 rfl
    have r_0 := HBrw.out.cell 0 rfl
    have r_1 := HBrw.out.cell 1 rfl
    have r_2 := HBrw.out.cell 2 rfl
    have r_3 := HBrw.out.cell 3 rfl
    obtain ⟨v8, hv8⟩ : ∃ y, y = v7.alloc (.cells #[.bool X.g, .slice aX iX cX, .bool X.s, .slice bX fX dX, .bool X.g, .slice aX iX cX, .bool X.s, .slice bX fX dX, .bool g0_0, .slice A0 p1 C0, .bool g0_2, .slice E0 p2 G0, .bool X.g, .slice aX iX cX, .bool X.s, .slice bX fX dX] 24) := ⟨_, rfl⟩
    have hqb : Q v7 v8 := by rw [hv8]; exact (Q.refl _).alloc _
    have hbx : Bk v8 v7.heap.size 24 [.bool X.g, .slice aX iX cX, .bool X.s, .slice bX fX dX, .bool X.g, .slice aX iX cX, .bool X.s, .slice bX fX dX, .bool g0_0, .slice A0 p1 C0, .bool g0_2, .slice E0 p2 G0, .bool X.g, .slice aX iX cX, .bool X.s, .slice bX fX dX] := by rw [hv8]; exact Bk.new _ _ _
    obtain ⟨ba, hba⟩ : ∃ b, b = v7.heap.size := ⟨_, rfl⟩
    rw [← hba] at hbx
    go_upto_region 8 with fail
    rw [← hv8, ← hba]
    clear hv8 hba x_0 x_1 x_2 x_3 r_0 r_1 r_2 r_3
    replace HQ := Lib.hid (Q.trans HQ.out hqb)
    replace HA := Lib.hid (Bk.q HA.out hqb)
    replace HBrw := Lib.hid (Bk.q HBrw.out hqb)
    replace HIX := Lib.hid (Lst.q HIX.out hqb)
    replace HFX := Lib.hid (Lst.q HFX.out hqb)
    replace HBxx := Lib.hid (Bk.q HBxx.out hqb)
    replace HAT := Lib.hid (Lst.q HAT.out hqb)
    have HBba := Lib.hid hbx
    clear hqb hbx
    obtain ⟨mnv, hmnv⟩ : ∃ m, m = min x y := ⟨_, rfl⟩
    go_cut [16] (fun sl wx => ∃ b, sl = .slice (some ⟨b, 0, none⟩) 4 4 ∧ Bk wx b 3 [.int .i64 mnv, .int .i64 a1, .int .i64 x, .int .i64 x] ∧ Q v8 wx)
    case first =>
      by_cases hxy : x ≤ y
      · have HME := Lib.hid (show mnv = x from by omega)
        have hnl : ¬ y < x := by omega
        have hxy2 : x ≤ y := by omega
        clear hmnv
        go_wp2_with fail

        go_meet
        exact ⟨_, rfl, by rw [HME.out]; exact Bk.new _ _ _, (Q.refl _).alloc _⟩
      · have HME := Lib.hid (show mnv = y from by omega)
        have hnl2 : y ≤ x := by omega
        have hnl3 : ¬ x < y := by omega
        have hnl : y < x := by omega
        clear hmnv
        go_wp2_with fail
        go_meet
        exact ⟨_, rfl, by rw [HME.out]; exact Bk.new _ _ _, (Q.refl _).alloc _⟩
    case rest =>
      obtain ⟨bi, rfl, hbx, hqc⟩ := hcut
      obtain ⟨v8bi, hv8bi⟩ : ∃ x, x = wc := ⟨_, rfl⟩
      subst hv8bi
      replace HQ := Lib.hid (Q.trans HQ.out hqc)
      replace HA := Lib.hid (Bk.q HA.out hqc)
      replace HBrw := Lib.hid (Bk.q HBrw.out hqc)
      replace HIX := Lib.hid (Lst.q HIX.out hqc)
      replace HFX := Lib.hid (Lst.q HFX.out hqc)
      replace HBxx := Lib.hid (Bk.q HBxx.out hqc)
      replace HAT := Lib.hid (Lst.q HAT.out hqc)
      replace HBba := Lib.hid (Bk.q HBba.out hqc)
      have HBbi := Lib.hid hbx
      clear hqc hbx hmnv
      go_upto_region 9 with fail
      obtain ⟨mxv, hmxv⟩ : ∃ m, m = max x y := ⟨_, rfl⟩
      go_cut [17] (fun sl wx => ∃ b, sl = .slice (some ⟨b, 0, none⟩) 4 4 ∧ Bk wx b 3 [.int .i64 mxv, .int .i64 a2, .int .i64 y, .int .i64 y] ∧ Q v8bi wx)
      case first =>
        by_cases hxy : x < y
        · have HME := Lib.hid (show mxv = y from by omega)
          have hnl : ¬ y < x := by omega
          have hxy2 : x ≤ y := by omega
          clear hmxv
          go_wp2_with fail

          go_meet
          exact ⟨_, rfl, by rw [HME.out]; exact Bk.new _ _ _, (Q.refl _).alloc _⟩
        · have HME := Lib.hid (show mxv = x from by omega)
          have hnl2 : y ≤ x := by omega
          have hnl3 : ¬ x < y := by omega
          clear hmxv
          go_wp2_with fail
          go_meet
          exact ⟨_, rfl, by rw [HME.out]; exact Bk.new _ _ _, (Q.refl _).alloc _⟩
      case rest =>
        obtain ⟨bj, rfl, hbx, hqc⟩ := hcut
        obtain ⟨v8bibj, hv8bibj⟩ : ∃ x, x = wc := ⟨_, rfl⟩
        subst hv8bibj
        replace HQ := Lib.hid (Q.trans HQ.out hqc)
        replace HA := Lib.hid (Bk.q HA.out hqc)
        replace HBrw := Lib.hid (Bk.q HBrw.out hqc)
        replace HIX := Lib.hid (Lst.q HIX.out hqc)
        replace HFX := Lib.hid (Lst.q HFX.out hqc)
        replace HBxx := Lib.hid (Bk.q HBxx.out hqc)
        replace HAT := Lib.hid (Lst.q HAT.out hqc)
        replace HBba := Lib.hid (Bk.q HBba.out hqc)
        replace HBbi := Lib.hid (Bk.q HBbi.out hqc)
        have HBbj := Lib.hid hbx
        clear hqc hbx hmxv
        go_upto_region 10 with fail
        obtain ⟨v9, hv9⟩ : ∃ y, y = v8bibj.alloc (.cells #[.slice pa K pc, .slice pa K pc, .slice pa K pc, .slice A3 fl C3] 22) := ⟨_, rfl⟩
        have hqb : Q v8bibj v9 := by rw [hv9]; exact (Q.refl _).alloc _
        have hbx : Bk v9 v8bibj.heap.size 22 [.slice pa K pc, .slice pa K pc, .slice pa K pc, .slice A3 fl C3] := by rw [hv9]; exact Bk.new _ _ _
        obtain ⟨bl, hbl⟩ : ∃ b, b = v8bibj.heap.size := ⟨_, rfl⟩
        rw [← hbl] at hbx
        go_upto_region 11 with fail
        rw [← hv9, ← hbl]
        clear hv9 hbl 
        replace HQ := Lib.hid (Q.trans HQ.out hqb)
        replace HA := Lib.hid (Bk.q HA.out hqb)
        replace HBrw := Lib.hid (Bk.q HBrw.out hqb)
        replace HIX := Lib.hid (Lst.q HIX.out hqb)
        replace HFX := Lib.hid (Lst.q HFX.out hqb)
        replace HBxx := Lib.hid (Bk.q HBxx.out hqb)
        replace HAT := Lib.hid (Lst.q HAT.out hqb)
        replace HBba := Lib.hid (Bk.q HBba.out hqb)
        replace HBbi := Lib.hid (Bk.q HBbi.out hqb)
        replace HBbj := Lib.hid (Bk.q HBbj.out hqb)
        have HBbl := Lib.hid hbx
        clear hqb hbx
        have HEL := Lib.hid (fun (i : Nat) (hi : i < 4) => (by
          have hx := HBba.out
          have hi9 := HBbi.out
          have hj9 := HBbj.out
          have hl9 := HBbl.out
          rcases i with _ | _ | _ | _ | i
          · exact ⟨X.g, X.s, aX, bX, iX, cX, fX, dX, X.i, X.f, mnv, mxv, pa, K, pc, A, ⟨hx.cell 0 rfl, hx.cell 1 rfl, hx.cell 2 rfl, hx.cell 3 rfl, hi9.cell 0 rfl, hj9.cell 0 rfl, hl9.cell 0 rfl⟩, HIX.out, HFX.out, HAT.out, lX.1, lX.2, HXL.out.1, HXL.out.2, HKL.out, hK5⟩
          · exact ⟨X.g, X.s, aX, bX, iX, cX, fX, dX, X.i, X.f, a1, a2, pa, K, pc, A, ⟨hx.cell 4 rfl, hx.cell 5 rfl, hx.cell 6 rfl, hx.cell 7 rfl, hi9.cell 1 rfl, hj9.cell 1 rfl, hl9.cell 1 rfl⟩, HIX.out, HFX.out, HAT.out, lX.1, lX.2, HXL.out.1, HXL.out.2, HKL.out, hK5⟩
          · exact ⟨g0_0, g0_2, A0, E0, p1, C0, p2, G0, L1, L2, x, y, pa, K, pc, A, ⟨hx.cell 8 rfl, hx.cell 9 rfl, hx.cell 10 rfl, hx.cell 11 rfl, hi9.cell 2 rfl, hj9.cell 2 rfl, hl9.cell 2 rfl⟩, (HRW.out _ HQ.out).1, (HRW.out _ HQ.out).2, HAT.out, hp19, hp29, HLL.out.1, HLL.out.2, HKL.out, hK5⟩
          · exact ⟨X.g, X.s, aX, bX, iX, cX, fX, dX, X.i, X.f, x, y, A3, fl, C3, L3, ⟨hx.cell 12 rfl, hx.cell 13 rfl, hx.cell 14 rfl, hx.cell 15 rfl, hi9.cell 3 rfl, hj9.cell 3 rfl, hl9.cell 3 rfl⟩, HIX.out, HFX.out, HR3.out _ HQ.out, lX.1, lX.2, HXL.out.1, HXL.out.2, HL3.out, hfl5⟩
          · omega : ∃ (g s : Bool) (a b : Option Addr) (n c m d : Nat) (I F : List Int) (p q : Int) (la : Option Addr) (ln lc : Nat) (L : List Int), (v9.cell? ⟨ba, i * 4, none⟩ = some (.bool g) ∧ v9.cell? ⟨ba, i * 4 + 1, none⟩ = some (.slice a n c) ∧ v9.cell? ⟨ba, i * 4 + 2, none⟩ = some (.bool s) ∧ v9.cell? ⟨ba, i * 4 + 3, none⟩ = some (.slice b m d) ∧ v9.cell? ⟨bi, i, none⟩ = some (.int .i64 p) ∧ v9.cell? ⟨bj, i, none⟩ = some (.int .i64 q) ∧ v9.cell? ⟨bl, i, none⟩ = some (.slice la ln lc)) ∧ Lst v9 (.slice a n c) I ∧ Lst v9 (.slice b m d) F ∧ Lst v9 (.slice la ln lc) L ∧ n ≤ 9 ∧ m ≤ 9 ∧ I.length = n ∧ F.length = m ∧ L.length = ln ∧ ln ≤ 5))
        have HBL := Lib.hid (⟨HBba.out.lt, HBbi.out.lt, HBbj.out.lt, HBbl.out.lt⟩ : _ ∧ _ ∧ _ ∧ _)
        have HQV := Lib.hid HQ.out
        clear HQ HA HBrw HIX HFX HBxx HAT HBba HBbi HBbj HBbl
        go_upto_region 11 with fail
        go_wp2_with fail
        go_loopg [19] 4 (fun gg t wr => ∃ i : Nat, t = .int .i64 i ∧ i ≤ 4 ∧ 4 - i ≤ gg ∧ Q v9 wr)
        case atStart => exact ⟨0, rfl, by omega, by omega, Q.refl _⟩
        case round =>
          obtain ⟨i, rfl, hi, hgi, hq⟩ := hrel
          have HQ1 := Lib.hid hq
          clear hq
          by_cases hi4 : i < 4
          · obtain ⟨g, s, a, b, n, c, m, d, I, F, p, q, la, ln, lc, L, hc, h1, h2, h3, hn, hm, hI, hF, hL, hln⟩ := HEL.out i hi4
            have HC := Lib.hid (fun u (q : Q v9 u) => (⟨(World.cell?_of_block (w := v9) (q.block HBL.out.1)).trans hc.1, (World.cell?_of_block (w := v9) (q.block HBL.out.1)).trans hc.2.1, (World.cell?_of_block (w := v9) (q.block HBL.out.1)).trans hc.2.2.1, (World.cell?_of_block (w := v9) (q.block HBL.out.1)).trans hc.2.2.2.1, (World.cell?_of_block (w := v9) (q.block HBL.out.2.1)).trans hc.2.2.2.2.1, (World.cell?_of_block (w := v9) (q.block HBL.out.2.2.1)).trans hc.2.2.2.2.2.1, (World.cell?_of_block (w := v9) (q.block HBL.out.2.2.2)).trans hc.2.2.2.2.2.2⟩ : _ ∧ _ ∧ _ ∧ _ ∧ _ ∧ _ ∧ _))
            have HL := Lib.hid (fun u (q : Q v9 u) => (⟨h1.q q, h2.q q, h3.q q⟩ : _ ∧ _ ∧ _))
            have hbd := Tm.spR_bd ⟨g, I, s, F⟩ p q L
            have hsl := Tm.sep_len s
            rw [Tm.ats_len] at hbd
            dsimp only at hbd
            rw [hI, hF, hL] at hbd
            have HS1 := Lib.hid (fun u (qq : Q v9 u) => Tp.splice_any g s a b n m c d I F u (h1.q qq) (h2.q qq) hI hF (by omega) (by omega) p q (.slice la ln lc) L (h3.q qq) (by omega))
            have HS2 := Lib.hid (fun u (qq : Q v9 u) => Tr.splice_any g s a b n m c d I F u (h1.q qq) (h2.q qq) hI hF (by omega) (by omega) p q (.slice la ln lc) L (h3.q qq) (by omega))
            generalize Tm.spC ⟨g, I, s, F⟩ p q L = C at *
            generalize Tm.spR ⟨g, I, s, F⟩ p q L = R at *
            obtain ⟨iR, hiR⟩ : ∃ n, n = R.i.length := ⟨_, rfl⟩
            obtain ⟨fR, hfR⟩ : ∃ n, n = R.f.length := ⟨_, rfl⟩
            rw [← hiR, ← hfR] at hbd
            have HRL := Lib.hid (⟨hiR.symm, hfR.symm⟩ : R.i.length = iR ∧ R.f.length = fR)
            have hbR : iR < 1000000 ∧ fR < 1000000 := by omega
            have HSM := Lib.hid (fun u a c b d a' c' b' d' (h1 : Lst u (.slice a iR c) R.i) (h2 : Lst u (.slice b fR d) R.f) (h3 : Lst u (.slice a' iR c') R.i) (h4 : Lst u (.slice b' fR d') R.f) => (by
              have h := Tr.same_any R.g R.s R.g R.s _ _ _ _ R.i R.f R.i R.f u h1 h2 h3 h4 (by rw [HRL.out.1]; omega) (by rw [HRL.out.2]; omega) (by rw [HRL.out.1]; omega) (by rw [HRL.out.2]; omega)
              rw [(Tm.same_iff _ _).2 rfl] at h
              exact h))
            have hi4i : (i : Int) < 4 := by omega
            clear hc h1 h2 h3 hI hF hL hbd hsl hiR hfR
            go_upto_region 14 with fail
            go_cut [20, 21] (fun p e wx => ∃ b qa qc qb qd, p = .pointer (some ⟨b, 0, none⟩) ∧ e = .int .i64 C ∧ Bk wx b 30 [.bool R.g, .slice qa iR qc, .bool R.s, .slice qb fR qd] ∧ Lst wx (.slice qa iR qc) R.i ∧ Lst wx (.slice qb fR qd) R.f ∧ Q wr wx)
            case first =>
              refine wp_region_held_drew (S := fun u => Q wr u) (by kernel_rfl) (by exact (Q.refl wr).drew) (fun hHeld => ?_)
              have hS : Q wr wr.drew := hHeld
              clear hHeld
              have hq : Q wr wr.drew := (Q.refl _).drew
              clear hq
              generalize wr.drew = yR1x0 at *
              change wpAnyH _ _ _ _ _ _ #[false, false, false, false, false, false, false, false, false, false, false, false, false, false, false, false, false, false, false, false, false, false, false, false] _ _
              refine wpAnyH_take (i := 0) (v := ?vR1x1) (by (try simp only [List.getElem?_toArray, List.getElem?_cons_succ, List.getElem?_cons_zero]); rfl) (by kernel_rfl) (by kernel_rfl) (by kernel_rfl) (by exact fun _ _ _ h => h) (Or.inl ⟨by first | kernel_rfl | rfl, ?hyR1x1⟩) (by exact hS) ?rsR1x1
              case hyR1x1 => (intro uz hSw; (try dsimp only at hSw); go_simp; try with_reducible rfl)
              try simp only [Act.put, List.setIfInBounds_toArray, List.set_cons_zero, List.set_cons_succ]
              change wpAnyH _ _ _ _ _ _ #[true, false, false, false, false, false, false, false, false, false, false, false, false, false, false, false, false, false, false, false, false, false, false, false] _ _
              refine wpAnyH_take (i := 1) (v := ?vR1x2) (by (try simp only [List.getElem?_toArray, List.getElem?_cons_succ, List.getElem?_cons_zero]); rfl) (by kernel_rfl) (by kernel_rfl) (by kernel_rfl) (by exact fun _ _ _ h => h) (Or.inl ⟨by first | kernel_rfl | rfl, ?hyR1x2⟩) (by exact hS) ?rsR1x2
              case hyR1x2 => (intro uz hSw; (try dsimp only at hSw); go_simp; try with_reducible rfl)
              try simp only [Act.put, List.setIfInBounds_toArray, List.set_cons_zero, List.set_cons_succ]
              change wpAnyH _ _ _ _ _ _ #[true, true, false, false, false, false, false, false, false, false, false, false, false, false, false, false, false, false, false, false, false, false, false, false] _ _
              refine wpAnyH_take (i := 2) (v := ?vR1x3) (by (try simp only [List.getElem?_toArray, List.getElem?_cons_succ, List.getElem?_cons_zero]); rfl) (by kernel_rfl) (by kernel_rfl) (by kernel_rfl) (by exact fun _ _ _ h => h) (Or.inl ⟨by first | kernel_rfl | rfl, ?hyR1x3⟩) (by exact hS) ?rsR1x3
              case hyR1x3 => (intro uz hSw; (try dsimp only at hSw); go_simp; try with_reducible rfl)
              try simp only [Act.put, List.setIfInBounds_toArray, List.set_cons_zero, List.set_cons_succ]
              change wpAnyH _ _ _ _ _ _ #[true, true, true, false, false, false, false, false, false, false, false, false, false, false, false, false, false, false, false, false, false, false, false, false] _ _
              refine wpAnyH_take (i := 3) (v := ?vR1x4) (by (try simp only [List.getElem?_toArray, List.getElem?_cons_succ, List.getElem?_cons_zero]); rfl) (by kernel_rfl) (by kernel_rfl) (by kernel_rfl) (by exact fun _ _ _ h => h) (Or.inl ⟨by first | kernel_rfl | rfl, ?hyR1x4⟩) (by exact hS) ?rsR1x4
              case hyR1x4 => (intro uz hSw; (try dsimp only at hSw); obtain ⟨d0, d1, d2, d3, d4, d5, d6⟩ := HC.out _ (HQ1.out.trans hSw); go_simp; try with_reducible rfl)
              try simp only [Act.put, List.setIfInBounds_toArray, List.set_cons_zero, List.set_cons_succ]
              change wpAnyH _ _ _ _ _ _ #[true, true, true, true, false, false, false, false, false, false, false, false, false, false, false, false, false, false, false, false, false, false, false, false] _ _
              refine wpAnyH_take (i := 5) (v := ?vR1x5) (by (try simp only [List.getElem?_toArray, List.getElem?_cons_succ, List.getElem?_cons_zero]); rfl) (by kernel_rfl) (by kernel_rfl) (by kernel_rfl) (by exact fun _ _ _ h => h) (Or.inl ⟨by first | kernel_rfl | rfl, ?hyR1x5⟩) (by exact hS) ?rsR1x5
              case hyR1x5 => (intro uz hSw; (try dsimp only at hSw); go_simp; try with_reducible rfl)
              try simp only [Act.put, List.setIfInBounds_toArray, List.set_cons_zero, List.set_cons_succ]
              change wpAnyH _ _ _ _ _ _ #[true, true, true, true, false, true, false, false, false, false, false, false, false, false, false, false, false, false, false, false, false, false, false, false] _ _
              refine wpAnyH_take (i := 6) (v := ?vR1x6) (by (try simp only [List.getElem?_toArray, List.getElem?_cons_succ, List.getElem?_cons_zero]); rfl) (by kernel_rfl) (by kernel_rfl) (by kernel_rfl) (by exact fun _ _ _ h => h) (Or.inl ⟨by first | kernel_rfl | rfl, ?hyR1x6⟩) (by exact hS) ?rsR1x6
              case hyR1x6 => (intro uz hSw; (try dsimp only at hSw); go_simp; try with_reducible rfl)
              try simp only [Act.put, List.setIfInBounds_toArray, List.set_cons_zero, List.set_cons_succ]
              change wpAnyH _ _ _ _ _ _ #[true, true, true, true, false, true, true, false, false, false, false, false, false, false, false, false, false, false, false, false, false, false, false, false] _ _
              refine wpAnyH_take (i := 7) (v := ?vR1x7) (by (try simp only [List.getElem?_toArray, List.getElem?_cons_succ, List.getElem?_cons_zero]); rfl) (by kernel_rfl) (by kernel_rfl) (by kernel_rfl) (by exact fun _ _ _ h => h) (Or.inl ⟨by first | kernel_rfl | rfl, ?hyR1x7⟩) (by exact hS) ?rsR1x7
              case hyR1x7 => (intro uz hSw; (try dsimp only at hSw); go_simp; try with_reducible rfl)
              try simp only [Act.put, List.setIfInBounds_toArray, List.set_cons_zero, List.set_cons_succ]
              change wpAnyH _ _ _ _ _ _ #[true, true, true, true, false, true, true, true, false, false, false, false, false, false, false, false, false, false, false, false, false, false, false, false] _ _
              refine wpAnyH_take (i := 8) (v := ?vR1x8) (by (try simp only [List.getElem?_toArray, List.getElem?_cons_succ, List.getElem?_cons_zero]); rfl) (by kernel_rfl) (by kernel_rfl) (by kernel_rfl) (by exact fun _ _ _ h => h) (Or.inl ⟨by first | kernel_rfl | rfl, ?hyR1x8⟩) (by exact hS) ?rsR1x8
              case hyR1x8 => (intro uz hSw; (try dsimp only at hSw); obtain ⟨d0, d1, d2, d3, d4, d5, d6⟩ := HC.out _ (HQ1.out.trans hSw); go_simp; try with_reducible rfl)
              try simp only [Act.put, List.setIfInBounds_toArray, List.set_cons_zero, List.set_cons_succ]
              change wpAnyH _ _ _ _ _ _ #[true, true, true, true, false, true, true, true, true, false, false, false, false, false, false, false, false, false, false, false, false, false, false, false] _ _
              refine wpAnyH_take (i := 9) (v := ?vR1x9) (by (try simp only [List.getElem?_toArray, List.getElem?_cons_succ, List.getElem?_cons_zero]); rfl) (by kernel_rfl) (by kernel_rfl) (by kernel_rfl) (by exact fun _ _ _ h => h) (Or.inl ⟨by first | kernel_rfl | rfl, ?hyR1x9⟩) (by exact hS) ?rsR1x9
              case hyR1x9 => (intro uz hSw; (try dsimp only at hSw); go_simp; try with_reducible rfl)
              try simp only [Act.put, List.setIfInBounds_toArray, List.set_cons_zero, List.set_cons_succ]
              change wpAnyH _ _ _ _ _ _ #[true, true, true, true, false, true, true, true, true, true, false, false, false, false, false, false, false, false, false, false, false, false, false, false] _ _
              refine wpAnyH_take (i := 10) (v := ?vR1x10) (by (try simp only [List.getElem?_toArray, List.getElem?_cons_succ, List.getElem?_cons_zero]); rfl) (by kernel_rfl) (by kernel_rfl) (by kernel_rfl) (by exact fun _ _ _ h => h) (Or.inl ⟨by first | kernel_rfl | rfl, ?hyR1x10⟩) (by exact hS) ?rsR1x10
              case hyR1x10 => (intro uz hSw; (try dsimp only at hSw); go_simp; try with_reducible rfl)
              try simp only [Act.put, List.setIfInBounds_toArray, List.set_cons_zero, List.set_cons_succ]
              change wpAnyH _ _ _ _ _ _ #[true, true, true, true, false, true, true, true, true, true, true, false, false, false, false, false, false, false, false, false, false, false, false, false] _ _
              refine wpAnyH_take (i := 11) (v := ?vR1x11) (by (try simp only [List.getElem?_toArray, List.getElem?_cons_succ, List.getElem?_cons_zero]); rfl) (by kernel_rfl) (by kernel_rfl) (by kernel_rfl) (by exact fun _ _ _ h => h) (Or.inl ⟨by first | kernel_rfl | rfl, ?hyR1x11⟩) (by exact hS) ?rsR1x11
              case hyR1x11 => (intro uz hSw; (try dsimp only at hSw); go_simp; try with_reducible rfl)
              try simp only [Act.put, List.setIfInBounds_toArray, List.set_cons_zero, List.set_cons_succ]
              change wpAnyH _ _ _ _ _ _ #[true, true, true, true, false, true, true, true, true, true, true, true, false, false, false, false, false, false, false, false, false, false, false, false] _ _
              refine wpAnyH_take (i := 12) (v := ?vR1x12) (by (try simp only [List.getElem?_toArray, List.getElem?_cons_succ, List.getElem?_cons_zero]); rfl) (by kernel_rfl) (by kernel_rfl) (by kernel_rfl) (by exact fun _ _ _ h => h) (Or.inl ⟨by first | kernel_rfl | rfl, ?hyR1x12⟩) (by exact hS) ?rsR1x12
              case hyR1x12 => (intro uz hSw; (try dsimp only at hSw); obtain ⟨d0, d1, d2, d3, d4, d5, d6⟩ := HC.out _ (HQ1.out.trans hSw); go_simp; try with_reducible rfl)
              try simp only [Act.put, List.setIfInBounds_toArray, List.set_cons_zero, List.set_cons_succ]
              change wpAnyH _ _ _ _ _ _ #[true, true, true, true, false, true, true, true, true, true, true, true, true, false, false, false, false, false, false, false, false, false, false, false] _ _
              refine wpAnyH_take (i := 13) (v := ?vR1x13) (by (try simp only [List.getElem?_toArray, List.getElem?_cons_succ, List.getElem?_cons_zero]); rfl) (by kernel_rfl) (by kernel_rfl) (by kernel_rfl) (by exact fun _ _ _ h => h) (Or.inl ⟨by first | kernel_rfl | rfl, ?hyR1x13⟩) (by exact hS) ?rsR1x13
              case hyR1x13 => (intro uz hSw; (try dsimp only at hSw); go_simp; try with_reducible rfl)
              try simp only [Act.put, List.setIfInBounds_toArray, List.set_cons_zero, List.set_cons_succ]
              change wpAnyH _ _ _ _ _ _ #[true, true, true, true, false, true, true, true, true, true, true, true, true, true, false, false, false, false, false, false, false, false, false, false] _ _
              refine wpAnyH_take (i := 14) (v := ?vR1x14) (by (try simp only [List.getElem?_toArray, List.getElem?_cons_succ, List.getElem?_cons_zero]); rfl) (by kernel_rfl) (by kernel_rfl) (by kernel_rfl) (by exact fun _ _ _ h => h) (Or.inl ⟨by first | kernel_rfl | rfl, ?hyR1x14⟩) (by exact hS) ?rsR1x14
              case hyR1x14 => (intro uz hSw; (try dsimp only at hSw); go_simp; try with_reducible rfl)
              try simp only [Act.put, List.setIfInBounds_toArray, List.set_cons_zero, List.set_cons_succ]
              change wpAnyH _ _ _ _ _ _ #[true, true, true, true, false, true, true, true, true, true, true, true, true, true, true, false, false, false, false, false, false, false, false, false] _ _
              refine wpAnyH_take (i := 15) (v := ?vR1x15) (by (try simp only [List.getElem?_toArray, List.getElem?_cons_succ, List.getElem?_cons_zero]); rfl) (by kernel_rfl) (by kernel_rfl) (by kernel_rfl) (by exact fun _ _ _ h => h) (Or.inl ⟨by first | kernel_rfl | rfl, ?hyR1x15⟩) (by exact hS) ?rsR1x15
              case hyR1x15 => (intro uz hSw; (try dsimp only at hSw); go_simp; try with_reducible rfl)
              try simp only [Act.put, List.setIfInBounds_toArray, List.set_cons_zero, List.set_cons_succ]
              change wpAnyH _ _ _ _ _ _ #[true, true, true, true, false, true, true, true, true, true, true, true, true, true, true, true, false, false, false, false, false, false, false, false] _ _
              refine wpAnyH_take (i := 16) (v := ?vR1x16) (by (try simp only [List.getElem?_toArray, List.getElem?_cons_succ, List.getElem?_cons_zero]); rfl) (by kernel_rfl) (by kernel_rfl) (by kernel_rfl) (by exact fun _ _ _ h => h) (Or.inl ⟨by first | kernel_rfl | rfl, ?hyR1x16⟩) (by exact hS) ?rsR1x16
              case hyR1x16 => (intro uz hSw; (try dsimp only at hSw); obtain ⟨d0, d1, d2, d3, d4, d5, d6⟩ := HC.out _ (HQ1.out.trans hSw); go_simp; try with_reducible rfl)
              try simp only [Act.put, List.setIfInBounds_toArray, List.set_cons_zero, List.set_cons_succ]
              change wpAnyH _ _ _ _ _ _ #[true, true, true, true, false, true, true, true, true, true, true, true, true, true, true, true, true, false, false, false, false, false, false, false] _ _
              refine wpAnyH_ready (rs := [4, 21]) (by kernel_rfl) (by simp) ?_
              refine (AllReadyH.cons (by (try simp only [List.getElem?_toArray, List.getElem?_cons_succ, List.getElem?_cons_zero]); rfl) (fun K hK => ?_) (AllReadyH.cons (by (try simp only [List.getElem?_toArray, List.getElem?_cons_succ, List.getElem?_cons_zero]); rfl) (fun K hK => ?_) AllReadyH.nil))
              · go_simp
                refine (HOF.out _ _ _ _ _ _ _ _ _).mono ?_
                rintro e yR1x17 ⟨rfl, hq⟩
                try (go_wp2_with fail)
                have hS2 := Q.trans hS hq
                refine hK.out _ _ (by exact hS2) (fun hHeld => ?_)
                clear hK K hHeld hS hq
                have hS := hS2
                clear hS2
                try simp only [Act.put, List.setIfInBounds_toArray, List.set_cons_zero, List.set_cons_succ]
                change wpAnyH _ _ _ _ _ _ #[true, true, true, true, true, true, true, true, true, true, true, true, true, true, true, true, true, false, false, false, false, false, false, false] _ _
                refine wpAnyH_ready (rs := [17, 21]) (by kernel_rfl) (by simp) ?_
                refine (AllReadyH.cons (by (try simp only [List.getElem?_toArray, List.getElem?_cons_succ, List.getElem?_cons_zero]); rfl) (fun K hK => ?_) (AllReadyH.cons (by (try simp only [List.getElem?_toArray, List.getElem?_cons_succ, List.getElem?_cons_zero]); rfl) (fun K hK => ?_) AllReadyH.nil))
                · go_simp
                  refine (HS1.out _ (HQ1.out.trans hS)).mono ?_
                  rintro e yR1x18 ⟨xo, rfl, ⟨qa, qc, qb, qd, rfl, ho1, ho2⟩, hq⟩
                  rw [HRL.out.1] at ho1 ⊢
                  rw [HRL.out.2] at ho2 ⊢
                  have HI7 := Lib.hid ho1
                  have HF7 := Lib.hid ho2
                  clear ho1 ho2
                  try (go_wp2_with fail)
                  have hS2 := Q.trans hS hq
                  refine hK.out _ _ (by exact hS2) (fun hHeld => ?_)
                  clear hK K hHeld hS hq
                  have hS := hS2
                  clear hS2
                  try simp only [Act.put, List.setIfInBounds_toArray, List.set_cons_zero, List.set_cons_succ]
                  change wpAnyH _ _ _ _ _ _ #[true, true, true, true, true, true, true, true, true, true, true, true, true, true, true, true, true, true, false, false, false, false, false, false] _ _
                  refine wpAnyH_take (i := 18) (v := ?vR1x19) (by (try simp only [List.getElem?_toArray, List.getElem?_cons_succ, List.getElem?_cons_zero]); rfl) (by kernel_rfl) (by kernel_rfl) (by kernel_rfl) (by exact fun _ _ _ h => h) (Or.inl ⟨by first | kernel_rfl | rfl, ?hyR1x19⟩) (by exact hS) ?rsR1x19
                  case hyR1x19 => (intro uz hSw; (try dsimp only at hSw); go_simp; try with_reducible rfl)
                  try simp only [Act.put, List.setIfInBounds_toArray, List.set_cons_zero, List.set_cons_succ]
                  change wpAnyH _ _ _ _ _ _ #[true, true, true, true, true, true, true, true, true, true, true, true, true, true, true, true, true, true, true, false, false, false, false, false] _ _
                  refine wpAnyH_take (i := 19) (v := ?vR1x20) (by (try simp only [List.getElem?_toArray, List.getElem?_cons_succ, List.getElem?_cons_zero]); rfl) (by kernel_rfl) (by kernel_rfl) (by kernel_rfl) (by exact fun _ _ _ h => h) (Or.inl ⟨by first | kernel_rfl | rfl, ?hyR1x20⟩) (by exact hS) ?rsR1x20
                  case hyR1x20 => (intro uz hSw; (try dsimp only at hSw); go_simp; try with_reducible rfl)
                  try simp only [Act.put, List.setIfInBounds_toArray, List.set_cons_zero, List.set_cons_succ]
                  change wpAnyH _ _ _ _ _ _ #[true, true, true, true, true, true, true, true, true, true, true, true, true, true, true, true, true, true, true, true, false, false, false, false] _ _
                  refine wpAnyH_take (i := 20) (v := ?vR1x21) (by (try simp only [List.getElem?_toArray, List.getElem?_cons_succ, List.getElem?_cons_zero]); rfl) (by kernel_rfl) (by kernel_rfl) (by kernel_rfl) (by exact fun _ _ _ h => h) (Or.inl ⟨by first | kernel_rfl | rfl, ?hyR1x21⟩) (by exact hS) ?rsR1x21
                  case hyR1x21 => (intro uz hSw; (try dsimp only at hSw); go_simp; try with_reducible rfl)
                  try simp only [Act.put, List.setIfInBounds_toArray, List.set_cons_zero, List.set_cons_succ]
                  change wpAnyH _ _ _ _ _ _ #[true, true, true, true, true, true, true, true, true, true, true, true, true, true, true, true, true, true, true, true, true, false, false, false] _ _
                  refine wpAnyH_ready (rs := [21]) (by kernel_rfl) (by simp) ?_
                  refine (AllReadyH.cons (by (try simp only [List.getElem?_toArray, List.getElem?_cons_succ, List.getElem?_cons_zero]); rfl) (fun K hK => ?_) AllReadyH.nil)
                  go_simp
                  have hq := (Q.refl yR1x18).alloc (.cells #[.bool false, .slice none 0 0, .bool false, .slice none 0 0] 30)
                  have HBX := Lib.hid (Bk.new yR1x18 30 [.bool false, .slice none 0 0, .bool false, .slice none 0 0])
                  have HW_bX := Lib.hid (Q.le hS)
                  have HI7 := Lib.hid (Own.q HI7.out hq)
                  have HF7 := Lib.hid (Own.q HF7.out hq)
                  have hS2 := Q.trans hS hq
                  refine hK.out _ _ (by exact hS2) (fun hHeld => ?_)
                  clear hK K hHeld hS hq
                  have hS := hS2
                  clear hS2
                  generalize yR1x18.alloc (.cells #[.bool false, .slice none 0 0, .bool false, .slice none 0 0] 30) = yR1x22 at *
                  generalize yR1x18.heap.size = bX at *
                  try simp only [Act.put, List.setIfInBounds_toArray, List.set_cons_zero, List.set_cons_succ]
                  change wpAnyH _ _ _ _ _ _ #[true, true, true, true, true, true, true, true, true, true, true, true, true, true, true, true, true, true, true, true, true, true, false, false] _ _
                  refine wpAnyH_ready (rs := [22]) (by kernel_rfl) (by simp) ?_
                  refine (AllReadyH.cons (by (try simp only [List.getElem?_toArray, List.getElem?_cons_succ, List.getElem?_cons_zero]); rfl) (fun K hK => ?_) AllReadyH.nil)
                  have b0 := HBX.out.cell 0 rfl
                  have f0 := HBX.out.free 0
                  have b1 := HBX.out.cell 1 rfl
                  have f1 := HBX.out.free 1
                  have b2 := HBX.out.cell 2 rfl
                  have f2 := HBX.out.free 2
                  have b3 := HBX.out.cell 3 rfl
                  have f3 := HBX.out.free 3
                  go_simp
                  have hS2 := (Q.setCell (Q.setCell (Q.setCell (Q.setCell hS (ad := ⟨bX, 0, none⟩) HW_bX.out (.bool R.g)) (ad := ⟨bX, 1, none⟩) HW_bX.out (.slice qa iR qc)) (ad := ⟨bX, 2, none⟩) HW_bX.out (.bool R.s)) (ad := ⟨bX, 3, none⟩) HW_bX.out (.slice qb fR qd))
                  have HE := Lib.hid ((((HBX.out.set 0 (.bool R.g)).set 1 (.slice qa iR qc)).set 2 (.bool R.s)).set 3 (.slice qb fR qd))
                  replace HI7 := Lib.hid (Tm.Own_past4 HI7.out HBX.out (by decide) (.bool R.g) (.slice qa iR qc) (.bool R.s) (.slice qb fR qd))
                  replace HF7 := Lib.hid (Tm.Own_past4 HF7.out HBX.out (by decide) (.bool R.g) (.slice qa iR qc) (.bool R.s) (.slice qb fR qd))
                  refine hK.out _ _ (by exact hS2) (fun hHeld => ?_)
                  clear hK K hHeld hS
                  have hS := hS2
                  clear hS2 b0 f0 b1 f1 b2 f2 b3 f3
                  generalize ((((yR1x22.setCell ⟨bX, 0, none⟩ (.bool R.g)).setCell ⟨bX, 1, none⟩ (.slice qa iR qc)).setCell ⟨bX, 2, none⟩ (.bool R.s)).setCell ⟨bX, 3, none⟩ (.slice qb fR qd)) = yR1x23 at *
                  try simp only [Act.put, List.setIfInBounds_toArray, List.set_cons_zero, List.set_cons_succ]
                  change wpAnyH _ _ _ _ _ _ #[true, true, true, true, true, true, true, true, true, true, true, true, true, true, true, true, true, true, true, true, true, true, true, false] _ _
                  refine wpAnyH_take (i := 23) (v := ?vR1x24) (by (try simp only [List.getElem?_toArray, List.getElem?_cons_succ, List.getElem?_cons_zero]); rfl) (by kernel_rfl) (by kernel_rfl) (by kernel_rfl) (by exact fun _ _ _ h => h) (Or.inl ⟨by first | kernel_rfl | rfl, ?hyR1x24⟩) (by exact hS) ?rsR1x24
                  case hyR1x24 => (intro uz hSw; (try dsimp only at hSw); go_simp; try with_reducible rfl)
                  try simp only [Act.put, List.setIfInBounds_toArray, List.set_cons_zero, List.set_cons_succ]
                  change wpAnyH _ _ _ _ _ _ #[true, true, true, true, true, true, true, true, true, true, true, true, true, true, true, true, true, true, true, true, true, true, true, true] _ _
                  refine wpAnyH_done (by kernel_rfl) ?_ _
                  go_wp2_with fail
                  go_meet
                  exact ⟨bX, qa, qc, qb, qd, rfl, rfl, HE.out, HI7.out.lst, HF7.out.lst, hS⟩
                · go_simp
                  have hq := (Q.refl yR1x17).alloc (.cells #[.bool false, .slice none 0 0, .bool false, .slice none 0 0] 30)
                  have HBX := Lib.hid (Bk.new yR1x17 30 [.bool false, .slice none 0 0, .bool false, .slice none 0 0])
                  have HW_bX := Lib.hid (Q.le hS)
                  have hS2 := Q.trans hS hq
                  refine hK.out _ _ (by exact hS2) (fun hHeld => ?_)
                  clear hK K hHeld hS hq
                  have hS := hS2
                  clear hS2
                  generalize yR1x17.alloc (.cells #[.bool false, .slice none 0 0, .bool false, .slice none 0 0] 30) = yR1x25 at *
                  generalize yR1x17.heap.size = bX at *
                  try simp only [Act.put, List.setIfInBounds_toArray, List.set_cons_zero, List.set_cons_succ]
                  change wpAnyH _ _ _ _ _ _ #[true, true, true, true, true, true, true, true, true, true, true, true, true, true, true, true, true, false, false, false, false, true, false, false] _ _
                  refine wpAnyH_ready (rs := [17]) (by kernel_rfl) (by simp) ?_
                  refine (AllReadyH.cons (by (try simp only [List.getElem?_toArray, List.getElem?_cons_succ, List.getElem?_cons_zero]); rfl) (fun K hK => ?_) AllReadyH.nil)
                  go_simp
                  refine (HS1.out _ (HQ1.out.trans hS)).mono ?_
                  rintro e yR1x26 ⟨xo, rfl, ⟨qa, qc, qb, qd, rfl, ho1, ho2⟩, hq⟩
                  rw [HRL.out.1] at ho1 ⊢
                  rw [HRL.out.2] at ho2 ⊢
                  have HI7 := Lib.hid ho1
                  have HF7 := Lib.hid ho2
                  clear ho1 ho2
                  try (go_wp2_with fail)
                  have HBX := Lib.hid (Bk.q HBX.out hq)
                  have hS2 := Q.trans hS hq
                  refine hK.out _ _ (by exact hS2) (fun hHeld => ?_)
                  clear hK K hHeld hS hq
                  have hS := hS2
                  clear hS2
                  try simp only [Act.put, List.setIfInBounds_toArray, List.set_cons_zero, List.set_cons_succ]
                  change wpAnyH _ _ _ _ _ _ #[true, true, true, true, true, true, true, true, true, true, true, true, true, true, true, true, true, true, false, false, false, true, false, false] _ _
                  refine wpAnyH_take (i := 18) (v := ?vR1x27) (by (try simp only [List.getElem?_toArray, List.getElem?_cons_succ, List.getElem?_cons_zero]); rfl) (by kernel_rfl) (by kernel_rfl) (by kernel_rfl) (by exact fun _ _ _ h => h) (Or.inl ⟨by first | kernel_rfl | rfl, ?hyR1x27⟩) (by exact hS) ?rsR1x27
                  case hyR1x27 => (intro uz hSw; (try dsimp only at hSw); go_simp; try with_reducible rfl)
                  try simp only [Act.put, List.setIfInBounds_toArray, List.set_cons_zero, List.set_cons_succ]
                  change wpAnyH _ _ _ _ _ _ #[true, true, true, true, true, true, true, true, true, true, true, true, true, true, true, true, true, true, true, false, false, true, false, false] _ _
                  refine wpAnyH_take (i := 19) (v := ?vR1x28) (by (try simp only [List.getElem?_toArray, List.getElem?_cons_succ, List.getElem?_cons_zero]); rfl) (by kernel_rfl) (by kernel_rfl) (by kernel_rfl) (by exact fun _ _ _ h => h) (Or.inl ⟨by first | kernel_rfl | rfl, ?hyR1x28⟩) (by exact hS) ?rsR1x28
                  case hyR1x28 => (intro uz hSw; (try dsimp only at hSw); go_simp; try with_reducible rfl)
                  try simp only [Act.put, List.setIfInBounds_toArray, List.set_cons_zero, List.set_cons_succ]
                  change wpAnyH _ _ _ _ _ _ #[true, true, true, true, true, true, true, true, true, true, true, true, true, true, true, true, true, true, true, true, false, true, false, false] _ _
                  refine wpAnyH_take (i := 20) (v := ?vR1x29) (by (try simp only [List.getElem?_toArray, List.getElem?_cons_succ, List.getElem?_cons_zero]); rfl) (by kernel_rfl) (by kernel_rfl) (by kernel_rfl) (by exact fun _ _ _ h => h) (Or.inl ⟨by first | kernel_rfl | rfl, ?hyR1x29⟩) (by exact hS) ?rsR1x29
                  case hyR1x29 => (intro uz hSw; (try dsimp only at hSw); go_simp; try with_reducible rfl)
                  try simp only [Act.put, List.setIfInBounds_toArray, List.set_cons_zero, List.set_cons_succ]
                  change wpAnyH _ _ _ _ _ _ #[true, true, true, true, true, true, true, true, true, true, true, true, true, true, true, true, true, true, true, true, true, true, false, false] _ _
                  refine wpAnyH_ready (rs := [22]) (by kernel_rfl) (by simp) ?_
                  refine (AllReadyH.cons (by (try simp only [List.getElem?_toArray, List.getElem?_cons_succ, List.getElem?_cons_zero]); rfl) (fun K hK => ?_) AllReadyH.nil)
                  have b0 := HBX.out.cell 0 rfl
                  have f0 := HBX.out.free 0
                  have b1 := HBX.out.cell 1 rfl
                  have f1 := HBX.out.free 1
                  have b2 := HBX.out.cell 2 rfl
                  have f2 := HBX.out.free 2
                  have b3 := HBX.out.cell 3 rfl
                  have f3 := HBX.out.free 3
                  go_simp
                  have hS2 := (Q.setCell (Q.setCell (Q.setCell (Q.setCell hS (ad := ⟨bX, 0, none⟩) HW_bX.out (.bool R.g)) (ad := ⟨bX, 1, none⟩) HW_bX.out (.slice qa iR qc)) (ad := ⟨bX, 2, none⟩) HW_bX.out (.bool R.s)) (ad := ⟨bX, 3, none⟩) HW_bX.out (.slice qb fR qd))
                  have HE := Lib.hid ((((HBX.out.set 0 (.bool R.g)).set 1 (.slice qa iR qc)).set 2 (.bool R.s)).set 3 (.slice qb fR qd))
                  replace HI7 := Lib.hid (Tm.Own_past4 HI7.out HBX.out (by decide) (.bool R.g) (.slice qa iR qc) (.bool R.s) (.slice qb fR qd))
                  replace HF7 := Lib.hid (Tm.Own_past4 HF7.out HBX.out (by decide) (.bool R.g) (.slice qa iR qc) (.bool R.s) (.slice qb fR qd))
                  refine hK.out _ _ (by exact hS2) (fun hHeld => ?_)
                  clear hK K hHeld hS
                  have hS := hS2
                  clear hS2 b0 f0 b1 f1 b2 f2 b3 f3
                  generalize ((((yR1x26.setCell ⟨bX, 0, none⟩ (.bool R.g)).setCell ⟨bX, 1, none⟩ (.slice qa iR qc)).setCell ⟨bX, 2, none⟩ (.bool R.s)).setCell ⟨bX, 3, none⟩ (.slice qb fR qd)) = yR1x30 at *
                  try simp only [Act.put, List.setIfInBounds_toArray, List.set_cons_zero, List.set_cons_succ]
                  change wpAnyH _ _ _ _ _ _ #[true, true, true, true, true, true, true, true, true, true, true, true, true, true, true, true, true, true, true, true, true, true, true, false] _ _
                  refine wpAnyH_take (i := 23) (v := ?vR1x31) (by (try simp only [List.getElem?_toArray, List.getElem?_cons_succ, List.getElem?_cons_zero]); rfl) (by kernel_rfl) (by kernel_rfl) (by kernel_rfl) (by exact fun _ _ _ h => h) (Or.inl ⟨by first | kernel_rfl | rfl, ?hyR1x31⟩) (by exact hS) ?rsR1x31
                  case hyR1x31 => (intro uz hSw; (try dsimp only at hSw); go_simp; try with_reducible rfl)
                  try simp only [Act.put, List.setIfInBounds_toArray, List.set_cons_zero, List.set_cons_succ]
                  change wpAnyH _ _ _ _ _ _ #[true, true, true, true, true, true, true, true, true, true, true, true, true, true, true, true, true, true, true, true, true, true, true, true] _ _
                  refine wpAnyH_done (by kernel_rfl) ?_ _
                  go_wp2_with fail
                  go_meet
                  exact ⟨bX, qa, qc, qb, qd, rfl, rfl, HE.out, HI7.out.lst, HF7.out.lst, hS⟩
              · go_simp
                have hq := (Q.refl yR1x0).alloc (.cells #[.bool false, .slice none 0 0, .bool false, .slice none 0 0] 30)
                have HBX := Lib.hid (Bk.new yR1x0 30 [.bool false, .slice none 0 0, .bool false, .slice none 0 0])
                have HW_bX := Lib.hid (Q.le hS)
                have hS2 := Q.trans hS hq
                refine hK.out _ _ (by exact hS2) (fun hHeld => ?_)
                clear hK K hHeld hS hq
                have hS := hS2
                clear hS2
                generalize yR1x0.alloc (.cells #[.bool false, .slice none 0 0, .bool false, .slice none 0 0] 30) = yR1x32 at *
                generalize yR1x0.heap.size = bX at *
                try simp only [Act.put, List.setIfInBounds_toArray, List.set_cons_zero, List.set_cons_succ]
                change wpAnyH _ _ _ _ _ _ #[true, true, true, true, false, true, true, true, true, true, true, true, true, true, true, true, true, false, false, false, false, true, false, false] _ _
                refine wpAnyH_ready (rs := [4]) (by kernel_rfl) (by simp) ?_
                refine (AllReadyH.cons (by (try simp only [List.getElem?_toArray, List.getElem?_cons_succ, List.getElem?_cons_zero]); rfl) (fun K hK => ?_) AllReadyH.nil)
                go_simp
                refine (HOF.out _ _ _ _ _ _ _ _ _).mono ?_
                rintro e yR1x33 ⟨rfl, hq⟩
                try (go_wp2_with fail)
                have HBX := Lib.hid (Bk.q HBX.out hq)
                have hS2 := Q.trans hS hq
                refine hK.out _ _ (by exact hS2) (fun hHeld => ?_)
                clear hK K hHeld hS hq
                have hS := hS2
                clear hS2
                try simp only [Act.put, List.setIfInBounds_toArray, List.set_cons_zero, List.set_cons_succ]
                change wpAnyH _ _ _ _ _ _ #[true, true, true, true, true, true, true, true, true, true, true, true, true, true, true, true, true, false, false, false, false, true, false, false] _ _
                refine wpAnyH_ready (rs := [17]) (by kernel_rfl) (by simp) ?_
                refine (AllReadyH.cons (by (try simp only [List.getElem?_toArray, List.getElem?_cons_succ, List.getElem?_cons_zero]); rfl) (fun K hK => ?_) AllReadyH.nil)
                go_simp
                refine (HS1.out _ (HQ1.out.trans hS)).mono ?_
                rintro e yR1x34 ⟨xo, rfl, ⟨qa, qc, qb, qd, rfl, ho1, ho2⟩, hq⟩
                rw [HRL.out.1] at ho1 ⊢
                rw [HRL.out.2] at ho2 ⊢
                have HI7 := Lib.hid ho1
                have HF7 := Lib.hid ho2
                clear ho1 ho2
                try (go_wp2_with fail)
                have HBX := Lib.hid (Bk.q HBX.out hq)
                have hS2 := Q.trans hS hq
                refine hK.out _ _ (by exact hS2) (fun hHeld => ?_)
                clear hK K hHeld hS hq
                have hS := hS2
                clear hS2
                try simp only [Act.put, List.setIfInBounds_toArray, List.set_cons_zero, List.set_cons_succ]
                change wpAnyH _ _ _ _ _ _ #[true, true, true, true, true, true, true, true, true, true, true, true, true, true, true, true, true, true, false, false, false, true, false, false] _ _
                refine wpAnyH_take (i := 18) (v := ?vR1x35) (by (try simp only [List.getElem?_toArray, List.getElem?_cons_succ, List.getElem?_cons_zero]); rfl) (by kernel_rfl) (by kernel_rfl) (by kernel_rfl) (by exact fun _ _ _ h => h) (Or.inl ⟨by first | kernel_rfl | rfl, ?hyR1x35⟩) (by exact hS) ?rsR1x35
                case hyR1x35 => (intro uz hSw; (try dsimp only at hSw); go_simp; try with_reducible rfl)
                try simp only [Act.put, List.setIfInBounds_toArray, List.set_cons_zero, List.set_cons_succ]
                change wpAnyH _ _ _ _ _ _ #[true, true, true, true, true, true, true, true, true, true, true, true, true, true, true, true, true, true, true, false, false, true, false, false] _ _
                refine wpAnyH_take (i := 19) (v := ?vR1x36) (by (try simp only [List.getElem?_toArray, List.getElem?_cons_succ, List.getElem?_cons_zero]); rfl) (by kernel_rfl) (by kernel_rfl) (by kernel_rfl) (by exact fun _ _ _ h => h) (Or.inl ⟨by first | kernel_rfl | rfl, ?hyR1x36⟩) (by exact hS) ?rsR1x36
                case hyR1x36 => (intro uz hSw; (try dsimp only at hSw); go_simp; try with_reducible rfl)
                try simp only [Act.put, List.setIfInBounds_toArray, List.set_cons_zero, List.set_cons_succ]
                change wpAnyH _ _ _ _ _ _ #[true, true, true, true, true, true, true, true, true, true, true, true, true, true, true, true, true, true, true, true, false, true, false, false] _ _
                refine wpAnyH_take (i := 20) (v := ?vR1x37) (by (try simp only [List.getElem?_toArray, List.getElem?_cons_succ, List.getElem?_cons_zero]); rfl) (by kernel_rfl) (by kernel_rfl) (by kernel_rfl) (by exact fun _ _ _ h => h) (Or.inl ⟨by first | kernel_rfl | rfl, ?hyR1x37⟩) (by exact hS) ?rsR1x37
                case hyR1x37 => (intro uz hSw; (try dsimp only at hSw); go_simp; try with_reducible rfl)
                try simp only [Act.put, List.setIfInBounds_toArray, List.set_cons_zero, List.set_cons_succ]
                change wpAnyH _ _ _ _ _ _ #[true, true, true, true, true, true, true, true, true, true, true, true, true, true, true, true, true, true, true, true, true, true, false, false] _ _
                refine wpAnyH_ready (rs := [22]) (by kernel_rfl) (by simp) ?_
                refine (AllReadyH.cons (by (try simp only [List.getElem?_toArray, List.getElem?_cons_succ, List.getElem?_cons_zero]); rfl) (fun K hK => ?_) AllReadyH.nil)
                have b0 := HBX.out.cell 0 rfl
                have f0 := HBX.out.free 0
                have b1 := HBX.out.cell 1 rfl
                have f1 := HBX.out.free 1
                have b2 := HBX.out.cell 2 rfl
                have f2 := HBX.out.free 2
                have b3 := HBX.out.cell 3 rfl
                have f3 := HBX.out.free 3
                go_simp
                have hS2 := (Q.setCell (Q.setCell (Q.setCell (Q.setCell hS (ad := ⟨bX, 0, none⟩) HW_bX.out (.bool R.g)) (ad := ⟨bX, 1, none⟩) HW_bX.out (.slice qa iR qc)) (ad := ⟨bX, 2, none⟩) HW_bX.out (.bool R.s)) (ad := ⟨bX, 3, none⟩) HW_bX.out (.slice qb fR qd))
                have HE := Lib.hid ((((HBX.out.set 0 (.bool R.g)).set 1 (.slice qa iR qc)).set 2 (.bool R.s)).set 3 (.slice qb fR qd))
                replace HI7 := Lib.hid (Tm.Own_past4 HI7.out HBX.out (by decide) (.bool R.g) (.slice qa iR qc) (.bool R.s) (.slice qb fR qd))
                replace HF7 := Lib.hid (Tm.Own_past4 HF7.out HBX.out (by decide) (.bool R.g) (.slice qa iR qc) (.bool R.s) (.slice qb fR qd))
                refine hK.out _ _ (by exact hS2) (fun hHeld => ?_)
                clear hK K hHeld hS
                have hS := hS2
                clear hS2 b0 f0 b1 f1 b2 f2 b3 f3
                generalize ((((yR1x34.setCell ⟨bX, 0, none⟩ (.bool R.g)).setCell ⟨bX, 1, none⟩ (.slice qa iR qc)).setCell ⟨bX, 2, none⟩ (.bool R.s)).setCell ⟨bX, 3, none⟩ (.slice qb fR qd)) = yR1x38 at *
                try simp only [Act.put, List.setIfInBounds_toArray, List.set_cons_zero, List.set_cons_succ]
                change wpAnyH _ _ _ _ _ _ #[true, true, true, true, true, true, true, true, true, true, true, true, true, true, true, true, true, true, true, true, true, true, true, false] _ _
                refine wpAnyH_take (i := 23) (v := ?vR1x39) (by (try simp only [List.getElem?_toArray, List.getElem?_cons_succ, List.getElem?_cons_zero]); rfl) (by kernel_rfl) (by kernel_rfl) (by kernel_rfl) (by exact fun _ _ _ h => h) (Or.inl ⟨by first | kernel_rfl | rfl, ?hyR1x39⟩) (by exact hS) ?rsR1x39
                case hyR1x39 => (intro uz hSw; (try dsimp only at hSw); go_simp; try with_reducible rfl)
                try simp only [Act.put, List.setIfInBounds_toArray, List.set_cons_zero, List.set_cons_succ]
                change wpAnyH _ _ _ _ _ _ #[true, true, true, true, true, true, true, true, true, true, true, true, true, true, true, true, true, true, true, true, true, true, true, true] _ _
                refine wpAnyH_done (by kernel_rfl) ?_ _
                go_wp2_with fail
                go_meet
                exact ⟨bX, qa, qc, qb, qd, rfl, rfl, HE.out, HI7.out.lst, HF7.out.lst, hS⟩
            case rest =>
              obtain ⟨bpx, qapx, qcpx, qbpx, qdpx, rfl, rfl, hbx, hl1, hl2, hqc⟩ := hcut
              obtain ⟨z1, hz1⟩ : ∃ x, x = wc := ⟨_, rfl⟩
              subst hz1
              have HBpx := Lib.hid hbx
              have HIpx := Lib.hid hl1
              have HFpx := Lib.hid hl2
              have HQ2 := Lib.hid (HQ1.out.trans hqc)
              clear hbx hl1 hl2 hqc
              go_upto_region 15 with fail
              go_cut [22, 23] (fun p e wx => ∃ b qa qc qb qd, p = .pointer (some ⟨b, 0, none⟩) ∧ e = .int .i64 C ∧ Bk wx b 24 [.bool R.g, .slice qa iR qc, .bool R.s, .slice qb fR qd] ∧ Lst wx (.slice qa iR qc) R.i ∧ Lst wx (.slice qb fR qd) R.f ∧ Q z1 wx)
              case first =>
                refine wp_region_held_drew (S := fun u => Q z1 u) (by kernel_rfl) (by exact (Q.refl z1).drew) (fun hHeld => ?_)
                have hS : Q z1 z1.drew := hHeld
                clear hHeld
                have hq : Q z1 z1.drew := (Q.refl _).drew
                clear hq
                generalize z1.drew = yR2x0 at *
                change wpAnyH _ _ _ _ _ _ #[false, false, false, false, false, false, false, false, false, false, false, false, false, false, false, false, false, false, false, false, false, false, false] _ _
                refine wpAnyH_take (i := 0) (v := ?vR2x1) (by (try simp only [List.getElem?_toArray, List.getElem?_cons_succ, List.getElem?_cons_zero]); rfl) (by kernel_rfl) (by kernel_rfl) (by kernel_rfl) (by exact fun _ _ _ h => h) (Or.inl ⟨by first | kernel_rfl | rfl, ?hyR2x1⟩) (by exact hS) ?rsR2x1
                case hyR2x1 => (intro uz hSw; (try dsimp only at hSw); go_simp; try with_reducible rfl)
                try simp only [Act.put, List.setIfInBounds_toArray, List.set_cons_zero, List.set_cons_succ]
                change wpAnyH _ _ _ _ _ _ #[true, false, false, false, false, false, false, false, false, false, false, false, false, false, false, false, false, false, false, false, false, false, false] _ _
                refine wpAnyH_take (i := 1) (v := ?vR2x2) (by (try simp only [List.getElem?_toArray, List.getElem?_cons_succ, List.getElem?_cons_zero]); rfl) (by kernel_rfl) (by kernel_rfl) (by kernel_rfl) (by exact fun _ _ _ h => h) (Or.inl ⟨by first | kernel_rfl | rfl, ?hyR2x2⟩) (by exact hS) ?rsR2x2
                case hyR2x2 => (intro uz hSw; (try dsimp only at hSw); go_simp; try with_reducible rfl)
                try simp only [Act.put, List.setIfInBounds_toArray, List.set_cons_zero, List.set_cons_succ]
                change wpAnyH _ _ _ _ _ _ #[true, true, false, false, false, false, false, false, false, false, false, false, false, false, false, false, false, false, false, false, false, false, false] _ _
                refine wpAnyH_take (i := 2) (v := ?vR2x3) (by (try simp only [List.getElem?_toArray, List.getElem?_cons_succ, List.getElem?_cons_zero]); rfl) (by kernel_rfl) (by kernel_rfl) (by kernel_rfl) (by exact fun _ _ _ h => h) (Or.inl ⟨by first | kernel_rfl | rfl, ?hyR2x3⟩) (by exact hS) ?rsR2x3
                case hyR2x3 => (intro uz hSw; (try dsimp only at hSw); go_simp; try with_reducible rfl)
                try simp only [Act.put, List.setIfInBounds_toArray, List.set_cons_zero, List.set_cons_succ]
                change wpAnyH _ _ _ _ _ _ #[true, true, true, false, false, false, false, false, false, false, false, false, false, false, false, false, false, false, false, false, false, false, false] _ _
                refine wpAnyH_take (i := 3) (v := ?vR2x4) (by (try simp only [List.getElem?_toArray, List.getElem?_cons_succ, List.getElem?_cons_zero]); rfl) (by kernel_rfl) (by kernel_rfl) (by kernel_rfl) (by exact fun _ _ _ h => h) (Or.inl ⟨by first | kernel_rfl | rfl, ?hyR2x4⟩) (by exact hS) ?rsR2x4
                case hyR2x4 => (intro uz hSw; (try dsimp only at hSw); obtain ⟨d0, d1, d2, d3, d4, d5, d6⟩ := HC.out _ (HQ2.out.trans hSw); go_simp; try with_reducible rfl)
                try simp only [Act.put, List.setIfInBounds_toArray, List.set_cons_zero, List.set_cons_succ]
                change wpAnyH _ _ _ _ _ _ #[true, true, true, true, false, false, false, false, false, false, false, false, false, false, false, false, false, false, false, false, false, false, false] _ _
                refine wpAnyH_take (i := 4) (v := ?vR2x5) (by (try simp only [List.getElem?_toArray, List.getElem?_cons_succ, List.getElem?_cons_zero]); rfl) (by kernel_rfl) (by kernel_rfl) (by kernel_rfl) (by exact fun _ _ _ h => h) (Or.inl ⟨by first | kernel_rfl | rfl, ?hyR2x5⟩) (by exact hS) ?rsR2x5
                case hyR2x5 => (intro uz hSw; (try dsimp only at hSw); go_simp; try with_reducible rfl)
                try simp only [Act.put, List.setIfInBounds_toArray, List.set_cons_zero, List.set_cons_succ]
                change wpAnyH _ _ _ _ _ _ #[true, true, true, true, true, false, false, false, false, false, false, false, false, false, false, false, false, false, false, false, false, false, false] _ _
                refine wpAnyH_take (i := 5) (v := ?vR2x6) (by (try simp only [List.getElem?_toArray, List.getElem?_cons_succ, List.getElem?_cons_zero]); rfl) (by kernel_rfl) (by kernel_rfl) (by kernel_rfl) (by exact fun _ _ _ h => h) (Or.inl ⟨by first | kernel_rfl | rfl, ?hyR2x6⟩) (by exact hS) ?rsR2x6
                case hyR2x6 => (intro uz hSw; (try dsimp only at hSw); go_simp; try with_reducible rfl)
                try simp only [Act.put, List.setIfInBounds_toArray, List.set_cons_zero, List.set_cons_succ]
                change wpAnyH _ _ _ _ _ _ #[true, true, true, true, true, true, false, false, false, false, false, false, false, false, false, false, false, false, false, false, false, false, false] _ _
                refine wpAnyH_take (i := 6) (v := ?vR2x7) (by (try simp only [List.getElem?_toArray, List.getElem?_cons_succ, List.getElem?_cons_zero]); rfl) (by kernel_rfl) (by kernel_rfl) (by kernel_rfl) (by exact fun _ _ _ h => h) (Or.inl ⟨by first | kernel_rfl | rfl, ?hyR2x7⟩) (by exact hS) ?rsR2x7
                case hyR2x7 => (intro uz hSw; (try dsimp only at hSw); go_simp; try with_reducible rfl)
                try simp only [Act.put, List.setIfInBounds_toArray, List.set_cons_zero, List.set_cons_succ]
                change wpAnyH _ _ _ _ _ _ #[true, true, true, true, true, true, true, false, false, false, false, false, false, false, false, false, false, false, false, false, false, false, false] _ _
                refine wpAnyH_take (i := 7) (v := ?vR2x8) (by (try simp only [List.getElem?_toArray, List.getElem?_cons_succ, List.getElem?_cons_zero]); rfl) (by kernel_rfl) (by kernel_rfl) (by kernel_rfl) (by exact fun _ _ _ h => h) (Or.inl ⟨by first | kernel_rfl | rfl, ?hyR2x8⟩) (by exact hS) ?rsR2x8
                case hyR2x8 => (intro uz hSw; (try dsimp only at hSw); obtain ⟨d0, d1, d2, d3, d4, d5, d6⟩ := HC.out _ (HQ2.out.trans hSw); go_simp; try with_reducible rfl)
                try simp only [Act.put, List.setIfInBounds_toArray, List.set_cons_zero, List.set_cons_succ]
                change wpAnyH _ _ _ _ _ _ #[true, true, true, true, true, true, true, true, false, false, false, false, false, false, false, false, false, false, false, false, false, false, false] _ _
                refine wpAnyH_take (i := 8) (v := ?vR2x9) (by (try simp only [List.getElem?_toArray, List.getElem?_cons_succ, List.getElem?_cons_zero]); rfl) (by kernel_rfl) (by kernel_rfl) (by kernel_rfl) (by exact fun _ _ _ h => h) (Or.inl ⟨by first | kernel_rfl | rfl, ?hyR2x9⟩) (by exact hS) ?rsR2x9
                case hyR2x9 => (intro uz hSw; (try dsimp only at hSw); go_simp; try with_reducible rfl)
                try simp only [Act.put, List.setIfInBounds_toArray, List.set_cons_zero, List.set_cons_succ]
                change wpAnyH _ _ _ _ _ _ #[true, true, true, true, true, true, true, true, true, false, false, false, false, false, false, false, false, false, false, false, false, false, false] _ _
                refine wpAnyH_take (i := 9) (v := ?vR2x10) (by (try simp only [List.getElem?_toArray, List.getElem?_cons_succ, List.getElem?_cons_zero]); rfl) (by kernel_rfl) (by kernel_rfl) (by kernel_rfl) (by exact fun _ _ _ h => h) (Or.inl ⟨by first | kernel_rfl | rfl, ?hyR2x10⟩) (by exact hS) ?rsR2x10
                case hyR2x10 => (intro uz hSw; (try dsimp only at hSw); go_simp; try with_reducible rfl)
                try simp only [Act.put, List.setIfInBounds_toArray, List.set_cons_zero, List.set_cons_succ]
                change wpAnyH _ _ _ _ _ _ #[true, true, true, true, true, true, true, true, true, true, false, false, false, false, false, false, false, false, false, false, false, false, false] _ _
                refine wpAnyH_take (i := 10) (v := ?vR2x11) (by (try simp only [List.getElem?_toArray, List.getElem?_cons_succ, List.getElem?_cons_zero]); rfl) (by kernel_rfl) (by kernel_rfl) (by kernel_rfl) (by exact fun _ _ _ h => h) (Or.inl ⟨by first | kernel_rfl | rfl, ?hyR2x11⟩) (by exact hS) ?rsR2x11
                case hyR2x11 => (intro uz hSw; (try dsimp only at hSw); go_simp; try with_reducible rfl)
                try simp only [Act.put, List.setIfInBounds_toArray, List.set_cons_zero, List.set_cons_succ]
                change wpAnyH _ _ _ _ _ _ #[true, true, true, true, true, true, true, true, true, true, true, false, false, false, false, false, false, false, false, false, false, false, false] _ _
                refine wpAnyH_take (i := 11) (v := ?vR2x12) (by (try simp only [List.getElem?_toArray, List.getElem?_cons_succ, List.getElem?_cons_zero]); rfl) (by kernel_rfl) (by kernel_rfl) (by kernel_rfl) (by exact fun _ _ _ h => h) (Or.inl ⟨by first | kernel_rfl | rfl, ?hyR2x12⟩) (by exact hS) ?rsR2x12
                case hyR2x12 => (intro uz hSw; (try dsimp only at hSw); obtain ⟨d0, d1, d2, d3, d4, d5, d6⟩ := HC.out _ (HQ2.out.trans hSw); go_simp; try with_reducible rfl)
                try simp only [Act.put, List.setIfInBounds_toArray, List.set_cons_zero, List.set_cons_succ]
                change wpAnyH _ _ _ _ _ _ #[true, true, true, true, true, true, true, true, true, true, true, true, false, false, false, false, false, false, false, false, false, false, false] _ _
                refine wpAnyH_take (i := 12) (v := ?vR2x13) (by (try simp only [List.getElem?_toArray, List.getElem?_cons_succ, List.getElem?_cons_zero]); rfl) (by kernel_rfl) (by kernel_rfl) (by kernel_rfl) (by exact fun _ _ _ h => h) (Or.inl ⟨by first | kernel_rfl | rfl, ?hyR2x13⟩) (by exact hS) ?rsR2x13
                case hyR2x13 => (intro uz hSw; (try dsimp only at hSw); go_simp; try with_reducible rfl)
                try simp only [Act.put, List.setIfInBounds_toArray, List.set_cons_zero, List.set_cons_succ]
                change wpAnyH _ _ _ _ _ _ #[true, true, true, true, true, true, true, true, true, true, true, true, true, false, false, false, false, false, false, false, false, false, false] _ _
                refine wpAnyH_take (i := 13) (v := ?vR2x14) (by (try simp only [List.getElem?_toArray, List.getElem?_cons_succ, List.getElem?_cons_zero]); rfl) (by kernel_rfl) (by kernel_rfl) (by kernel_rfl) (by exact fun _ _ _ h => h) (Or.inl ⟨by first | kernel_rfl | rfl, ?hyR2x14⟩) (by exact hS) ?rsR2x14
                case hyR2x14 => (intro uz hSw; (try dsimp only at hSw); go_simp; try with_reducible rfl)
                try simp only [Act.put, List.setIfInBounds_toArray, List.set_cons_zero, List.set_cons_succ]
                change wpAnyH _ _ _ _ _ _ #[true, true, true, true, true, true, true, true, true, true, true, true, true, true, false, false, false, false, false, false, false, false, false] _ _
                refine wpAnyH_take (i := 14) (v := ?vR2x15) (by (try simp only [List.getElem?_toArray, List.getElem?_cons_succ, List.getElem?_cons_zero]); rfl) (by kernel_rfl) (by kernel_rfl) (by kernel_rfl) (by exact fun _ _ _ h => h) (Or.inl ⟨by first | kernel_rfl | rfl, ?hyR2x15⟩) (by exact hS) ?rsR2x15
                case hyR2x15 => (intro uz hSw; (try dsimp only at hSw); go_simp; try with_reducible rfl)
                try simp only [Act.put, List.setIfInBounds_toArray, List.set_cons_zero, List.set_cons_succ]
                change wpAnyH _ _ _ _ _ _ #[true, true, true, true, true, true, true, true, true, true, true, true, true, true, true, false, false, false, false, false, false, false, false] _ _
                refine wpAnyH_take (i := 15) (v := ?vR2x16) (by (try simp only [List.getElem?_toArray, List.getElem?_cons_succ, List.getElem?_cons_zero]); rfl) (by kernel_rfl) (by kernel_rfl) (by kernel_rfl) (by exact fun _ _ _ h => h) (Or.inl ⟨by first | kernel_rfl | rfl, ?hyR2x16⟩) (by exact hS) ?rsR2x16
                case hyR2x16 => (intro uz hSw; (try dsimp only at hSw); obtain ⟨d0, d1, d2, d3, d4, d5, d6⟩ := HC.out _ (HQ2.out.trans hSw); go_simp; try with_reducible rfl)
                try simp only [Act.put, List.setIfInBounds_toArray, List.set_cons_zero, List.set_cons_succ]
                change wpAnyH _ _ _ _ _ _ #[true, true, true, true, true, true, true, true, true, true, true, true, true, true, true, true, false, false, false, false, false, false, false] _ _
                refine wpAnyH_ready (rs := [16, 20]) (by kernel_rfl) (by simp) ?_
                refine (AllReadyH.cons (by (try simp only [List.getElem?_toArray, List.getElem?_cons_succ, List.getElem?_cons_zero]); rfl) (fun K hK => ?_) (AllReadyH.cons (by (try simp only [List.getElem?_toArray, List.getElem?_cons_succ, List.getElem?_cons_zero]); rfl) (fun K hK => ?_) AllReadyH.nil))
                · go_simp
                  refine (HS2.out _ (HQ2.out.trans hS)).mono ?_
                  rintro e yR2x17 ⟨xo, rfl, ⟨qa, qc, qb, qd, rfl, ho1, ho2⟩, hq⟩
                  rw [HRL.out.1] at ho1 ⊢
                  rw [HRL.out.2] at ho2 ⊢
                  have HI7 := Lib.hid ho1
                  have HF7 := Lib.hid ho2
                  clear ho1 ho2
                  try (go_wp2_with fail)
                  have hS2 := Q.trans hS hq
                  refine hK.out _ _ (by exact hS2) (fun hHeld => ?_)
                  clear hK K hHeld hS hq
                  have hS := hS2
                  clear hS2
                  try simp only [Act.put, List.setIfInBounds_toArray, List.set_cons_zero, List.set_cons_succ]
                  change wpAnyH _ _ _ _ _ _ #[true, true, true, true, true, true, true, true, true, true, true, true, true, true, true, true, true, false, false, false, false, false, false] _ _
                  refine wpAnyH_take (i := 17) (v := ?vR2x18) (by (try simp only [List.getElem?_toArray, List.getElem?_cons_succ, List.getElem?_cons_zero]); rfl) (by kernel_rfl) (by kernel_rfl) (by kernel_rfl) (by exact fun _ _ _ h => h) (Or.inl ⟨by first | kernel_rfl | rfl, ?hyR2x18⟩) (by exact hS) ?rsR2x18
                  case hyR2x18 => (intro uz hSw; (try dsimp only at hSw); go_simp; try with_reducible rfl)
                  try simp only [Act.put, List.setIfInBounds_toArray, List.set_cons_zero, List.set_cons_succ]
                  change wpAnyH _ _ _ _ _ _ #[true, true, true, true, true, true, true, true, true, true, true, true, true, true, true, true, true, true, false, false, false, false, false] _ _
                  refine wpAnyH_take (i := 18) (v := ?vR2x19) (by (try simp only [List.getElem?_toArray, List.getElem?_cons_succ, List.getElem?_cons_zero]); rfl) (by kernel_rfl) (by kernel_rfl) (by kernel_rfl) (by exact fun _ _ _ h => h) (Or.inl ⟨by first | kernel_rfl | rfl, ?hyR2x19⟩) (by exact hS) ?rsR2x19
                  case hyR2x19 => (intro uz hSw; (try dsimp only at hSw); go_simp; try with_reducible rfl)
                  try simp only [Act.put, List.setIfInBounds_toArray, List.set_cons_zero, List.set_cons_succ]
                  change wpAnyH _ _ _ _ _ _ #[true, true, true, true, true, true, true, true, true, true, true, true, true, true, true, true, true, true, true, false, false, false, false] _ _
                  refine wpAnyH_take (i := 19) (v := ?vR2x20) (by (try simp only [List.getElem?_toArray, List.getElem?_cons_succ, List.getElem?_cons_zero]); rfl) (by kernel_rfl) (by kernel_rfl) (by kernel_rfl) (by exact fun _ _ _ h => h) (Or.inl ⟨by first | kernel_rfl | rfl, ?hyR2x20⟩) (by exact hS) ?rsR2x20
                  case hyR2x20 => (intro uz hSw; (try dsimp only at hSw); go_simp; try with_reducible rfl)
                  try simp only [Act.put, List.setIfInBounds_toArray, List.set_cons_zero, List.set_cons_succ]
                  change wpAnyH _ _ _ _ _ _ #[true, true, true, true, true, true, true, true, true, true, true, true, true, true, true, true, true, true, true, true, false, false, false] _ _
                  refine wpAnyH_ready (rs := [20]) (by kernel_rfl) (by simp) ?_
                  refine (AllReadyH.cons (by (try simp only [List.getElem?_toArray, List.getElem?_cons_succ, List.getElem?_cons_zero]); rfl) (fun K hK => ?_) AllReadyH.nil)
                  go_simp
                  have hq := (Q.refl yR2x17).alloc (.cells #[.bool false, .slice none 0 0, .bool false, .slice none 0 0] 24)
                  have HBX := Lib.hid (Bk.new yR2x17 24 [.bool false, .slice none 0 0, .bool false, .slice none 0 0])
                  have HW_bX := Lib.hid (Q.le hS)
                  have HI7 := Lib.hid (Own.q HI7.out hq)
                  have HF7 := Lib.hid (Own.q HF7.out hq)
                  have hS2 := Q.trans hS hq
                  refine hK.out _ _ (by exact hS2) (fun hHeld => ?_)
                  clear hK K hHeld hS hq
                  have hS := hS2
                  clear hS2
                  generalize yR2x17.alloc (.cells #[.bool false, .slice none 0 0, .bool false, .slice none 0 0] 24) = yR2x21 at *
                  generalize yR2x17.heap.size = bX at *
                  try simp only [Act.put, List.setIfInBounds_toArray, List.set_cons_zero, List.set_cons_succ]
                  change wpAnyH _ _ _ _ _ _ #[true, true, true, true, true, true, true, true, true, true, true, true, true, true, true, true, true, true, true, true, true, false, false] _ _
                  refine wpAnyH_ready (rs := [21]) (by kernel_rfl) (by simp) ?_
                  refine (AllReadyH.cons (by (try simp only [List.getElem?_toArray, List.getElem?_cons_succ, List.getElem?_cons_zero]); rfl) (fun K hK => ?_) AllReadyH.nil)
                  have b0 := HBX.out.cell 0 rfl
                  have f0 := HBX.out.free 0
                  have b1 := HBX.out.cell 1 rfl
                  have f1 := HBX.out.free 1
                  have b2 := HBX.out.cell 2 rfl
                  have f2 := HBX.out.free 2
                  have b3 := HBX.out.cell 3 rfl
                  have f3 := HBX.out.free 3
                  go_simp
                  have hS2 := (Q.setCell (Q.setCell (Q.setCell (Q.setCell hS (ad := ⟨bX, 0, none⟩) HW_bX.out (.bool R.g)) (ad := ⟨bX, 1, none⟩) HW_bX.out (.slice qa iR qc)) (ad := ⟨bX, 2, none⟩) HW_bX.out (.bool R.s)) (ad := ⟨bX, 3, none⟩) HW_bX.out (.slice qb fR qd))
                  have HE := Lib.hid ((((HBX.out.set 0 (.bool R.g)).set 1 (.slice qa iR qc)).set 2 (.bool R.s)).set 3 (.slice qb fR qd))
                  replace HI7 := Lib.hid (Tm.Own_past4 HI7.out HBX.out (by decide) (.bool R.g) (.slice qa iR qc) (.bool R.s) (.slice qb fR qd))
                  replace HF7 := Lib.hid (Tm.Own_past4 HF7.out HBX.out (by decide) (.bool R.g) (.slice qa iR qc) (.bool R.s) (.slice qb fR qd))
                  refine hK.out _ _ (by exact hS2) (fun hHeld => ?_)
                  clear hK K hHeld hS
                  have hS := hS2
                  clear hS2 b0 f0 b1 f1 b2 f2 b3 f3
                  generalize ((((yR2x21.setCell ⟨bX, 0, none⟩ (.bool R.g)).setCell ⟨bX, 1, none⟩ (.slice qa iR qc)).setCell ⟨bX, 2, none⟩ (.bool R.s)).setCell ⟨bX, 3, none⟩ (.slice qb fR qd)) = yR2x22 at *
                  try simp only [Act.put, List.setIfInBounds_toArray, List.set_cons_zero, List.set_cons_succ]
                  change wpAnyH _ _ _ _ _ _ #[true, true, true, true, true, true, true, true, true, true, true, true, true, true, true, true, true, true, true, true, true, true, false] _ _
                  refine wpAnyH_take (i := 22) (v := ?vR2x23) (by (try simp only [List.getElem?_toArray, List.getElem?_cons_succ, List.getElem?_cons_zero]); rfl) (by kernel_rfl) (by kernel_rfl) (by kernel_rfl) (by exact fun _ _ _ h => h) (Or.inl ⟨by first | kernel_rfl | rfl, ?hyR2x23⟩) (by exact hS) ?rsR2x23
                  case hyR2x23 => (intro uz hSw; (try dsimp only at hSw); go_simp; try with_reducible rfl)
                  try simp only [Act.put, List.setIfInBounds_toArray, List.set_cons_zero, List.set_cons_succ]
                  change wpAnyH _ _ _ _ _ _ #[true, true, true, true, true, true, true, true, true, true, true, true, true, true, true, true, true, true, true, true, true, true, true] _ _
                  refine wpAnyH_done (by kernel_rfl) ?_ _
                  go_wp2_with fail
                  go_meet
                  exact ⟨bX, qa, qc, qb, qd, rfl, rfl, HE.out, HI7.out.lst, HF7.out.lst, hS⟩
                · go_simp
                  have hq := (Q.refl yR2x0).alloc (.cells #[.bool false, .slice none 0 0, .bool false, .slice none 0 0] 24)
                  have HBX := Lib.hid (Bk.new yR2x0 24 [.bool false, .slice none 0 0, .bool false, .slice none 0 0])
                  have HW_bX := Lib.hid (Q.le hS)
                  have hS2 := Q.trans hS hq
                  refine hK.out _ _ (by exact hS2) (fun hHeld => ?_)
                  clear hK K hHeld hS hq
                  have hS := hS2
                  clear hS2
                  generalize yR2x0.alloc (.cells #[.bool false, .slice none 0 0, .bool false, .slice none 0 0] 24) = yR2x24 at *
                  generalize yR2x0.heap.size = bX at *
                  try simp only [Act.put, List.setIfInBounds_toArray, List.set_cons_zero, List.set_cons_succ]
                  change wpAnyH _ _ _ _ _ _ #[true, true, true, true, true, true, true, true, true, true, true, true, true, true, true, true, false, false, false, false, true, false, false] _ _
                  refine wpAnyH_ready (rs := [16]) (by kernel_rfl) (by simp) ?_
                  refine (AllReadyH.cons (by (try simp only [List.getElem?_toArray, List.getElem?_cons_succ, List.getElem?_cons_zero]); rfl) (fun K hK => ?_) AllReadyH.nil)
                  go_simp
                  refine (HS2.out _ (HQ2.out.trans hS)).mono ?_
                  rintro e yR2x25 ⟨xo, rfl, ⟨qa, qc, qb, qd, rfl, ho1, ho2⟩, hq⟩
                  rw [HRL.out.1] at ho1 ⊢
                  rw [HRL.out.2] at ho2 ⊢
                  have HI7 := Lib.hid ho1
                  have HF7 := Lib.hid ho2
                  clear ho1 ho2
                  try (go_wp2_with fail)
                  have HBX := Lib.hid (Bk.q HBX.out hq)
                  have hS2 := Q.trans hS hq
                  refine hK.out _ _ (by exact hS2) (fun hHeld => ?_)
                  clear hK K hHeld hS hq
                  have hS := hS2
                  clear hS2
                  try simp only [Act.put, List.setIfInBounds_toArray, List.set_cons_zero, List.set_cons_succ]
                  change wpAnyH _ _ _ _ _ _ #[true, true, true, true, true, true, true, true, true, true, true, true, true, true, true, true, true, false, false, false, true, false, false] _ _
                  refine wpAnyH_take (i := 17) (v := ?vR2x26) (by (try simp only [List.getElem?_toArray, List.getElem?_cons_succ, List.getElem?_cons_zero]); rfl) (by kernel_rfl) (by kernel_rfl) (by kernel_rfl) (by exact fun _ _ _ h => h) (Or.inl ⟨by first | kernel_rfl | rfl, ?hyR2x26⟩) (by exact hS) ?rsR2x26
                  case hyR2x26 => (intro uz hSw; (try dsimp only at hSw); go_simp; try with_reducible rfl)
                  try simp only [Act.put, List.setIfInBounds_toArray, List.set_cons_zero, List.set_cons_succ]
                  change wpAnyH _ _ _ _ _ _ #[true, true, true, true, true, true, true, true, true, true, true, true, true, true, true, true, true, true, false, false, true, false, false] _ _
                  refine wpAnyH_take (i := 18) (v := ?vR2x27) (by (try simp only [List.getElem?_toArray, List.getElem?_cons_succ, List.getElem?_cons_zero]); rfl) (by kernel_rfl) (by kernel_rfl) (by kernel_rfl) (by exact fun _ _ _ h => h) (Or.inl ⟨by first | kernel_rfl | rfl, ?hyR2x27⟩) (by exact hS) ?rsR2x27
                  case hyR2x27 => (intro uz hSw; (try dsimp only at hSw); go_simp; try with_reducible rfl)
                  try simp only [Act.put, List.setIfInBounds_toArray, List.set_cons_zero, List.set_cons_succ]
                  change wpAnyH _ _ _ _ _ _ #[true, true, true, true, true, true, true, true, true, true, true, true, true, true, true, true, true, true, true, false, true, false, false] _ _
                  refine wpAnyH_take (i := 19) (v := ?vR2x28) (by (try simp only [List.getElem?_toArray, List.getElem?_cons_succ, List.getElem?_cons_zero]); rfl) (by kernel_rfl) (by kernel_rfl) (by kernel_rfl) (by exact fun _ _ _ h => h) (Or.inl ⟨by first | kernel_rfl | rfl, ?hyR2x28⟩) (by exact hS) ?rsR2x28
                  case hyR2x28 => (intro uz hSw; (try dsimp only at hSw); go_simp; try with_reducible rfl)
                  try simp only [Act.put, List.setIfInBounds_toArray, List.set_cons_zero, List.set_cons_succ]
                  change wpAnyH _ _ _ _ _ _ #[true, true, true, true, true, true, true, true, true, true, true, true, true, true, true, true, true, true, true, true, true, false, false] _ _
                  refine wpAnyH_ready (rs := [21]) (by kernel_rfl) (by simp) ?_
                  refine (AllReadyH.cons (by (try simp only [List.getElem?_toArray, List.getElem?_cons_succ, List.getElem?_cons_zero]); rfl) (fun K hK => ?_) AllReadyH.nil)
                  have b0 := HBX.out.cell 0 rfl
                  have f0 := HBX.out.free 0
                  have b1 := HBX.out.cell 1 rfl
                  have f1 := HBX.out.free 1
                  have b2 := HBX.out.cell 2 rfl
                  have f2 := HBX.out.free 2
                  have b3 := HBX.out.cell 3 rfl
                  have f3 := HBX.out.free 3
                  go_simp
                  have hS2 := (Q.setCell (Q.setCell (Q.setCell (Q.setCell hS (ad := ⟨bX, 0, none⟩) HW_bX.out (.bool R.g)) (ad := ⟨bX, 1, none⟩) HW_bX.out (.slice qa iR qc)) (ad := ⟨bX, 2, none⟩) HW_bX.out (.bool R.s)) (ad := ⟨bX, 3, none⟩) HW_bX.out (.slice qb fR qd))
                  have HE := Lib.hid ((((HBX.out.set 0 (.bool R.g)).set 1 (.slice qa iR qc)).set 2 (.bool R.s)).set 3 (.slice qb fR qd))
                  replace HI7 := Lib.hid (Tm.Own_past4 HI7.out HBX.out (by decide) (.bool R.g) (.slice qa iR qc) (.bool R.s) (.slice qb fR qd))
                  replace HF7 := Lib.hid (Tm.Own_past4 HF7.out HBX.out (by decide) (.bool R.g) (.slice qa iR qc) (.bool R.s) (.slice qb fR qd))
                  refine hK.out _ _ (by exact hS2) (fun hHeld => ?_)
                  clear hK K hHeld hS
                  have hS := hS2
                  clear hS2 b0 f0 b1 f1 b2 f2 b3 f3
                  generalize ((((yR2x25.setCell ⟨bX, 0, none⟩ (.bool R.g)).setCell ⟨bX, 1, none⟩ (.slice qa iR qc)).setCell ⟨bX, 2, none⟩ (.bool R.s)).setCell ⟨bX, 3, none⟩ (.slice qb fR qd)) = yR2x29 at *
                  try simp only [Act.put, List.setIfInBounds_toArray, List.set_cons_zero, List.set_cons_succ]
                  change wpAnyH _ _ _ _ _ _ #[true, true, true, true, true, true, true, true, true, true, true, true, true, true, true, true, true, true, true, true, true, true, false] _ _
                  refine wpAnyH_take (i := 22) (v := ?vR2x30) (by (try simp only [List.getElem?_toArray, List.getElem?_cons_succ, List.getElem?_cons_zero]); rfl) (by kernel_rfl) (by kernel_rfl) (by kernel_rfl) (by exact fun _ _ _ h => h) (Or.inl ⟨by first | kernel_rfl | rfl, ?hyR2x30⟩) (by exact hS) ?rsR2x30
                  case hyR2x30 => (intro uz hSw; (try dsimp only at hSw); go_simp; try with_reducible rfl)
                  try simp only [Act.put, List.setIfInBounds_toArray, List.set_cons_zero, List.set_cons_succ]
                  change wpAnyH _ _ _ _ _ _ #[true, true, true, true, true, true, true, true, true, true, true, true, true, true, true, true, true, true, true, true, true, true, true] _ _
                  refine wpAnyH_done (by kernel_rfl) ?_ _
                  go_wp2_with fail
                  go_meet
                  exact ⟨bX, qa, qc, qb, qd, rfl, rfl, HE.out, HI7.out.lst, HF7.out.lst, hS⟩
              case rest =>
                obtain ⟨bpy, qapy, qcpy, qbpy, qdpy, rfl, rfl, hbx, hl1, hl2, hqc⟩ := hcut
                obtain ⟨z2, hz2⟩ : ∃ x, x = wc := ⟨_, rfl⟩
                subst hz2
                replace HBpx := Lib.hid (Bk.q HBpx.out hqc)
                replace HIpx := Lib.hid (Lst.q HIpx.out hqc)
                replace HFpx := Lib.hid (Lst.q HFpx.out hqc)
                replace HQ2 := Lib.hid (Q.trans HQ2.out hqc)
                have HBpy := Lib.hid hbx
                have HIpy := Lib.hid hl1
                have HFpy := Lib.hid hl2
                clear hbx hl1 hl2 hqc
                go_upto_region 16 with fail
                refine wp_region_held_drew (S := fun u => Q z2 u) (by kernel_rfl) (by exact (Q.refl z2).drew) (fun hHeld => ?_)
                have hS : Q z2 z2.drew := hHeld
                clear hHeld
                have hq : Q z2 z2.drew := (Q.refl _).drew
                clear hq
                generalize z2.drew = yR3x0 at *
                change wpAnyH _ _ _ _ _ _ #[false, false, false, false, false, false, false, false, false, false] _ _
                refine wpAnyH_take (i := 0) (v := ?vR3x1) (by (try simp only [List.getElem?_toArray, List.getElem?_cons_succ, List.getElem?_cons_zero]); rfl) (by kernel_rfl) (by kernel_rfl) (by kernel_rfl) (by exact fun _ _ _ h => h) (Or.inl ⟨by first | kernel_rfl | rfl, ?hyR3x1⟩) (by exact hS) ?rsR3x1
                case hyR3x1 => (intro uz hSw; (try dsimp only at hSw); go_simp; try with_reducible rfl)
                try simp only [Act.put, List.setIfInBounds_toArray, List.set_cons_zero, List.set_cons_succ]
                change wpAnyH _ _ _ _ _ _ #[true, false, false, false, false, false, false, false, false, false] _ _
                refine wpAnyH_take (i := 1) (v := ?vR3x2) (by (try simp only [List.getElem?_toArray, List.getElem?_cons_succ, List.getElem?_cons_zero]); rfl) (by kernel_rfl) (by kernel_rfl) (by kernel_rfl) (by exact fun _ _ _ h => h) (Or.inl ⟨by first | kernel_rfl | rfl, ?hyR3x2⟩) (by exact hS) ?rsR3x2
                case hyR3x2 => (intro uz hSw; (try dsimp only at hSw); go_simp; try with_reducible rfl)
                try simp only [Act.put, List.setIfInBounds_toArray, List.set_cons_zero, List.set_cons_succ]
                change wpAnyH _ _ _ _ _ _ #[true, true, false, false, false, false, false, false, false, false] _ _
                refine wpAnyH_take (i := 2) (v := ?vR3x3) (by (try simp only [List.getElem?_toArray, List.getElem?_cons_succ, List.getElem?_cons_zero]); rfl) (by kernel_rfl) (by kernel_rfl) (by kernel_rfl) (by exact fun _ _ _ h => h) (Or.inl ⟨by first | kernel_rfl | rfl, ?hyR3x3⟩) (by exact hS) ?rsR3x3
                case hyR3x3 => (intro uz hSw; (try dsimp only at hSw); go_simp; try with_reducible rfl)
                try simp only [Act.put, List.setIfInBounds_toArray, List.set_cons_zero, List.set_cons_succ]
                change wpAnyH _ _ _ _ _ _ #[true, true, true, false, false, false, false, false, false, false] _ _
                refine wpAnyH_take (i := 3) (v := ?vR3x4) (by (try simp only [List.getElem?_toArray, List.getElem?_cons_succ, List.getElem?_cons_zero]); rfl) (by kernel_rfl) (by kernel_rfl) (by kernel_rfl) (by exact fun _ _ _ h => h) (Or.inl ⟨by first | kernel_rfl | rfl, ?hyR3x4⟩) (by exact hS) ?rsR3x4
                case hyR3x4 => (intro uz hSw; (try dsimp only at hSw); go_simp; try with_reducible rfl)
                try simp only [Act.put, List.setIfInBounds_toArray, List.set_cons_zero, List.set_cons_succ]
                change wpAnyH _ _ _ _ _ _ #[true, true, true, true, false, false, false, false, false, false] _ _
                refine wpAnyH_take (i := 4) (v := ?vR3x5) (by (try simp only [List.getElem?_toArray, List.getElem?_cons_succ, List.getElem?_cons_zero]); rfl) (by kernel_rfl) (by kernel_rfl) (by kernel_rfl) (by exact fun _ _ _ h => h) (Or.inl ⟨by first | kernel_rfl | rfl, ?hyR3x5⟩) (by exact hS) ?rsR3x5
                case hyR3x5 => (intro uz hSw; (try dsimp only at hSw); have hxx := HBpx.out.q hSw; have d0 := hxx.cell 0 rfl; have d1 := hxx.cell 1 rfl; have d2 := hxx.cell 2 rfl; have d3 := hxx.cell 3 rfl; clear hxx; go_simp; try with_reducible rfl)
                try simp only [Act.put, List.setIfInBounds_toArray, List.set_cons_zero, List.set_cons_succ]
                change wpAnyH _ _ _ _ _ _ #[true, true, true, true, true, false, false, false, false, false] _ _
                refine wpAnyH_take (i := 6) (v := ?vR3x6) (by (try simp only [List.getElem?_toArray, List.getElem?_cons_succ, List.getElem?_cons_zero]); rfl) (by kernel_rfl) (by kernel_rfl) (by kernel_rfl) (by exact fun _ _ _ h => h) (Or.inl ⟨by first | kernel_rfl | rfl, ?hyR3x6⟩) (by exact hS) ?rsR3x6
                case hyR3x6 => (intro uz hSw; (try dsimp only at hSw); have hxx := HBpy.out.q hSw; have d0 := hxx.cell 0 rfl; have d1 := hxx.cell 1 rfl; have d2 := hxx.cell 2 rfl; have d3 := hxx.cell 3 rfl; clear hxx; go_simp; try with_reducible rfl)
                try simp only [Act.put, List.setIfInBounds_toArray, List.set_cons_zero, List.set_cons_succ]
                change wpAnyH _ _ _ _ _ _ #[true, true, true, true, true, false, true, false, false, false] _ _
                refine wpAnyH_ready (rs := [5]) (by kernel_rfl) (by simp) ?_
                refine (AllReadyH.cons (by (try simp only [List.getElem?_toArray, List.getElem?_cons_succ, List.getElem?_cons_zero]); rfl) (fun K hK => ?_) AllReadyH.nil)
                go_simp
                refine (HAS.out _ _ _ _ _ _ _ _ _).mono ?_
                rintro e yR3x7 ⟨rfl, hq⟩
                try (go_wp2_with fail)
                have hS2 := Q.trans hS hq
                refine hK.out _ _ (by exact hS2) (fun hHeld => ?_)
                clear hK K hHeld hS hq
                have hS := hS2
                clear hS2
                try simp only [Act.put, List.setIfInBounds_toArray, List.set_cons_zero, List.set_cons_succ]
                change wpAnyH _ _ _ _ _ _ #[true, true, true, true, true, true, true, false, false, false] _ _
                refine wpAnyH_ready (rs := [7]) (by kernel_rfl) (by simp) ?_
                refine (AllReadyH.cons (by (try simp only [List.getElem?_toArray, List.getElem?_cons_succ, List.getElem?_cons_zero]); rfl) (fun K hK => ?_) AllReadyH.nil)
                go_simp
                refine (HSM.out _ _ _ _ _ _ _ _ _ (HIpx.out.q hS) (HFpx.out.q hS) (HIpy.out.q hS) (HFpy.out.q hS)).mono ?_
                rintro e yR3x8 ⟨rfl, hq⟩
                try (go_wp2_with fail)
                have hS2 := Q.trans hS hq
                refine hK.out _ _ (by exact hS2) (fun hHeld => ?_)
                clear hK K hHeld hS hq
                have hS := hS2
                clear hS2
                try simp only [Act.put, List.setIfInBounds_toArray, List.set_cons_zero, List.set_cons_succ]
                change wpAnyH _ _ _ _ _ _ #[true, true, true, true, true, true, true, true, false, false] _ _
                refine wpAnyH_take (i := 8) (v := ?vR3x9) (by (try simp only [List.getElem?_toArray, List.getElem?_cons_succ, List.getElem?_cons_zero]); rfl) (by kernel_rfl) (by kernel_rfl) (by kernel_rfl) (by exact fun _ _ _ h => h) (Or.inl ⟨by first | kernel_rfl | rfl, ?hyR3x9⟩) (by exact hS) ?rsR3x9
                case hyR3x9 => (intro uz hSw; (try dsimp only at hSw); go_simp; try with_reducible rfl)
                try simp only [Act.put, List.setIfInBounds_toArray, List.set_cons_zero, List.set_cons_succ]
                change wpAnyH _ _ _ _ _ _ #[true, true, true, true, true, true, true, true, true, false] _ _
                refine wpAnyH_take (i := 9) (v := ?vR3x10) (by (try simp only [List.getElem?_toArray, List.getElem?_cons_succ, List.getElem?_cons_zero]); rfl) (by kernel_rfl) (by kernel_rfl) (by kernel_rfl) (by exact fun _ _ _ h => h) (Or.inl ⟨by first | kernel_rfl | rfl, ?hyR3x10⟩) (by exact hS) ?rsR3x10
                case hyR3x10 => (intro uz hSw; (try dsimp only at hSw); go_simp; try with_reducible rfl)
                try simp only [Act.put, List.setIfInBounds_toArray, List.set_cons_zero, List.set_cons_succ]
                change wpAnyH _ _ _ _ _ _ #[true, true, true, true, true, true, true, true, true, true] _ _
                refine wpAnyH_done (by kernel_rfl) ?_ _
                go_wp2_with fail
                go_roundg (4 - (i + 1))
                case measure => omega
                case rel => exact ⟨i + 1, by go_num, by omega, by omega, HQ2.out.trans hS⟩
          · have hi4i : ¬ (i : Int) < 4 := by omega
            go_wp2_with fail
            refine (HLV.out _).mono ?_
            rintro e u9 ⟨rfl, hq9⟩
            go_wp2_with fail
            go_ret
            exact ⟨rfl, (HQV.out.trans HQ1.out).trans hq9⟩

set_option maxRecDepth 100000 in
theorem lifted (os : Os) (started : os.Started) (H : Type) (enc : TypeId × Value → H) :
    ReturnsInHanded {} Try.checked os 4 .any (Rows.draftSplicesSpec.pre6 enc Try.prog Try.f4 Rows.draftSplicesRow.domain false) (Rows.draftSplicesSpec.post enc Try.prog Try.f4 false true false false) := by
  refine returnsInHanded_of_change (C := Try.checked) own started (by kernel_rfl) Try.func4
    (ChangeSpec.witness6 (enc := enc) (C := Try.checked) false ⟨#[], #[.agg #[.bool false, .slice none 0 0, .bool false, .slice none 0 0], .int .i64 0, .int .i64 0, .slice none 0 0], []⟩ 8 (by kernel_rfl) (by kernel_rfl) (by kernel_rfl) (by kernel_rfl)) ?_
  intro W base args ds gs before hval0 hW hcnd _
  have hval : ∀ (j : Nat) t v, Try.f4.params[j]? = some t → args[j]? = some v → Value.okWide Try.prog W .any base t v := hval0
  have hW' := hW
  obtain ⟨p, q, hA0, hV, rfl, hfz, hnd⟩ := hW
  have hA : DataW.TrodAll enc Try.prog W 0 (fun _ => true) true Try.f4.params.toList args.toList ds p := hA0
  rw [Try.params4] at hA hval
  obtain ⟨v0, vs0, d0, ds0, p0, q0, hargs, rfl, rfl, h0, r0⟩ := trodAll_cons hA
  obtain ⟨v1, vs1, d1, ds1, p1, q1, rfl, rfl, rfl, h1, r1⟩ := trodAll_cons r0
  obtain ⟨v2, vs2, d2, ds2, p2, q2, rfl, rfl, rfl, h2, r2⟩ := trodAll_cons r1
  obtain ⟨v3, vs3, d3, ds3, p3, q3, rfl, rfl, rfl, h3, r3⟩ := trodAll_cons r2
  obtain ⟨rfl, rfl, rfl⟩ := trodAll_nil r3
  obtain rfl : args = #[v0, v1, v2, v3] := by cases args; simp_all
  obtain ⟨rfl, rfl⟩ := trodVars_none hV
  have k0 := h0
  have lt0 : ∀ x ∈ p0, x.block < W.heap.size := by obtain ⟨m, hm⟩ := k0; exact DataW.trod_lt m _ _ _ hm
  obtain ⟨cs0, rfl, hc0, hf0⟩ := FrH.open_any Try.underlying24 (k := 4) (by kernel_rfl) (hval 0 24 v0 rfl rfl) h0
  obtain ⟨f0_0, f0_1, f0_2, f0_3, rfl⟩ := FrH.arr4 hc0
  have hn0_1 := FrH.nest Try.underlying24 hf0 0 rfl 0 1 rfl (T := 4) rfl (by kernel_rfl) (l := [f0_0]) rfl
  have hn0_2 := FrH.nest Try.underlying24 hf0 1 rfl 1 1 rfl (T := 22) rfl (by kernel_rfl) (l := [f0_1]) rfl
  have hn0_3 := FrH.nest Try.underlying24 hf0 2 rfl 2 1 rfl (T := 4) rfl (by kernel_rfl) (l := [f0_2]) rfl
  have hn0_4 := FrH.nest Try.underlying24 hf0 3 rfl 3 1 rfl (T := 22) rfl (by kernel_rfl) (l := [f0_3]) rfl
  obtain ⟨g0_0, rfl⟩ := FrH.bool_of Try.underlying4 hn0_1
  obtain ⟨xs0_1, w0_1, b0_1⟩ := FrH.lst_of Try.underlying22 Try.underlying3 (by kernel_rfl) hn0_2
  obtain ⟨g0_2, rfl⟩ := FrH.bool_of Try.underlying4 hn0_3
  obtain ⟨xs0_3, w0_3, b0_3⟩ := FrH.lst_of Try.underlying22 Try.underlying3 (by kernel_rfl) hn0_4
  obtain ⟨a1, rfl, rfl, rfl, w1⟩ := open_int Try.underlying3 (hval 1 3 v1 rfl rfl) h1
  obtain ⟨a2, rfl, rfl, rfl, w2⟩ := open_int Try.underlying3 (hval 2 3 v2 rfl rfl) h2
  obtain ⟨a3, len3, cap3, rfl⟩ := okWide_slice Try.underlying22 (hval 3 22 v3 rfl rfl)
  have k3 := h3
  have lt3 : ∀ x ∈ p3, x.block < W.heap.size := by obtain ⟨m, hm⟩ := k3; exact DataW.trod_lt m _ _ _ hm
  obtain ⟨z3, w3⟩ : ∃ zs, IsRow .i64 W a3 len3 cap3 zs := by
    obtain ⟨fuel, hf⟩ := h3
    rcases open_ints Try.underlying22 Try.underlying3 (by kernel_rfl) hf with ⟨hcs, _⟩ | ⟨x, l, c, zs, hcs, _, hl, hm, hz, _, hcell, hwz⟩
    · simp [Value.cells] at hcs
      obtain ⟨rfl, rfl, rfl⟩ := hcs
      exact ⟨[], .inl ⟨rfl, rfl, rfl, rfl⟩⟩
    · simp [Value.cells] at hcs
      obtain ⟨rfl, rfl, rfl⟩ := hcs
      exact ⟨zs, .inr ⟨_, rfl, hl, hm, by simpa using hz, hcell, hwz⟩⟩
  obtain ⟨xs3, l3, _, b3⟩ := w3.lst
  clear hA0 hval0
  refine (walk W g0_0 f0_1 xs0_1 w0_1 b0_1 g0_2 f0_3 xs0_3 w0_3 b0_3 a1 (bounds_i64 w1) a2 (bounds_i64 w2) (.slice a3 len3 cap3) xs3 l3 b3).mono fun e W' ⟨he, bel⟩ => ?_
  subst he
  exact ⟨_, rfl, _, _, _, [], _, [], hW', trodAll_mk1 (shut_bool Try.underlying4 _), (trodAll_cons_mk (Below.trod laidOut (by kernel_rfl) (of_decide_eq_true (by kernel_rfl)) k0 bel lt0) (trodAll_cons_mk (shut_int Try.underlying3 w1) (trodAll_cons_mk (shut_int Try.underlying3 w2) (trodAll_cons_mk (Below.trod laidOut (by kernel_rfl) (of_decide_eq_true (by kernel_rfl)) k3 bel lt3) trodAll_mk0)))), rfl, bel.below.frame _, fun h => by cases h⟩

/-- The statement. -/
theorem proved : Rows.DraftSplicesSaid :=
  OpenClaim.holds_of_wide 4 Try.f4 rfl rfl rfl rfl rfl rfl rfl ⟨rfl, rfl, rfl, rfl, rfl⟩ rfl rfl rfl rfl rfl (by kernel_rfl) Try.func4 (by kernel_rfl)
    (of_decide_eq_true (by kernel_rfl)) (by unfold Func.isWrapper; first | (rw [if_pos (by decide +kernel)]; kernel_rfl) | (rw [if_neg (by decide +kernel)]; exact ⟨rfl, rfl⟩))
    (fun os started H enc _ => lifted os started H enc)
#print axioms proved
end Go.Proofs.Ytagpofhencpliaa.draftSplices
