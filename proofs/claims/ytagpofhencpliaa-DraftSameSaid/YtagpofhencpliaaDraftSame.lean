/- DraftSame: of whatever two drafts (made such as may be, of at most four digits ahead of the separator and behind it), and one of the other's sign, and one of the other's separator, whether each two are the same is told as the document says; no conditions. -/
import Derived.Test.YtagpofhencpliaaRows
import Derived.WalkKit
import Derived.ProofKit
import Derived.OpenShut
import Derived.ShutString
import Derived.ChangeOld
import Derived.Below
import Derived.Lib.SmallJoins
import Derived.Test.YtagpofhencpliaaInts
import Derived.Test.YtagpofhencpliaaRows
import Derived.Test.YtagpofhencpliaaUtfM
import Derived.Test.YtagpofhencpliaaUtfG
import Derived.Test.YtagpofhencpliaaUtfR
import Derived.Test.YtagpofhencpliaaDigM
import Derived.Test.YtagpofhencpliaaDigL
import Derived.Test.YtagpofhencpliaaDigR
import Derived.Test.YtagpofhencpliaaDecM
import Derived.Test.YtagpofhencpliaaInts
import Derived.Test.YtagpofhencpliaaSto
import Derived.Test.YtagpofhencpliaaDecR
import Derived.Test.YtagpofhencpliaaDecS
import Derived.Test.YtagpofhencpliaaDecC
import Derived.Test.YtagpofhencpliaaBlk
import Derived.Test.YtagpofhencpliaaLdR
import Derived.Test.YtagpofhencpliaaFrH
import Derived.Test.YtagpofhencpliaaTmM
import Derived.Test.YtagpofhencpliaaTmS
import Derived.Test.YtagpofhencpliaaTmA
import Derived.Test.YtagpofhencpliaaTmB
import Derived.Test.YtagpofhencpliaaTmC
import Derived.Test.YtagpofhencpliaaTmD
import Derived.Test.YtagpofhencpliaaTmE
import Derived.Test.YtagpofhencpliaaTmF
import Derived.Test.YtagpofhencpliaaTmG
import Derived.Test.YtagpofhencpliaaTrA
import Derived.Test.YtagpofhencpliaaTrB
import Derived.Test.YtagpofhencpliaaTrC
import Derived.Test.YtagpofhencpliaaTrD
import Derived.Test.YtagpofhencpliaaTrE
import Derived.Test.YtagpofhencpliaaTlA
set_option linter.unusedVariables false
set_option linter.unusedSimpArgs false
namespace Go.Proofs.Ytagpofhencpliaa.draftSame
open Go.ChangeShapes Go.WideShapes Go.ChangeAt Go.RowKit
open Go.ChangeMaps (open_string shut_string)

theorem own : ownKnob Try.prog.godebug = none := by kernel_rfl
theorem laidOut : laidOutB Try.prog = true := by kernel_rfl


set_option maxHeartbeats 3000000 in
set_option maxRecDepth 100000 in
theorem walk (w : World) (g0_0 : Bool) (f0_1 : Value) (xs0_1 : List Int) (w0_1 : Lst w f0_1 xs0_1) (b0_1 : ∀ n ∈ xs0_1, -9223372036854775808 ≤ n ∧ n ≤ 9223372036854775807) (g0_2 : Bool) (f0_3 : Value) (xs0_3 : List Int) (w0_3 : Lst w f0_3 xs0_3) (b0_3 : ∀ n ∈ xs0_3, -9223372036854775808 ≤ n ∧ n ≤ 9223372036854775807) (g1_0 : Bool) (f1_1 : Value) (xs1_1 : List Int) (w1_1 : Lst w f1_1 xs1_1) (b1_1 : ∀ n ∈ xs1_1, -9223372036854775808 ≤ n ∧ n ≤ 9223372036854775807) (g1_2 : Bool) (f1_3 : Value) (xs1_3 : List Int) (w1_3 : Lst w f1_3 xs1_3) (b1_3 : ∀ n ∈ xs1_3, -9223372036854775808 ≤ n ∧ n ≤ 9223372036854775807) :
    Calls Try.prog 6 #[.agg #[.bool g0_0, f0_1, .bool g0_2, f0_3], .agg #[.bool g1_0, f1_1, .bool g1_2, f1_3]] w fun e w' => e = .returned (.bool true) ∧ Q w w' := by
  obtain ⟨A0, C0, rfl, ha0, hc0⟩ := w0_1.shape2
  obtain ⟨E0, G0, rfl, he0, hg0⟩ := w0_3.shape2
  obtain ⟨l0, hl0⟩ : ∃ x, x = xs0_1.length := ⟨_, rfl⟩
  obtain ⟨m0, hm0⟩ : ∃ x, x = xs0_3.length := ⟨_, rfl⟩
  rw [← hl0] at w0_1 ha0 ⊢
  rw [← hm0] at w0_3 he0 ⊢
  obtain ⟨A1, C1, rfl, ha1, hc1⟩ := w1_1.shape2
  obtain ⟨E1, G1, rfl, he1, hg1⟩ := w1_3.shape2
  obtain ⟨l1, hl1⟩ : ∃ x, x = xs1_1.length := ⟨_, rfl⟩
  obtain ⟨m1, hm1⟩ : ∃ x, x = xs1_3.length := ⟨_, rfl⟩
  rw [← hl1] at w1_1 ha1 ⊢
  rw [← hm1] at w1_3 he1 ⊢
  have HG0 := Lib.hid (fun u (qq : Q w u) => Tr.good_any g0_0 g0_2 A0 E0 l0 m0 C0 G0 xs0_1 xs0_3 u (w0_1.q qq) (w0_3.q qq) hl0.symm hm0.symm (by unfold maxLen at hc0; omega) (by unfold maxLen at hg0; omega) b0_1 b0_3 4 4 (by omega) (by omega))
  have mX := Tm.gdT_may g0_0 g0_2 xs0_1 xs0_3 4 4
  have lX := Tm.gdT_len g0_0 g0_2 xs0_1 xs0_3 4 4
  obtain ⟨X, hX⟩ : ∃ X, X = Tm.gdT g0_0 g0_2 xs0_1 xs0_3 4 4 := ⟨_, rfl⟩
  rw [← hX] at HG0 mX lX
  obtain ⟨iX, hiX⟩ : ∃ n, n = X.i.length := ⟨_, rfl⟩
  obtain ⟨fX, hfX⟩ : ∃ n, n = X.f.length := ⟨_, rfl⟩
  rw [← hiX, ← hfX] at lX
  have HXL := Lib.hid (⟨hiX.symm, hfX.symm⟩ : X.i.length = iX ∧ X.f.length = fX)
  clear hiX hfX hX
  obtain ⟨okiX, okfX, _⟩ := Tm.may_dig mX
  have HG1 := Lib.hid (fun u (qq : Q w u) => Tr.good_any g1_0 g1_2 A1 E1 l1 m1 C1 G1 xs1_1 xs1_3 u (w1_1.q qq) (w1_3.q qq) hl1.symm hm1.symm (by unfold maxLen at hc1; omega) (by unfold maxLen at hg1; omega) b1_1 b1_3 4 4 (by omega) (by omega))
  have mY := Tm.gdT_may g1_0 g1_2 xs1_1 xs1_3 4 4
  have lY := Tm.gdT_len g1_0 g1_2 xs1_1 xs1_3 4 4
  obtain ⟨Y, hY⟩ : ∃ Y, Y = Tm.gdT g1_0 g1_2 xs1_1 xs1_3 4 4 := ⟨_, rfl⟩
  rw [← hY] at HG1 mY lY
  obtain ⟨iY, hiY⟩ : ∃ n, n = Y.i.length := ⟨_, rfl⟩
  obtain ⟨fY, hfY⟩ : ∃ n, n = Y.f.length := ⟨_, rfl⟩
  rw [← hiY, ← hfY] at lY
  have HYL := Lib.hid (⟨hiY.symm, hfY.symm⟩ : Y.i.length = iY ∧ Y.f.length = fY)
  clear hiY hfY hY
  obtain ⟨okiY, okfY, _⟩ := Tm.may_dig mY
  have HLV := Lib.hid Tl.lives_any
  have HOF := Lib.hid Tl.of_q
  clear mX mY okiX okfX okiY okfY ha0 hc0 he0 hg0 ha1 hc1 he1 hg1 hl0 hm0 hl1 hm1 w0_1 w0_3 w1_1 w1_3 b0_1 b0_3 b1_1 b1_3
  obtain ⟨y0, hy0⟩ : ∃ y, y = w.alloc (.cells #[.bool g0_0, .slice A0 l0 C0, .bool g0_2, .slice E0 m0 G0] 24) := ⟨_, rfl⟩
  have hq : Q w y0 := by rw [hy0]; exact (Q.refl _).alloc _
  have hb : Bk y0 (w.heap.size) 24 [.bool g0_0, .slice A0 l0 C0, .bool g0_2, .slice E0 m0 G0] := by rw [hy0]; exact Bk.new _ _ _
  have hs0 : y0.heap.size = w.heap.size + 1 := by rw [hy0]; simp
  have HQ := Lib.hid hq
  have HA := Lib.hid hb
  clear hq hb
  obtain ⟨y1, hy1⟩ : ∃ y, y = y0.alloc (.cells #[.bool g1_0, .slice A1 l1 C1, .bool g1_2, .slice E1 m1 G1] 24) := ⟨_, rfl⟩
  have hq : Q y0 y1 := by rw [hy1]; exact (Q.refl _).alloc _
  have hb : Bk y1 (w.heap.size + 1) 24 [.bool g1_0, .slice A1 l1 C1, .bool g1_2, .slice E1 m1 G1] := by rw [hy1, ← hs0]; exact Bk.new _ _ _
  have hs1 : y1.heap.size = w.heap.size + 1 + 1 := by rw [hy1]; simp; omega
  replace HQ := Lib.hid (Q.trans HQ.out hq)
  replace HA := Lib.hid (Bk.q HA.out hq)
  have HB := Lib.hid hb
  clear hq hb
  go_enter Try.func6, Try.ntmps6
  go_upto_region 1 with fail
  first | rw [← hy0, ← hy1] | (rw [hy0] at hy1; rw [← hy1])
  clear hy0 hy1 hs0 hs1
  have d0 := HA.out.cell 0 rfl
  have d1 := HA.out.cell 1 rfl
  have d2 := HA.out.cell 2 rfl
  have d3 := HA.out.cell 3 rfl
  go_wp2_with fail
  refine (HG0.out _ HQ.out).mono ?_
  rintro e v1 ⟨xv, rfl, ⟨aX, cX, bX, dX, rfl, ho1, ho2⟩, hq⟩
  rw [HXL.out.1] at ho1 ⊢
  rw [HXL.out.2] at ho2 ⊢
  clear d0 d1 d2 d3
  replace HQ := Lib.hid (Q.trans HQ.out hq)
  replace HA := Lib.hid (Bk.q HA.out hq)
  replace HB := Lib.hid (Bk.q HB.out hq)
  have HIX := Lib.hid ho1.lst
  have HFX := Lib.hid ho2.lst
  clear hq ho1 ho2
  obtain ⟨v2, hv2⟩ : ∃ y, y = v1.alloc (.cells #[.bool X.g, .slice aX iX cX, .bool X.s, .slice bX fX dX] 24) := ⟨_, rfl⟩
  have hqb : Q v1 v2 := by rw [hv2]; exact (Q.refl _).alloc _
  have hbx : Bk v2 v1.heap.size 24 [.bool X.g, .slice aX iX cX, .bool X.s, .slice bX fX dX] := by rw [hv2]; exact Bk.new _ _ _
  obtain ⟨bxx, hbxx⟩ : ∃ b, b = v1.heap.size := ⟨_, rfl⟩
  rw [← hbxx] at hbx
  replace HQ := Lib.hid (Q.trans HQ.out hqb)
  replace HA := Lib.hid (Bk.q HA.out hqb)
  replace HB := Lib.hid (Bk.q HB.out hqb)
  replace HIX := Lib.hid (Lst.q HIX.out hqb)
  replace HFX := Lib.hid (Lst.q HFX.out hqb)
  have HBxx := Lib.hid hbx
  clear hqb hbx
  go_upto_region 2 with fail
  rw [← hv2, ← hbxx]
  clear hv2 hbxx
  have d0 := HB.out.cell 0 rfl
  have d1 := HB.out.cell 1 rfl
  have d2 := HB.out.cell 2 rfl
  have d3 := HB.out.cell 3 rfl
  go_wp2_with fail
  refine (HG1.out _ HQ.out).mono ?_
  rintro e v3 ⟨xv, rfl, ⟨aY, cY, bY, dY, rfl, ho1, ho2⟩, hq⟩
  rw [HYL.out.1] at ho1 ⊢
  rw [HYL.out.2] at ho2 ⊢
  clear d0 d1 d2 d3
  replace HQ := Lib.hid (Q.trans HQ.out hq)
  replace HA := Lib.hid (Bk.q HA.out hq)
  replace HB := Lib.hid (Bk.q HB.out hq)
  replace HIX := Lib.hid (Lst.q HIX.out hq)
  replace HFX := Lib.hid (Lst.q HFX.out hq)
  replace HBxx := Lib.hid (Bk.q HBxx.out hq)
  have HIY := Lib.hid ho1.lst
  have HFY := Lib.hid ho2.lst
  clear hq ho1 ho2
  obtain ⟨v4, hv4⟩ : ∃ y, y = v3.alloc (.cells #[.bool Y.g, .slice aY iY cY, .bool Y.s, .slice bY fY dY] 24) := ⟨_, rfl⟩
  have hqb : Q v3 v4 := by rw [hv4]; exact (Q.refl _).alloc _
  have hbx : Bk v4 v3.heap.size 24 [.bool Y.g, .slice aY iY cY, .bool Y.s, .slice bY fY dY] := by rw [hv4]; exact Bk.new _ _ _
  obtain ⟨byy, hbyy⟩ : ∃ b, b = v3.heap.size := ⟨_, rfl⟩
  rw [← hbyy] at hbx
  replace HQ := Lib.hid (Q.trans HQ.out hqb)
  replace HA := Lib.hid (Bk.q HA.out hqb)
  replace HB := Lib.hid (Bk.q HB.out hqb)
  replace HIX := Lib.hid (Lst.q HIX.out hqb)
  replace HFX := Lib.hid (Lst.q HFX.out hqb)
  replace HBxx := Lib.hid (Bk.q HBxx.out hqb)
  replace HIY := Lib.hid (Lst.q HIY.out hqb)
  replace HFY := Lib.hid (Lst.q HFY.out hqb)
  have HByy := Lib.hid hbx
  clear hqb hbx
  go_upto_region 3 with fail
  rw [← hv4, ← hbyy]
  clear hv4 hbyy
  have d0 := HBxx.out.cell 0 rfl
  have d1 := HBxx.out.cell 1 rfl
  have d2 := HBxx.out.cell 2 rfl
  have d3 := HBxx.out.cell 3 rfl
  obtain ⟨v5a, hv5a⟩ : ∃ y, y = v4.alloc (.cells #[.bool X.g, .slice aX iX cX, .bool X.s, .slice bX fX dX] 24) := ⟨_, rfl⟩
  have hq3 : Q v4 v5a := by rw [hv5a]; exact (Q.refl _).alloc _
  have hz3 : Bk v5a v4.heap.size 24 [.bool X.g, .slice aX iX cX, .bool X.s, .slice bX fX dX] := by rw [hv5a]; exact Bk.new _ _ _
  have e0 := (HByy.out.q hq3).cell 0 rfl
  have z0 := hz3.cell 0 rfl
  have zf := hz3.free 0
  go_upto_region 4 with fail
  rw [← hv5a]
  clear hv5a d0 d1 d2 d3
  obtain ⟨v5b, hv5b⟩ : ∃ y, y = v5a.setCell ⟨v4.heap.size, 0, none⟩ (.bool Y.g) := ⟨_, rfl⟩
  have hqb : Q v4 v5b := by rw [hv5b]; exact Q.setCell hq3 (Nat.le_refl _) _
  have hbx : Bk v5b v4.heap.size 24 [.bool Y.g, .slice aX iX cX, .bool X.s, .slice bX fX dX] := by rw [hv5b]; exact hz3.set 0 _
  obtain ⟨bzz, hbzz⟩ : ∃ b, b = v4.heap.size := ⟨_, rfl⟩
  rw [← hbzz] at hbx
  go_upto_region 5 with fail
  rw [← hv5b, ← hbzz]
  clear hv5b hbzz e0 z0 zf hz3 hq3
  replace HQ := Lib.hid (Q.trans HQ.out hqb)
  replace HA := Lib.hid (Bk.q HA.out hqb)
  replace HB := Lib.hid (Bk.q HB.out hqb)
  replace HIX := Lib.hid (Lst.q HIX.out hqb)
  replace HFX := Lib.hid (Lst.q HFX.out hqb)
  replace HBxx := Lib.hid (Bk.q HBxx.out hqb)
  replace HIY := Lib.hid (Lst.q HIY.out hqb)
  replace HFY := Lib.hid (Lst.q HFY.out hqb)
  replace HByy := Lib.hid (Bk.q HByy.out hqb)
  have HBzz := Lib.hid hbx
  clear hqb hbx
  have d0 := HBxx.out.cell 0 rfl
  have d1 := HBxx.out.cell 1 rfl
  have d2 := HBxx.out.cell 2 rfl
  have d3 := HBxx.out.cell 3 rfl
  obtain ⟨v6a, hv6a⟩ : ∃ y, y = v5b.alloc (.cells #[.bool X.g, .slice aX iX cX, .bool X.s, .slice bX fX dX] 24) := ⟨_, rfl⟩
  have hq3 : Q v5b v6a := by rw [hv6a]; exact (Q.refl _).alloc _
  have hz3 : Bk v6a v5b.heap.size 24 [.bool X.g, .slice aX iX cX, .bool X.s, .slice bX fX dX] := by rw [hv6a]; exact Bk.new _ _ _
  have e2 := (HByy.out.q hq3).cell 2 rfl
  have z2 := hz3.cell 2 rfl
  have zf := hz3.free 2
  go_upto_region 6 with fail
  rw [← hv6a]
  clear hv6a d0 d1 d2 d3
  obtain ⟨v6b, hv6b⟩ : ∃ y, y = v6a.setCell ⟨v5b.heap.size, 2, none⟩ (.bool Y.s) := ⟨_, rfl⟩
  have hqb : Q v5b v6b := by rw [hv6b]; exact Q.setCell hq3 (Nat.le_refl _) _
  have hbx : Bk v6b v5b.heap.size 24 [.bool X.g, .slice aX iX cX, .bool Y.s, .slice bX fX dX] := by rw [hv6b]; exact hz3.set 2 _
  obtain ⟨bvv, hbvv⟩ : ∃ b, b = v5b.heap.size := ⟨_, rfl⟩
  rw [← hbvv] at hbx
  go_upto_region 7 with fail
  rw [← hv6b, ← hbvv]
  clear hv6b hbvv e2 z2 zf hz3 hq3
  replace HQ := Lib.hid (Q.trans HQ.out hqb)
  replace HA := Lib.hid (Bk.q HA.out hqb)
  replace HB := Lib.hid (Bk.q HB.out hqb)
  replace HIX := Lib.hid (Lst.q HIX.out hqb)
  replace HFX := Lib.hid (Lst.q HFX.out hqb)
  replace HBxx := Lib.hid (Bk.q HBxx.out hqb)
  replace HIY := Lib.hid (Lst.q HIY.out hqb)
  replace HFY := Lib.hid (Lst.q HFY.out hqb)
  replace HByy := Lib.hid (Bk.q HByy.out hqb)
  replace HBzz := Lib.hid (Bk.q HBzz.out hqb)
  have HBvv := Lib.hid hbx
  clear hqb hbx
  have xx_0 := HBxx.out.cell 0 rfl
  have xx_1 := HBxx.out.cell 1 rfl
  have xx_2 := HBxx.out.cell 2 rfl
  have xx_3 := HBxx.out.cell 3 rfl
  have yy_0 := HByy.out.cell 0 rfl
  have yy_1 := HByy.out.cell 1 rfl
  have yy_2 := HByy.out.cell 2 rfl
  have yy_3 := HByy.out.cell 3 rfl
  have zz_0 := HBzz.out.cell 0 rfl
  have zz_1 := HBzz.out.cell 1 rfl
  have zz_2 := HBzz.out.cell 2 rfl
  have zz_3 := HBzz.out.cell 3 rfl
  have vv_0 := HBvv.out.cell 0 rfl
  have vv_1 := HBvv.out.cell 1 rfl
  have vv_2 := HBvv.out.cell 2 rfl
  have vv_3 := HBvv.out.cell 3 rfl
  obtain ⟨v7, hv7⟩ : ∃ y, y = v6b.alloc (.cells #[.bool X.g, .slice aX iX cX, .bool X.s, .slice bX fX dX, .bool Y.g, .slice aY iY cY, .bool Y.s, .slice bY fY dY, .bool Y.g, .slice aX iX cX, .bool X.s, .slice bX fX dX, .bool X.g, .slice aX iX cX, .bool Y.s, .slice bX fX dX] 24) := ⟨_, rfl⟩
  have hqb : Q v6b v7 := by rw [hv7]; exact (Q.refl _).alloc _
  have hbx : Bk v7 v6b.heap.size 24 [.bool X.g, .slice aX iX cX, .bool X.s, .slice bX fX dX, .bool Y.g, .slice aY iY cY, .bool Y.s, .slice bY fY dY, .bool Y.g, .slice aX iX cX, .bool X.s, .slice bX fX dX, .bool X.g, .slice aX iX cX, .bool Y.s, .slice bX fX dX] := by rw [hv7]; exact Bk.new _ _ _
  obtain ⟨ba, hba⟩ : ∃ b, b = v6b.heap.size := ⟨_, rfl⟩
  rw [← hba] at hbx
  go_upto_region 8 with fail
  rw [← hv7, ← hba]
  clear hv7 hba xx_0 xx_1 xx_2 xx_3 yy_0 yy_1 yy_2 yy_3 zz_0 zz_1 zz_2 zz_3 vv_0 vv_1 vv_2 vv_3
  replace HQ := Lib.hid (Q.trans HQ.out hqb)
  replace HA := Lib.hid (Bk.q HA.out hqb)
  replace HB := Lib.hid (Bk.q HB.out hqb)
  replace HIX := Lib.hid (Lst.q HIX.out hqb)
  replace HFX := Lib.hid (Lst.q HFX.out hqb)
  replace HBxx := Lib.hid (Bk.q HBxx.out hqb)
  replace HIY := Lib.hid (Lst.q HIY.out hqb)
  replace HFY := Lib.hid (Lst.q HFY.out hqb)
  replace HByy := Lib.hid (Bk.q HByy.out hqb)
  replace HBzz := Lib.hid (Bk.q HBzz.out hqb)
  replace HBvv := Lib.hid (Bk.q HBvv.out hqb)
  have HBa := Lib.hid hbx
  clear hqb hbx
  have HEL := Lib.hid (fun (i : Nat) (hi : i < 4) => (by
    have hx := HBa.out
    rcases i with _ | _ | _ | _ | i
    · exact ⟨X.g, X.s, aX, bX, iX, cX, fX, dX, X.i, X.f, ⟨hx.cell 0 rfl, hx.cell 1 rfl, hx.cell 2 rfl, hx.cell 3 rfl⟩, HIX.out, HFX.out, lX.1, lX.2, HXL.out.1, HXL.out.2⟩
    · exact ⟨Y.g, Y.s, aY, bY, iY, cY, fY, dY, Y.i, Y.f, ⟨hx.cell 4 rfl, hx.cell 5 rfl, hx.cell 6 rfl, hx.cell 7 rfl⟩, HIY.out, HFY.out, lY.1, lY.2, HYL.out.1, HYL.out.2⟩
    · exact ⟨Y.g, X.s, aX, bX, iX, cX, fX, dX, X.i, X.f, ⟨hx.cell 8 rfl, hx.cell 9 rfl, hx.cell 10 rfl, hx.cell 11 rfl⟩, HIX.out, HFX.out, lX.1, lX.2, HXL.out.1, HXL.out.2⟩
    · exact ⟨X.g, Y.s, aX, bX, iX, cX, fX, dX, X.i, X.f, ⟨hx.cell 12 rfl, hx.cell 13 rfl, hx.cell 14 rfl, hx.cell 15 rfl⟩, HIX.out, HFX.out, lX.1, lX.2, HXL.out.1, HXL.out.2⟩
    · omega : ∃ (g s : Bool) (a b : Option Addr) (n c m d : Nat) (I F : List Int), (v7.cell? ⟨ba, i * 4, none⟩ = some (.bool g) ∧ v7.cell? ⟨ba, i * 4 + 1, none⟩ = some (.slice a n c) ∧ v7.cell? ⟨ba, i * 4 + 2, none⟩ = some (.bool s) ∧ v7.cell? ⟨ba, i * 4 + 3, none⟩ = some (.slice b m d)) ∧ Lst v7 (.slice a n c) I ∧ Lst v7 (.slice b m d) F ∧ n ≤ 4 ∧ m ≤ 4 ∧ I.length = n ∧ F.length = m))
  have HBL := Lib.hid HBa.out.lt
  have HQV := Lib.hid HQ.out
  clear HQ HA HB HIX HFX HBxx HIY HFY HByy HBzz HBvv HBa
  go_wp2_with fail
  go_loopw [10] (fun t wr => ∃ i : Nat, t = .int .i64 i ∧ i ≤ 4 ∧ Q v7 wr) (fun t _ => 4 - (intOf t).toNat)
  case atStart => exact ⟨0, rfl, by omega, Q.refl _⟩
  case round =>
    obtain ⟨i, rfl, hi, hq⟩ := hrel
    have HQ1 := Lib.hid hq
    clear hq
    by_cases hi4 : i < 4
    · obtain ⟨g1, s1, p1, q1, n1, c1, m1, d1, I1, F1, hc1, hl1, hf1, hn1, hm1, hi1, hj1⟩ := HEL.out i hi4
      have HC1 := Lib.hid (fun u (q : Q v7 u) => (⟨(World.cell?_of_block (w := v7) (q.block HBL.out)).trans hc1.1, (World.cell?_of_block (w := v7) (q.block HBL.out)).trans hc1.2.1, (World.cell?_of_block (w := v7) (q.block HBL.out)).trans hc1.2.2.1, (World.cell?_of_block (w := v7) (q.block HBL.out)).trans hc1.2.2.2⟩ : _ ∧ _ ∧ _ ∧ _))
      have HL1 := Lib.hid (fun u (q : Q v7 u) => (⟨hl1.q q, hf1.q q⟩ : _ ∧ _))
      have HN1 := Lib.hid (⟨hi1, hj1⟩ : _ ∧ _)
      have hi4i : (i : Int) < 4 := by omega
      clear hc1 hl1 hf1 hi1 hj1
      go_wp2_with fail
      go_loopw [11] (fun t wr => ∃ k : Nat, t = .int .i64 k ∧ k ≤ 4 ∧ Q v7 wr) (fun t _ => 4 - (intOf t).toNat)
      case atStart => exact ⟨0, rfl, by omega, HQ1.out⟩
      case round =>
        obtain ⟨k, rfl, hk, hq⟩ := hrel
        have HQ2 := Lib.hid hq
        clear hq
        by_cases hk4 : k < 4
        · obtain ⟨g2, s2, p2, q2, n2, c2, m2, d2, I2, F2, hc2, hl2, hf2, hn2, hm2, hi2, hj2⟩ := HEL.out k hk4
          have HC2 := Lib.hid (fun u (q : Q v7 u) => (⟨(World.cell?_of_block (w := v7) (q.block HBL.out)).trans hc2.1, (World.cell?_of_block (w := v7) (q.block HBL.out)).trans hc2.2.1, (World.cell?_of_block (w := v7) (q.block HBL.out)).trans hc2.2.2.1, (World.cell?_of_block (w := v7) (q.block HBL.out)).trans hc2.2.2.2⟩ : _ ∧ _ ∧ _ ∧ _))
          have HL2 := Lib.hid (fun u (q : Q v7 u) => (⟨hl2.q q, hf2.q q⟩ : _ ∧ _))
          have HN2 := Lib.hid (⟨hi2, hj2⟩ : _ ∧ _)
          have hk4i : (k : Int) < 4 := by omega
          clear hc2 hl2 hf2 hi2 hj2
          have HS1 := Lib.hid (fun u (q : Q v7 u) => Tp.same_any g1 s1 g2 s2 _ _ _ _ I1 F1 I2 F2 u (HL1.out u q).1 (HL1.out u q).2 (HL2.out u q).1 (HL2.out u q).2 (by rw [HN1.out.1]; omega) (by rw [HN1.out.2]; omega) (by rw [HN2.out.1]; omega) (by rw [HN2.out.2]; omega))
          have HS2 := Lib.hid (fun u (q : Q v7 u) => Tr.same_any g1 s1 g2 s2 _ _ _ _ I1 F1 I2 F2 u (HL1.out u q).1 (HL1.out u q).2 (HL2.out u q).1 (HL2.out u q).2 (by rw [HN1.out.1]; omega) (by rw [HN1.out.2]; omega) (by rw [HN2.out.1]; omega) (by rw [HN2.out.2]; omega))
          generalize Tm.same ⟨g1, I1, s1, F1⟩ ⟨g2, I2, s2, F2⟩ = r at *
          go_wp2_with fail
          refine wp_region_held_drew (S := fun u => Q wr u) (by kernel_rfl) (by exact (Q.refl wr).drew) (fun hHeld => ?_)
          have hS : Q wr wr.drew := hHeld
          clear hHeld
          have hq : Q wr wr.drew := (Q.refl _).drew
          clear hq
          generalize wr.drew = yR1x0 at *
          change wpAnyH _ _ _ _ _ _ #[false, false, false, false, false, false, false, false, false, false, false, false, false, false, false, false, false, false, false, false, false] _ _
          refine wpAnyH_take (i := 0) (v := ?vR1x1) (by (try simp only [List.getElem?_toArray, List.getElem?_cons_succ, List.getElem?_cons_zero]); rfl) (by kernel_rfl) (by kernel_rfl) (by kernel_rfl) (by exact fun _ _ _ h => h) (Or.inl ⟨by first | kernel_rfl | rfl, ?hyR1x1⟩) (by exact hS) ?rsR1x1
          case hyR1x1 => (intro uz hSw; (try dsimp only at hSw); go_simp; try with_reducible rfl)
          try simp only [Act.put, List.setIfInBounds_toArray, List.set_cons_zero, List.set_cons_succ]
          change wpAnyH _ _ _ _ _ _ #[true, false, false, false, false, false, false, false, false, false, false, false, false, false, false, false, false, false, false, false, false] _ _
          refine wpAnyH_take (i := 1) (v := ?vR1x2) (by (try simp only [List.getElem?_toArray, List.getElem?_cons_succ, List.getElem?_cons_zero]); rfl) (by kernel_rfl) (by kernel_rfl) (by kernel_rfl) (by exact fun _ _ _ h => h) (Or.inl ⟨by first | kernel_rfl | rfl, ?hyR1x2⟩) (by exact hS) ?rsR1x2
          case hyR1x2 => (intro uz hSw; (try dsimp only at hSw); go_simp; try with_reducible rfl)
          try simp only [Act.put, List.setIfInBounds_toArray, List.set_cons_zero, List.set_cons_succ]
          change wpAnyH _ _ _ _ _ _ #[true, true, false, false, false, false, false, false, false, false, false, false, false, false, false, false, false, false, false, false, false] _ _
          refine wpAnyH_take (i := 2) (v := ?vR1x3) (by (try simp only [List.getElem?_toArray, List.getElem?_cons_succ, List.getElem?_cons_zero]); rfl) (by kernel_rfl) (by kernel_rfl) (by kernel_rfl) (by exact fun _ _ _ h => h) (Or.inl ⟨by first | kernel_rfl | rfl, ?hyR1x3⟩) (by exact hS) ?rsR1x3
          case hyR1x3 => (intro uz hSw; (try dsimp only at hSw); go_simp; try with_reducible rfl)
          try simp only [Act.put, List.setIfInBounds_toArray, List.set_cons_zero, List.set_cons_succ]
          change wpAnyH _ _ _ _ _ _ #[true, true, true, false, false, false, false, false, false, false, false, false, false, false, false, false, false, false, false, false, false] _ _
          refine wpAnyH_take (i := 3) (v := ?vR1x4) (by (try simp only [List.getElem?_toArray, List.getElem?_cons_succ, List.getElem?_cons_zero]); rfl) (by kernel_rfl) (by kernel_rfl) (by kernel_rfl) (by exact fun _ _ _ h => h) (Or.inl ⟨by first | kernel_rfl | rfl, ?hyR1x4⟩) (by exact hS) ?rsR1x4
          case hyR1x4 => (intro uz hSw; (try dsimp only at hSw); obtain ⟨d0, d1_, d2_, d3⟩ := HC1.out _ (HQ2.out.trans hSw); go_simp; try with_reducible rfl)
          try simp only [Act.put, List.setIfInBounds_toArray, List.set_cons_zero, List.set_cons_succ]
          change wpAnyH _ _ _ _ _ _ #[true, true, true, true, false, false, false, false, false, false, false, false, false, false, false, false, false, false, false, false, false] _ _
          refine wpAnyH_take (i := 5) (v := ?vR1x5) (by (try simp only [List.getElem?_toArray, List.getElem?_cons_succ, List.getElem?_cons_zero]); rfl) (by kernel_rfl) (by kernel_rfl) (by kernel_rfl) (by exact fun _ _ _ h => h) (Or.inl ⟨by first | kernel_rfl | rfl, ?hyR1x5⟩) (by exact hS) ?rsR1x5
          case hyR1x5 => (intro uz hSw; (try dsimp only at hSw); go_simp; try with_reducible rfl)
          try simp only [Act.put, List.setIfInBounds_toArray, List.set_cons_zero, List.set_cons_succ]
          change wpAnyH _ _ _ _ _ _ #[true, true, true, true, false, true, false, false, false, false, false, false, false, false, false, false, false, false, false, false, false] _ _
          refine wpAnyH_take (i := 6) (v := ?vR1x6) (by (try simp only [List.getElem?_toArray, List.getElem?_cons_succ, List.getElem?_cons_zero]); rfl) (by kernel_rfl) (by kernel_rfl) (by kernel_rfl) (by exact fun _ _ _ h => h) (Or.inl ⟨by first | kernel_rfl | rfl, ?hyR1x6⟩) (by exact hS) ?rsR1x6
          case hyR1x6 => (intro uz hSw; (try dsimp only at hSw); go_simp; try with_reducible rfl)
          try simp only [Act.put, List.setIfInBounds_toArray, List.set_cons_zero, List.set_cons_succ]
          change wpAnyH _ _ _ _ _ _ #[true, true, true, true, false, true, true, false, false, false, false, false, false, false, false, false, false, false, false, false, false] _ _
          refine wpAnyH_take (i := 7) (v := ?vR1x7) (by (try simp only [List.getElem?_toArray, List.getElem?_cons_succ, List.getElem?_cons_zero]); rfl) (by kernel_rfl) (by kernel_rfl) (by kernel_rfl) (by exact fun _ _ _ h => h) (Or.inl ⟨by first | kernel_rfl | rfl, ?hyR1x7⟩) (by exact hS) ?rsR1x7
          case hyR1x7 => (intro uz hSw; (try dsimp only at hSw); go_simp; try with_reducible rfl)
          try simp only [Act.put, List.setIfInBounds_toArray, List.set_cons_zero, List.set_cons_succ]
          change wpAnyH _ _ _ _ _ _ #[true, true, true, true, false, true, true, true, false, false, false, false, false, false, false, false, false, false, false, false, false] _ _
          refine wpAnyH_take (i := 8) (v := ?vR1x8) (by (try simp only [List.getElem?_toArray, List.getElem?_cons_succ, List.getElem?_cons_zero]); rfl) (by kernel_rfl) (by kernel_rfl) (by kernel_rfl) (by exact fun _ _ _ h => h) (Or.inl ⟨by first | kernel_rfl | rfl, ?hyR1x8⟩) (by exact hS) ?rsR1x8
          case hyR1x8 => (intro uz hSw; (try dsimp only at hSw); obtain ⟨d0, d1_, d2_, d3⟩ := HC2.out _ (HQ2.out.trans hSw); go_simp; try with_reducible rfl)
          try simp only [Act.put, List.setIfInBounds_toArray, List.set_cons_zero, List.set_cons_succ]
          change wpAnyH _ _ _ _ _ _ #[true, true, true, true, false, true, true, true, true, false, false, false, false, false, false, false, false, false, false, false, false] _ _
          refine wpAnyH_take (i := 11) (v := ?vR1x9) (by (try simp only [List.getElem?_toArray, List.getElem?_cons_succ, List.getElem?_cons_zero]); rfl) (by kernel_rfl) (by kernel_rfl) (by kernel_rfl) (by exact fun _ _ _ h => h) (Or.inl ⟨by first | kernel_rfl | rfl, ?hyR1x9⟩) (by exact hS) ?rsR1x9
          case hyR1x9 => (intro uz hSw; (try dsimp only at hSw); go_simp; try with_reducible rfl)
          try simp only [Act.put, List.setIfInBounds_toArray, List.set_cons_zero, List.set_cons_succ]
          change wpAnyH _ _ _ _ _ _ #[true, true, true, true, false, true, true, true, true, false, false, true, false, false, false, false, false, false, false, false, false] _ _
          refine wpAnyH_take (i := 12) (v := ?vR1x10) (by (try simp only [List.getElem?_toArray, List.getElem?_cons_succ, List.getElem?_cons_zero]); rfl) (by kernel_rfl) (by kernel_rfl) (by kernel_rfl) (by exact fun _ _ _ h => h) (Or.inl ⟨by first | kernel_rfl | rfl, ?hyR1x10⟩) (by exact hS) ?rsR1x10
          case hyR1x10 => (intro uz hSw; (try dsimp only at hSw); go_simp; try with_reducible rfl)
          try simp only [Act.put, List.setIfInBounds_toArray, List.set_cons_zero, List.set_cons_succ]
          change wpAnyH _ _ _ _ _ _ #[true, true, true, true, false, true, true, true, true, false, false, true, true, false, false, false, false, false, false, false, false] _ _
          refine wpAnyH_take (i := 13) (v := ?vR1x11) (by (try simp only [List.getElem?_toArray, List.getElem?_cons_succ, List.getElem?_cons_zero]); rfl) (by kernel_rfl) (by kernel_rfl) (by kernel_rfl) (by exact fun _ _ _ h => h) (Or.inl ⟨by first | kernel_rfl | rfl, ?hyR1x11⟩) (by exact hS) ?rsR1x11
          case hyR1x11 => (intro uz hSw; (try dsimp only at hSw); go_simp; try with_reducible rfl)
          try simp only [Act.put, List.setIfInBounds_toArray, List.set_cons_zero, List.set_cons_succ]
          change wpAnyH _ _ _ _ _ _ #[true, true, true, true, false, true, true, true, true, false, false, true, true, true, false, false, false, false, false, false, false] _ _
          refine wpAnyH_take (i := 14) (v := ?vR1x12) (by (try simp only [List.getElem?_toArray, List.getElem?_cons_succ, List.getElem?_cons_zero]); rfl) (by kernel_rfl) (by kernel_rfl) (by kernel_rfl) (by exact fun _ _ _ h => h) (Or.inl ⟨by first | kernel_rfl | rfl, ?hyR1x12⟩) (by exact hS) ?rsR1x12
          case hyR1x12 => (intro uz hSw; (try dsimp only at hSw); obtain ⟨d0, d1_, d2_, d3⟩ := HC1.out _ (HQ2.out.trans hSw); go_simp; try with_reducible rfl)
          try simp only [Act.put, List.setIfInBounds_toArray, List.set_cons_zero, List.set_cons_succ]
          change wpAnyH _ _ _ _ _ _ #[true, true, true, true, false, true, true, true, true, false, false, true, true, true, true, false, false, false, false, false, false] _ _
          refine wpAnyH_take (i := 15) (v := ?vR1x13) (by (try simp only [List.getElem?_toArray, List.getElem?_cons_succ, List.getElem?_cons_zero]); rfl) (by kernel_rfl) (by kernel_rfl) (by kernel_rfl) (by exact fun _ _ _ h => h) (Or.inl ⟨by first | kernel_rfl | rfl, ?hyR1x13⟩) (by exact hS) ?rsR1x13
          case hyR1x13 => (intro uz hSw; (try dsimp only at hSw); go_simp; try with_reducible rfl)
          try simp only [Act.put, List.setIfInBounds_toArray, List.set_cons_zero, List.set_cons_succ]
          change wpAnyH _ _ _ _ _ _ #[true, true, true, true, false, true, true, true, true, false, false, true, true, true, true, true, false, false, false, false, false] _ _
          refine wpAnyH_take (i := 16) (v := ?vR1x14) (by (try simp only [List.getElem?_toArray, List.getElem?_cons_succ, List.getElem?_cons_zero]); rfl) (by kernel_rfl) (by kernel_rfl) (by kernel_rfl) (by exact fun _ _ _ h => h) (Or.inl ⟨by first | kernel_rfl | rfl, ?hyR1x14⟩) (by exact hS) ?rsR1x14
          case hyR1x14 => (intro uz hSw; (try dsimp only at hSw); go_simp; try with_reducible rfl)
          try simp only [Act.put, List.setIfInBounds_toArray, List.set_cons_zero, List.set_cons_succ]
          change wpAnyH _ _ _ _ _ _ #[true, true, true, true, false, true, true, true, true, false, false, true, true, true, true, true, true, false, false, false, false] _ _
          refine wpAnyH_take (i := 17) (v := ?vR1x15) (by (try simp only [List.getElem?_toArray, List.getElem?_cons_succ, List.getElem?_cons_zero]); rfl) (by kernel_rfl) (by kernel_rfl) (by kernel_rfl) (by exact fun _ _ _ h => h) (Or.inl ⟨by first | kernel_rfl | rfl, ?hyR1x15⟩) (by exact hS) ?rsR1x15
          case hyR1x15 => (intro uz hSw; (try dsimp only at hSw); go_simp; try with_reducible rfl)
          try simp only [Act.put, List.setIfInBounds_toArray, List.set_cons_zero, List.set_cons_succ]
          change wpAnyH _ _ _ _ _ _ #[true, true, true, true, false, true, true, true, true, false, false, true, true, true, true, true, true, true, false, false, false] _ _
          refine wpAnyH_take (i := 18) (v := ?vR1x16) (by (try simp only [List.getElem?_toArray, List.getElem?_cons_succ, List.getElem?_cons_zero]); rfl) (by kernel_rfl) (by kernel_rfl) (by kernel_rfl) (by exact fun _ _ _ h => h) (Or.inl ⟨by first | kernel_rfl | rfl, ?hyR1x16⟩) (by exact hS) ?rsR1x16
          case hyR1x16 => (intro uz hSw; (try dsimp only at hSw); obtain ⟨d0, d1_, d2_, d3⟩ := HC2.out _ (HQ2.out.trans hSw); go_simp; try with_reducible rfl)
          try simp only [Act.put, List.setIfInBounds_toArray, List.set_cons_zero, List.set_cons_succ]
          change wpAnyH _ _ _ _ _ _ #[true, true, true, true, false, true, true, true, true, false, false, true, true, true, true, true, true, true, true, false, false] _ _
          refine wpAnyH_ready (rs := [4]) (by kernel_rfl) (by simp) ?_
          refine (AllReadyH.cons (by (try simp only [List.getElem?_toArray, List.getElem?_cons_succ, List.getElem?_cons_zero]); rfl) (fun K hK => ?_) AllReadyH.nil)
          go_simp
          refine (HOF.out _ _ _ _ _ _ _ _ _).mono ?_
          rintro e yR1x17 ⟨rfl, hq⟩
          try (go_wp2_with fail)
          have hS2 := Q.trans hS hq
          refine hK.out _ _ (by exact hS2) (fun hHeld => ?_)
          clear hK K hHeld hS hq
          have hS := hS2
          clear hS2
          try simp only [Act.put, List.setIfInBounds_toArray, List.set_cons_zero, List.set_cons_succ]
          change wpAnyH _ _ _ _ _ _ #[true, true, true, true, true, true, true, true, true, false, false, true, true, true, true, true, true, true, true, false, false] _ _
          refine wpAnyH_ready (rs := [9]) (by kernel_rfl) (by simp) ?_
          refine (AllReadyH.cons (by (try simp only [List.getElem?_toArray, List.getElem?_cons_succ, List.getElem?_cons_zero]); rfl) (fun K hK => ?_) AllReadyH.nil)
          go_simp
          refine (HOF.out _ _ _ _ _ _ _ _ _).mono ?_
          rintro e yR1x18 ⟨rfl, hq⟩
          try (go_wp2_with fail)
          have hS2 := Q.trans hS hq
          refine hK.out _ _ (by exact hS2) (fun hHeld => ?_)
          clear hK K hHeld hS hq
          have hS := hS2
          clear hS2
          try simp only [Act.put, List.setIfInBounds_toArray, List.set_cons_zero, List.set_cons_succ]
          change wpAnyH _ _ _ _ _ _ #[true, true, true, true, true, true, true, true, true, true, false, true, true, true, true, true, true, true, true, false, false] _ _
          refine wpAnyH_ready (rs := [10]) (by kernel_rfl) (by simp) ?_
          refine (AllReadyH.cons (by (try simp only [List.getElem?_toArray, List.getElem?_cons_succ, List.getElem?_cons_zero]); rfl) (fun K hK => ?_) AllReadyH.nil)
          go_simp
          refine (HS1.out _ (HQ2.out.trans hS)).mono ?_
          rintro e yR1x19 ⟨rfl, hq⟩
          try (go_wp2_with fail)
          have hS2 := Q.trans hS hq
          refine hK.out _ _ (by exact hS2) (fun hHeld => ?_)
          clear hK K hHeld hS hq
          have hS := hS2
          clear hS2
          try simp only [Act.put, List.setIfInBounds_toArray, List.set_cons_zero, List.set_cons_succ]
          change wpAnyH _ _ _ _ _ _ #[true, true, true, true, true, true, true, true, true, true, true, true, true, true, true, true, true, true, true, false, false] _ _
          refine wpAnyH_ready (rs := [19]) (by kernel_rfl) (by simp) ?_
          refine (AllReadyH.cons (by (try simp only [List.getElem?_toArray, List.getElem?_cons_succ, List.getElem?_cons_zero]); rfl) (fun K hK => ?_) AllReadyH.nil)
          go_simp
          refine (HS2.out _ (HQ2.out.trans hS)).mono ?_
          rintro e yR1x20 ⟨rfl, hq⟩
          try (go_wp2_with fail)
          have hS2 := Q.trans hS hq
          refine hK.out _ _ (by exact hS2) (fun hHeld => ?_)
          clear hK K hHeld hS hq
          have hS := hS2
          clear hS2
          try simp only [Act.put, List.setIfInBounds_toArray, List.set_cons_zero, List.set_cons_succ]
          change wpAnyH _ _ _ _ _ _ #[true, true, true, true, true, true, true, true, true, true, true, true, true, true, true, true, true, true, true, true, false] _ _
          refine wpAnyH_take (i := 20) (v := ?vR1x21) (by (try simp only [List.getElem?_toArray, List.getElem?_cons_succ, List.getElem?_cons_zero]); rfl) (by kernel_rfl) (by kernel_rfl) (by kernel_rfl) (by exact fun _ _ _ h => h) (Or.inl ⟨by first | kernel_rfl | rfl, ?hyR1x21⟩) (by exact hS) ?rsR1x21
          case hyR1x21 => (intro uz hSw; (try dsimp only at hSw); go_simp; try with_reducible rfl)
          try simp only [Act.put, List.setIfInBounds_toArray, List.set_cons_zero, List.set_cons_succ]
          change wpAnyH _ _ _ _ _ _ #[true, true, true, true, true, true, true, true, true, true, true, true, true, true, true, true, true, true, true, true, true] _ _
          refine wpAnyH_done (by kernel_rfl) ?_ _
          go_wp2_with fail
          exact ⟨⟨k + 1, by go_num, by omega, HQ2.out.trans hS⟩, by simp [intOf]; omega⟩
        · go_wp2_with fail
          exact ⟨⟨i + 1, by go_num, by omega, HQ2.out⟩, by simp [intOf]; omega⟩
    · go_wp2_with fail
      refine (HLV.out _).mono ?_
      rintro e u9 ⟨rfl, hq9⟩
      go_wp2_with fail
      go_ret
      exact ⟨rfl, (HQV.out.trans HQ1.out).trans hq9⟩

set_option maxRecDepth 100000 in
theorem lifted (os : Os) (started : os.Started) (H : Type) (enc : TypeId × Value → H) :
    ReturnsInHanded {} Try.checked os 6 .any (Rows.draftSameSpec.pre6 enc Try.prog Try.f6 Rows.draftSameRow.domain false) (Rows.draftSameSpec.post enc Try.prog Try.f6 false true false false) := by
  refine returnsInHanded_of_change (C := Try.checked) own started (by kernel_rfl) Try.func6
    (ChangeSpec.witness6 (enc := enc) (C := Try.checked) false ⟨#[], #[.agg #[.bool false, .slice none 0 0, .bool false, .slice none 0 0], .agg #[.bool false, .slice none 0 0, .bool false, .slice none 0 0]], []⟩ 8 (by kernel_rfl) (by kernel_rfl) (by kernel_rfl) (by kernel_rfl)) ?_
  intro W base args ds gs before hval0 hW hcnd _
  have hval : ∀ (j : Nat) t v, Try.f6.params[j]? = some t → args[j]? = some v → Value.okWide Try.prog W .any base t v := hval0
  have hW' := hW
  obtain ⟨p, q, hA0, hV, rfl, hfz, hnd⟩ := hW
  have hA : DataW.TrodAll enc Try.prog W 0 (fun _ => true) true Try.f6.params.toList args.toList ds p := hA0
  rw [Try.params6] at hA hval
  obtain ⟨v0, vs0, d0, ds0, p0, q0, hargs, rfl, rfl, h0, r0⟩ := trodAll_cons hA
  obtain ⟨v1, vs1, d1, ds1, p1, q1, rfl, rfl, rfl, h1, r1⟩ := trodAll_cons r0
  obtain ⟨rfl, rfl, rfl⟩ := trodAll_nil r1
  obtain rfl : args = #[v0, v1] := by cases args; simp_all
  obtain ⟨rfl, rfl⟩ := trodVars_none hV
  have k0 := h0
  have lt0 : ∀ x ∈ p0, x.block < W.heap.size := by obtain ⟨m, hm⟩ := k0; exact DataW.trod_lt m _ _ _ hm
  obtain ⟨cs0, rfl, hc0, hf0⟩ := FrH.open_any Try.underlying24 (k := 4) (by kernel_rfl) (hval 0 24 v0 rfl rfl) h0
  obtain ⟨f0_0, f0_1, f0_2, f0_3, rfl⟩ := FrH.arr4 hc0
  have hn0_1 := FrH.nest Try.underlying24 hf0 0 rfl 0 1 rfl (T := 4) rfl (by kernel_rfl) (l := [f0_0]) rfl
  have hn0_2 := FrH.nest Try.underlying24 hf0 1 rfl 1 1 rfl (T := 22) rfl (by kernel_rfl) (l := [f0_1]) rfl
  have hn0_3 := FrH.nest Try.underlying24 hf0 2 rfl 2 1 rfl (T := 4) rfl (by kernel_rfl) (l := [f0_2]) rfl
  have hn0_4 := FrH.nest Try.underlying24 hf0 3 rfl 3 1 rfl (T := 22) rfl (by kernel_rfl) (l := [f0_3]) rfl
  obtain ⟨g0_0, rfl⟩ := FrH.bool_of Try.underlying4 hn0_1
  obtain ⟨xs0_1, w0_1, b0_1⟩ := FrH.lst_of Try.underlying22 Try.underlying3 (by kernel_rfl) hn0_2
  obtain ⟨g0_2, rfl⟩ := FrH.bool_of Try.underlying4 hn0_3
  obtain ⟨xs0_3, w0_3, b0_3⟩ := FrH.lst_of Try.underlying22 Try.underlying3 (by kernel_rfl) hn0_4
  have k1 := h1
  have lt1 : ∀ x ∈ p1, x.block < W.heap.size := by obtain ⟨m, hm⟩ := k1; exact DataW.trod_lt m _ _ _ hm
  obtain ⟨cs1, rfl, hc1, hf1⟩ := FrH.open_any Try.underlying24 (k := 4) (by kernel_rfl) (hval 1 24 v1 rfl rfl) h1
  obtain ⟨f1_0, f1_1, f1_2, f1_3, rfl⟩ := FrH.arr4 hc1
  have hn1_1 := FrH.nest Try.underlying24 hf1 0 rfl 0 1 rfl (T := 4) rfl (by kernel_rfl) (l := [f1_0]) rfl
  have hn1_2 := FrH.nest Try.underlying24 hf1 1 rfl 1 1 rfl (T := 22) rfl (by kernel_rfl) (l := [f1_1]) rfl
  have hn1_3 := FrH.nest Try.underlying24 hf1 2 rfl 2 1 rfl (T := 4) rfl (by kernel_rfl) (l := [f1_2]) rfl
  have hn1_4 := FrH.nest Try.underlying24 hf1 3 rfl 3 1 rfl (T := 22) rfl (by kernel_rfl) (l := [f1_3]) rfl
  obtain ⟨g1_0, rfl⟩ := FrH.bool_of Try.underlying4 hn1_1
  obtain ⟨xs1_1, w1_1, b1_1⟩ := FrH.lst_of Try.underlying22 Try.underlying3 (by kernel_rfl) hn1_2
  obtain ⟨g1_2, rfl⟩ := FrH.bool_of Try.underlying4 hn1_3
  obtain ⟨xs1_3, w1_3, b1_3⟩ := FrH.lst_of Try.underlying22 Try.underlying3 (by kernel_rfl) hn1_4
  clear hA0 hval0
  refine (walk W g0_0 f0_1 xs0_1 w0_1 b0_1 g0_2 f0_3 xs0_3 w0_3 b0_3 g1_0 f1_1 xs1_1 w1_1 b1_1 g1_2 f1_3 xs1_3 w1_3 b1_3).mono fun e W' ⟨he, bel⟩ => ?_
  subst he
  exact ⟨_, rfl, _, _, _, [], _, [], hW', trodAll_mk1 (shut_bool Try.underlying4 _), (trodAll_cons_mk (Below.trod laidOut (by kernel_rfl) (of_decide_eq_true (by kernel_rfl)) k0 bel lt0) (trodAll_cons_mk (Below.trod laidOut (by kernel_rfl) (of_decide_eq_true (by kernel_rfl)) k1 bel lt1) trodAll_mk0)), rfl, bel.below.frame _, fun h => by cases h⟩

/-- The statement. -/
theorem proved : Rows.DraftSameSaid :=
  OpenClaim.holds_of_wide 6 Try.f6 rfl rfl rfl rfl rfl rfl rfl ⟨rfl, rfl, rfl, rfl, rfl⟩ rfl rfl rfl rfl rfl (by kernel_rfl) Try.func6 (by kernel_rfl)
    (of_decide_eq_true (by kernel_rfl)) (by unfold Func.isWrapper; first | (rw [if_pos (by decide +kernel)]; kernel_rfl) | (rw [if_neg (by decide +kernel)]; exact ⟨rfl, rfl⟩))
    (fun os started H enc _ => lifted os started H enc)
#print axioms proved
end Go.Proofs.Ytagpofhencpliaa.draftSame
