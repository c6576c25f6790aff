/- DraftBack: of whatever draft (made one that may be, without a separator, of at most nine digits), whatever place (made one of it) and whatever numbers (the first five, made atoms), what is put in, and taken out again, leaves the draft as it was, or the separator would be there twice; no conditions. -/
import Derived.Test.YtagpofhencpliaaRows
import Derived.WalkKit
import Derived.ProofKit
import Derived.OpenShut
import Derived.ShutString
import Derived.ChangeOld
import Derived.Below
import Derived.Lib.SmallJoins
import Derived.Test.YtagpofhencpliaaInts
import Derived.Test.YtagpofhencpliaaRows
import Derived.Test.YtagpofhencpliaaUtfM
import Derived.Test.YtagpofhencpliaaUtfG
import Derived.Test.YtagpofhencpliaaUtfR
import Derived.Test.YtagpofhencpliaaDigM
import Derived.Test.YtagpofhencpliaaDigL
import Derived.Test.YtagpofhencpliaaDigR
import Derived.Test.YtagpofhencpliaaDecM
import Derived.Test.YtagpofhencpliaaInts
import Derived.Test.YtagpofhencpliaaSto
import Derived.Test.YtagpofhencpliaaDecR
import Derived.Test.YtagpofhencpliaaDecS
import Derived.Test.YtagpofhencpliaaDecC
import Derived.Test.YtagpofhencpliaaBlk
import Derived.Test.YtagpofhencpliaaLdR
import Derived.Test.YtagpofhencpliaaFrH
import Derived.Test.YtagpofhencpliaaTmM
import Derived.Test.YtagpofhencpliaaTmS
import Derived.Test.YtagpofhencpliaaTmA
import Derived.Test.YtagpofhencpliaaTmB
import Derived.Test.YtagpofhencpliaaTmC
import Derived.Test.YtagpofhencpliaaTmD
import Derived.Test.YtagpofhencpliaaTmE
import Derived.Test.YtagpofhencpliaaTmF
import Derived.Test.YtagpofhencpliaaTmG
import Derived.Test.YtagpofhencpliaaTrA
import Derived.Test.YtagpofhencpliaaTrB
import Derived.Test.YtagpofhencpliaaTrC
import Derived.Test.YtagpofhencpliaaTrD
import Derived.Test.YtagpofhencpliaaTrE
import Derived.Test.YtagpofhencpliaaTlA
set_option linter.unusedVariables false
set_option linter.unusedSimpArgs false
namespace Go.Proofs.Ytagpofhencpliaa.draftBack
open Go.ChangeShapes Go.WideShapes Go.ChangeAt Go.RowKit
open Go.ChangeMaps (open_string shut_string)

theorem own : ownKnob Try.prog.godebug = none := by kernel_rfl
theorem laidOut : laidOutB Try.prog = true := by kernel_rfl


set_option maxHeartbeats 2000000 in
set_option maxRecDepth 100000 in
theorem walk (w : World) (g0_0 : Bool) (f0_1 : Value) (xs0_1 : List Int) (w0_1 : Lst w f0_1 xs0_1) (b0_1 : ∀ n ∈ xs0_1, -9223372036854775808 ≤ n ∧ n ≤ 9223372036854775807) (g0_2 : Bool) (f0_3 : Value) (xs0_3 : List Int) (w0_3 : Lst w f0_3 xs0_3) (b0_3 : ∀ n ∈ xs0_3, -9223372036854775808 ≤ n ∧ n ≤ 9223372036854775807) (a1 : Int) (w1 : -9223372036854775808 ≤ a1 ∧ a1 ≤ 9223372036854775807) (v2 : Value) (xs2 : List Int) (w2 : Lst w v2 xs2) (b2 : ∀ n ∈ xs2, -9223372036854775808 ≤ n ∧ n ≤ 9223372036854775807) :
    Calls Try.prog 7 #[.agg #[.bool g0_0, f0_1, .bool g0_2, f0_3], .int .i64 a1, v2] w fun e w' => e = .returned (.bool true) ∧ Q w w' := by
  obtain ⟨A0, C0, rfl, ha0, hc0⟩ := w0_1.shape2
  obtain ⟨E0, G0, rfl, he0, hg0⟩ := w0_3.shape2
  obtain ⟨l0, hl0⟩ : ∃ x, x = xs0_1.length := ⟨_, rfl⟩
  obtain ⟨m0, hm0⟩ : ∃ x, x = xs0_3.length := ⟨_, rfl⟩
  rw [← hl0] at w0_1 ha0 ⊢
  rw [← hm0] at w0_3 he0 ⊢
  have HG0 := Lib.hid (fun u (qq : Q w u) => Tr.good_any g0_0 false A0 E0 l0 m0 C0 G0 xs0_1 xs0_3 u (w0_1.q qq) (w0_3.q qq) hl0.symm hm0.symm (by unfold maxLen at hc0; omega) (by unfold maxLen at hg0; omega) b0_1 b0_3 9 9 (by omega) (by omega))
  have mX := Tm.gdT_may g0_0 false xs0_1 xs0_3 9 9
  have lX := Tm.gdT_len g0_0 false xs0_1 xs0_3 9 9
  obtain ⟨X, hX⟩ : ∃ X, X = Tm.gdT g0_0 false xs0_1 xs0_3 9 9 := ⟨_, rfl⟩
  have hXs : X.s = false := by rw [hX]; rfl
  have hXf : X.f = [] := by rw [hX]; rfl
  rw [← hX] at HG0 mX lX
  obtain ⟨iX, hiX⟩ : ∃ n, n = X.i.length := ⟨_, rfl⟩
  obtain ⟨fX, hfX⟩ : ∃ n, n = X.f.length := ⟨_, rfl⟩
  rw [← hiX, ← hfX] at lX
  have HXL := Lib.hid (⟨hiX.symm, hfX.symm⟩ : X.i.length = iX ∧ X.f.length = fX)
  clear hiX hfX hX
  obtain ⟨okiX, okfX, _⟩ := Tm.may_dig mX

  obtain ⟨A2, C2, rfl, ha2, hc2⟩ := w2.shape2
  obtain ⟨l2, hl2⟩ : ∃ x, x = xs2.length := ⟨_, rfl⟩
  rw [← hl2] at w2 ha2 ⊢
  obtain ⟨A, hA⟩ : ∃ A, A = Tm.ptL xs2 5 := ⟨_, rfl⟩
  have hAo : Tm.okA A = true := by rw [hA]; exact Tm.ptL_ok xs2 5
  obtain ⟨K, hK⟩ : ∃ K, K = A.length := ⟨_, rfl⟩
  have hK5 : K ≤ 5 := by rw [hK, hA, Tm.ptL_len]; omega
  have HP := Lib.hid (fun u (q : Q w u) => (by
    refine (Tr.points_any _ xs2 5 u (w2.q q) (by unfold maxLen at hc2; omega) (by omega) b2).mono ?_
    rintro e w' ⟨x, rfl, hx, hq⟩
    rw [← hA] at hx
    obtain ⟨pa, pc, rfl, _, _⟩ := hx.lst.form0 hK.symm
    exact ⟨pa, pc, rfl, hx.lst, hq⟩ : Calls Try.prog 26 #[.slice A2 l2 C2, .int .i64 5] u fun e w' => ∃ pa pc, e = .returned (.slice pa K pc) ∧ Lst w' (.slice pa K pc) A ∧ Q u w'))
  obtain ⟨pz, hpz⟩ : ∃ p, p = Um.around a1 ((iX : Int) + 1) := ⟨_, rfl⟩
  have hpb := Um.around_bd a1 ((iX : Int) + 1) (by omega)
  rw [← hpz] at hpb
  have HAR := Lib.hid (fun u (x : Int) (hx : x = (iX : Int) + 1) => (by
    subst hx
    refine (Ur.around_any a1 ((iX : Int) + 1) u w1.1 w1.2 (by omega) (by omega)).mono ?_
    rintro e w' ⟨rfl, rfl⟩
    exact ⟨by rw [hpz], Q.refl _⟩ : Calls Try.prog 11 #[.int .i64 a1, .int .i64 x] u fun e w' => e = .returned (.int .i64 pz) ∧ Q u w'))
  obtain ⟨p, rfl⟩ : ∃ p : Nat, pz = p := ⟨pz.toNat, by omega⟩
  have hpi : p ≤ iX := by omega
  have hbk := Tm.back X.g X.i p A okiX (by rw [HXL.out.1]; exact hpi) hAo
  rw [show (⟨X.g, X.i, false, []⟩ : Tm.T) = ⟨X.g, X.i, X.s, X.f⟩ from by rw [hXs, hXf]] at hbk
  rw [HXL.out.1, ← hK] at hbk
  have HS1 := Lib.hid (fun u a c b d pa pc (h1 : Lst u (.slice a iX c) X.i) (h2 : Lst u (.slice b fX d) X.f) (h3 : Lst u (.slice pa K pc) A) => Tp.splice_any X.g X.s a b iX fX c d X.i X.f u h1 h2 HXL.out.1 HXL.out.2 (by omega) (by omega) p p _ A h3 (by omega))
  obtain ⟨C, hC⟩ : ∃ C, C = Tm.spC ⟨X.g, X.i, X.s, X.f⟩ p p A := ⟨_, rfl⟩
  obtain ⟨R, hR⟩ : ∃ R, R = Tm.spR ⟨X.g, X.i, X.s, X.f⟩ p p A := ⟨_, rfl⟩
  rw [← hC, ← hR] at HS1
  rw [← hC, ← hR] at hbk
  obtain ⟨iR, hiR⟩ : ∃ n, n = R.i.length := ⟨_, rfl⟩
  obtain ⟨fR, hfR⟩ : ∃ n, n = R.f.length := ⟨_, rfl⟩
  have HRL := Lib.hid (⟨hiR.symm, hfR.symm⟩ : R.i.length = iR ∧ R.f.length = fR)
  have HBK := Lib.hid hbk
  have HTS := Lib.hid (fun k (hk : k < K) => Tm.take_snoc A k (by omega))
  have HCN := Lib.hid (fun (l : List Int) x => Tm.cnt_snoc l x)
  have HKL := Lib.hid hK.symm
  have HCL := Lib.hid (fun k => (by have := Tm.cnt_le (A.take k); rw [List.length_take] at this; omega : Tm.cnt (A.take k) ≤ 5))
  have HLV := Lib.hid Tl.lives_any
  have HOF := Lib.hid Tl.of_q
  have HAS := Lib.hid Tl.as_q
  have HXS := Lib.hid (⟨hXs, hXf⟩ : _ ∧ _)
  clear hXs hXf hA hAo hpz hpb hbk hC hR hiR hfR hK okiX okfX mX ha0 hc0 he0 hg0 hl0 hm0 ha2 hc2 hl2 w0_1 w0_3 b0_1 b0_3 w1 w2 b2
  obtain ⟨y0, hy0⟩ : ∃ y, y = w.alloc (.cells #[.bool g0_0, .slice A0 l0 C0, .bool g0_2, .slice E0 m0 G0] 24) := ⟨_, rfl⟩
  have hq : Q w y0 := by rw [hy0]; exact (Q.refl _).alloc _
  have hb : Bk y0 (w.heap.size) 24 [.bool g0_0, .slice A0 l0 C0, .bool g0_2, .slice E0 m0 G0] := by rw [hy0]; exact Bk.new _ _ _
  have hs0 : y0.heap.size = w.heap.size + 1 := by rw [hy0]; simp
  have HQ := Lib.hid hq
  have HA := Lib.hid hb
  clear hq hb
  go_enter Try.func7, Try.ntmps7
  go_upto_region 1 with fail
  first | rw [← hy0] | (rw [← hy0])
  clear hy0 hs0
  have e2 := HA.out.cell 2 rfl
  have zf := HA.out.free 2
  obtain ⟨y1, hy1⟩ : ∃ y, y = y0.setCell ⟨w.heap.size, 2, none⟩ (.bool false) := ⟨_, rfl⟩
  have hq1 : Q w y1 := by rw [hy1]; exact Q.setCell HQ.out (Nat.le_refl _) _
  have ha1 : Bk y1 w.heap.size 24 [.bool g0_0, .slice A0 l0 C0, .bool false, .slice E0 m0 G0] := by rw [hy1]; exact HA.out.set 2 _
  go_upto_region 2 with fail
  rw [← hy1]
  replace HQ := Lib.hid hq1
  replace HA := Lib.hid ha1
  clear hy1 hq1 ha1 e2 zf
  have d0 := HA.out.cell 0 rfl
  have d1 := HA.out.cell 1 rfl
  have d2 := HA.out.cell 2 rfl
  have d3 := HA.out.cell 3 rfl
  go_wp2_with fail
  refine (HG0.out _ HQ.out).mono ?_
  rintro e v1 ⟨xv, rfl, ⟨aX, cX, bX, dX, rfl, ho1, ho2⟩, hq⟩
  rw [HXL.out.1] at ho1 ⊢
  rw [HXL.out.2] at ho2 ⊢
  clear d0 d1 d2 d3
  replace HQ := Lib.hid (Q.trans HQ.out hq)
  replace HA := Lib.hid (Bk.q HA.out hq)
  have HIX := Lib.hid ho1.lst
  have HFX := Lib.hid ho2.lst
  clear hq ho1 ho2
  obtain ⟨v2, hv2⟩ : ∃ y, y = v1.alloc (.cells #[.bool X.g, .slice aX iX cX, .bool X.s, .slice bX fX dX] 24) := ⟨_, rfl⟩
  have hqb : Q v1 v2 := by rw [hv2]; exact (Q.refl _).alloc _
  have hbx : Bk v2 v1.heap.size 24 [.bool X.g, .slice aX iX cX, .bool X.s, .slice bX fX dX] := by rw [hv2]; exact Bk.new _ _ _
  obtain ⟨bxx, hbxx⟩ : ∃ b, b = v1.heap.size := ⟨_, rfl⟩
  rw [← hbxx] at hbx
  replace HQ := Lib.hid (Q.trans HQ.out hqb)
  replace HA := Lib.hid (Bk.q HA.out hqb)
  replace HIX := Lib.hid (Lst.q HIX.out hqb)
  replace HFX := Lib.hid (Lst.q HFX.out hqb)
  have HBxx := Lib.hid hbx
  clear hqb hbx
  go_upto_region 3 with fail
  rw [← hv2, ← hbxx]
  clear hv2 hbxx
  go_wp2_with fail
  refine (HP.out _ HQ.out).mono ?_
  rintro e v3 ⟨pa, pc, rfl, ho, hq⟩
  replace HQ := Lib.hid (Q.trans HQ.out hq)
  replace HA := Lib.hid (Bk.q HA.out hq)
  replace HIX := Lib.hid (Lst.q HIX.out hq)
  replace HFX := Lib.hid (Lst.q HFX.out hq)
  replace HBxx := Lib.hid (Bk.q HBxx.out hq)
  have HAT := Lib.hid ho
  clear hq ho
  have d1 := HBxx.out.cell 1 rfl
  go_wp2_with fail
  refine (HAR.out _ _ (by first | rfl | omega)).mono ?_
  rintro e v4 ⟨rfl, hq⟩
  clear d1
  replace HQ := Lib.hid (Q.trans HQ.out hq)
  replace HA := Lib.hid (Bk.q HA.out hq)
  replace HIX := Lib.hid (Lst.q HIX.out hq)
  replace HFX := Lib.hid (Lst.q HFX.out hq)
  replace HBxx := Lib.hid (Bk.q HBxx.out hq)
  replace HAT := Lib.hid (Lst.q HAT.out hq)
  clear hq
  have d0 := HBxx.out.cell 0 rfl
  have d1 := HBxx.out.cell 1 rfl
  have d2 := HBxx.out.cell 2 rfl
  have d3 := HBxx.out.cell 3 rfl
  go_wp2_with fail
  refine (HOF.out _ _ _ _ _ _ _ _ _).mono ?_
  rintro e v5 ⟨rfl, hq⟩
  replace HQ := Lib.hid (Q.trans HQ.out hq)
  replace HA := Lib.hid (Bk.q HA.out hq)
  replace HIX := Lib.hid (Lst.q HIX.out hq)
  replace HFX := Lib.hid (Lst.q HFX.out hq)
  replace HBxx := Lib.hid (Bk.q HBxx.out hq)
  replace HAT := Lib.hid (Lst.q HAT.out hq)
  clear d0 d1 d2 d3
  clear hq
  go_wp2_with fail
  refine (HS1.out _ _ _ _ _ _ _ HIX.out HFX.out HAT.out).mono ?_
  rintro e v6 ⟨xo, rfl, ⟨aR, cR, bR, dR, rfl, ho1, ho2⟩, hq⟩
  rw [HRL.out.1] at ho1 ⊢
  rw [HRL.out.2] at ho2 ⊢
  replace HQ := Lib.hid (Q.trans HQ.out hq)
  replace HA := Lib.hid (Bk.q HA.out hq)
  replace HIX := Lib.hid (Lst.q HIX.out hq)
  replace HFX := Lib.hid (Lst.q HFX.out hq)
  replace HBxx := Lib.hid (Bk.q HBxx.out hq)
  replace HAT := Lib.hid (Lst.q HAT.out hq)
  have HIR := Lib.hid ho1.lst
  have HFR := Lib.hid ho2.lst
  clear hq ho1 ho2
  obtain ⟨v7, hv7⟩ : ∃ y, y = v6.alloc (.cells #[.bool R.g, .slice aR iR cR, .bool R.s, .slice bR fR dR] 30) := ⟨_, rfl⟩
  have hqb : Q v6 v7 := by rw [hv7]; exact (Q.refl _).alloc _
  have hbx : Bk v7 v6.heap.size 30 [.bool R.g, .slice aR iR cR, .bool R.s, .slice bR fR dR] := by rw [hv7]; exact Bk.new _ _ _
  obtain ⟨brr, hbrr⟩ : ∃ b, b = v6.heap.size := ⟨_, rfl⟩
  rw [← hbrr] at hbx
  replace HQ := Lib.hid (Q.trans HQ.out hqb)
  replace HA := Lib.hid (Bk.q HA.out hqb)
  replace HIX := Lib.hid (Lst.q HIX.out hqb)
  replace HFX := Lib.hid (Lst.q HFX.out hqb)
  replace HBxx := Lib.hid (Bk.q HBxx.out hqb)
  replace HAT := Lib.hid (Lst.q HAT.out hqb)
  replace HIR := Lib.hid (Lst.q HIR.out hqb)
  replace HFR := Lib.hid (Lst.q HFR.out hqb)
  have HBrr := Lib.hid hbx
  clear hqb hbx
  go_upto_region 6 with fail
  rw [← hv7, ← hbrr]
  clear hv7 hbrr
  have HV := Lib.hid (fun k (hk : k < K) => HAT.out.cellOf (n := K) (k := k) HKL.out hk)
  go_wp2_with fail
  go_loop [12, 13] (fun t s => ∃ k : Nat, s = .int .i64 k ∧ k ≤ K ∧ t = .int .i64 (Tm.cnt (A.take k) : Nat)) (fun _ s => K - (intOf s).toNat)
  case atStart => exact ⟨0, rfl, by omega, rfl⟩
  case round =>
    obtain ⟨k, rfl, hk, rfl⟩ := hrel
    have hcl := HCL.out k
    by_cases hlt : k < K
    · obtain ⟨gl, off, cap, hvv, hgl, _, _, cl⟩ := HV.out k hlt
      cases hvv
      have hts := HTS.out k hlt
      obtain ⟨x, hx⟩ : ∃ x, x = A.getD k 0 := ⟨_, rfl⟩
      rw [← hx] at cl hts
      clear hx
      obtain ⟨n, hn⟩ : ∃ n, n = Tm.cnt (A.take k) := ⟨_, rfl⟩
      have hsn := HCN.out (A.take k) x
      rw [← hts, ← hn] at hsn
      rw [← hn] at hcl ⊢
      have HSN := Lib.hid hsn
      clear hts hsn hn
      by_cases hx : x = 10
      · have e1 : (x == 10) = true := by rw [hx]; rfl
        have HE := Lib.hid (HSN.out.trans (if_pos hx))
        clear hx
        go_wp2_with fail
        exact ⟨⟨k + 1, by go_num, by omega, by rw [HE.out]; go_num⟩, by simp [intOf]; omega⟩
      · have e1 : (x == 10) = false := beq_eq_false_iff_ne.2 hx
        have HE := Lib.hid (HSN.out.trans (if_neg hx))
        clear hx
        go_wp2_with fail
        exact ⟨⟨k + 1, by go_num, by omega, by rw [HE.out]⟩, by simp [intOf]; omega⟩
    · obtain rfl : k = K := by omega
      obtain ⟨n, hn⟩ : ∃ n, n = Tm.cnt (A.take k) := ⟨_, rfl⟩
      have hne : n = Tm.cnt A := by rw [hn, List.take_of_length_le (by rw [HKL.out]; exact Nat.le_refl _)]
      rw [← hn] at hcl ⊢
      have hbk := HBK.out
      rw [← hne] at hbk
      clear hn hne
      by_cases hn1 : 1 < n
      · have hC : C = 6 := hbk.1.trans (if_pos hn1)
        have e1 : (C == 6) = true := by rw [hC]; rfl
        have e2 : (n : Int) > 1 := by omega
        clear hC hbk
        go_wp2_with fail
        refine (HLV.out _).mono ?_
        rintro e u9 ⟨rfl, hq9⟩
        go_wp2_with fail
        go_ret
        exact ⟨rfl, HQ.out.trans hq9⟩
      · have hC : C = 0 := hbk.1.trans (if_neg hn1)
        have e1 : (C == 0) = true := by rw [hC]; rfl
        have e2 : ¬ ((n : Int) > 1) := by omega
        obtain ⟨hR0, hRl, hRm, hC2, hR2⟩ := hbk.2 (by omega)
        rw [Tm.ats_len, HRL.out.1, HRL.out.2] at hRl
        have hrb : iR ≤ 14 ∧ fR ≤ 14 := by omega
        have HS2 := Lib.hid (fun u a c b d (h1 : Lst u (.slice a iR c) R.i) (h2 : Lst u (.slice b fR d) R.f) (x : Int) (hx : x = (p : Int) + (k : Int)) => (by
          have h := Tp.splice_any R.g R.s a b iR fR c d R.i R.f u h1 h2 HRL.out.1 HRL.out.2 (by omega) (by omega) p (p + k : Nat) (.slice none 0 0) [] (Lst.nil u none 0 (by unfold maxLen; omega) (fun _ => rfl)) (by simp)
          rw [hC2, hR2] at h
          rw [hx]
          exact h : Calls Try.prog 27 #[.agg #[.bool R.g, .slice a iR c, .bool R.s, .slice b fR d], .int .i64 p, .int .i64 x, .slice none 0 0] u fun e w' => ∃ y, e = .returned (.tuple #[y, .int .i64 0]) ∧ Tm.LD w' (u.heap.size + 1) y ⟨X.g, X.i, X.s, X.f⟩ ∧ Q u w'))
        have HLN := Lib.hid (fun u a c b d => ((Tp.len_any R.g R.s a b iR fR c d u (by omega) (by omega)).mono fun _ _ h => ⟨h.1.trans (retI (by omega)), h.2⟩ : Calls Try.prog 17 #[.agg #[.bool R.g, .slice a iR c, .bool R.s, .slice b fR d]] u fun e w' => e = .returned (.int .i64 ((iX : Int) + (k : Int))) ∧ Q u w'))
        have HSM := Lib.hid (fun u a c b d a' c' b' d' (h1 : Lst u (.slice a iX c) X.i) (h2 : Lst u (.slice b fX d) X.f) (h3 : Lst u (.slice a' iX c') X.i) (h4 : Lst u (.slice b' fX d') X.f) => (by
          have h := Tr.same_any X.g X.s X.g X.s _ _ _ _ X.i X.f X.i X.f u h1 h2 h3 h4 (by rw [HXL.out.1]; omega) (by rw [HXL.out.2]; omega) (by rw [HXL.out.1]; omega) (by rw [HXL.out.2]; omega)
          rw [(Tm.same_iff _ _).2 rfl] at h
          exact h))
        have hw : IntKind.i64.wrap ((iX : Int) + (k : Int)) = (iX : Int) + (k : Int) := by rw [IntKind.wrap_i64]; omega
        clear hbk hR0 hRl hRm hC2 hR2 hC
        have d0 := HBrr.out.cell 0 rfl
        have d1 := HBrr.out.cell 1 rfl
        have d2 := HBrr.out.cell 2 rfl
        have d3 := HBrr.out.cell 3 rfl
        go_wp2_with fail
        refine (HS2.out _ _ _ _ _ HIR.out HFR.out _ (by first | rfl | omega)).mono ?_
        rintro e v8 ⟨xo, rfl, ⟨a9, c9, b9, d9, rfl, ho1, ho2⟩, hq⟩
        rw [HXL.out.1] at ho1 ⊢
        rw [HXL.out.2] at ho2 ⊢
        clear d0 d1 d2 d3
        replace HQ := Lib.hid (Q.trans HQ.out hq)
        replace HA := Lib.hid (Bk.q HA.out hq)
        replace HIX := Lib.hid (Lst.q HIX.out hq)
        replace HFX := Lib.hid (Lst.q HFX.out hq)
        replace HBxx := Lib.hid (Bk.q HBxx.out hq)
        replace HAT := Lib.hid (Lst.q HAT.out hq)
        replace HIR := Lib.hid (Lst.q HIR.out hq)
        replace HFR := Lib.hid (Lst.q HFR.out hq)
        replace HBrr := Lib.hid (Bk.q HBrr.out hq)
        have HI3 := Lib.hid ho1.lst
        have HF3 := Lib.hid ho2.lst
        clear hq ho1 ho2
        obtain ⟨v9, hv9⟩ : ∃ y, y = v8.alloc (.cells #[.bool X.g, .slice a9 iX c9, .bool X.s, .slice b9 fX d9] 30) := ⟨_, rfl⟩
        have hqb : Q v8 v9 := by rw [hv9]; exact (Q.refl _).alloc _
        have hbx : Bk v9 v8.heap.size 30 [.bool X.g, .slice a9 iX c9, .bool X.s, .slice b9 fX d9] := by rw [hv9]; exact Bk.new _ _ _
        obtain ⟨byy, hbyy⟩ : ∃ b, b = v8.heap.size := ⟨_, rfl⟩
        rw [← hbyy] at hbx
        replace HQ := Lib.hid (Q.trans HQ.out hqb)
        replace HA := Lib.hid (Bk.q HA.out hqb)
        replace HIX := Lib.hid (Lst.q HIX.out hqb)
        replace HFX := Lib.hid (Lst.q HFX.out hqb)
        replace HBxx := Lib.hid (Bk.q HBxx.out hqb)
        replace HAT := Lib.hid (Lst.q HAT.out hqb)
        replace HIR := Lib.hid (Lst.q HIR.out hqb)
        replace HFR := Lib.hid (Lst.q HFR.out hqb)
        replace HBrr := Lib.hid (Bk.q HBrr.out hqb)
        replace HI3 := Lib.hid (Lst.q HI3.out hqb)
        replace HF3 := Lib.hid (Lst.q HF3.out hqb)
        have HByy := Lib.hid hbx
        clear hqb hbx
        go_upto_region 15 with fail
        rw [← hv9, ← hbyy]
        clear hv9 hbyy
        refine wp_region_held_drew (S := fun u => Q v9 u) (by kernel_rfl) (by exact (Q.refl v9).drew) (fun hHeld => ?_)
        have hS : Q v9 v9.drew := hHeld
        clear hHeld
        have hq : Q v9 v9.drew := (Q.refl _).drew
        clear hq
        generalize v9.drew = yR1x0 at *
        change wpAnyH _ _ _ _ _ _ #[false, false, false, false, false, false, false, false, false, false, false, false, false, false, false, false, false, false, false, false, false, false, false, false, false, false, false] _ _
        refine wpAnyH_take (i := 0) (v := ?vR1x1) (by (try simp only [List.getElem?_toArray, List.getElem?_cons_succ, List.getElem?_cons_zero]); rfl) (by kernel_rfl) (by kernel_rfl) (by kernel_rfl) (by exact fun _ _ _ h => h) (Or.inl ⟨by first | kernel_rfl | rfl, ?hyR1x1⟩) (by exact hS) ?rsR1x1
        case hyR1x1 => (intro uz hSw; (try dsimp only at hSw); go_simp; try with_reducible rfl)
        try simp only [Act.put, List.setIfInBounds_toArray, List.set_cons_zero, List.set_cons_succ]
        change wpAnyH _ _ _ _ _ _ #[true, false, false, false, false, false, false, false, false, false, false, false, false, false, false, false, false, false, false, false, false, false, false, false, false, false, false] _ _
        refine wpAnyH_take (i := 1) (v := ?vR1x2) (by (try simp only [List.getElem?_toArray, List.getElem?_cons_succ, List.getElem?_cons_zero]); rfl) (by kernel_rfl) (by kernel_rfl) (by kernel_rfl) (by exact fun _ _ _ h => h) (Or.inl ⟨by first | kernel_rfl | rfl, ?hyR1x2⟩) (by exact hS) ?rsR1x2
        case hyR1x2 => (intro uz hSw; (try dsimp only at hSw); go_simp; try with_reducible rfl)
        try simp only [Act.put, List.setIfInBounds_toArray, List.set_cons_zero, List.set_cons_succ]
        change wpAnyH _ _ _ _ _ _ #[true, true, false, false, false, false, false, false, false, false, false, false, false, false, false, false, false, false, false, false, false, false, false, false, false, false, false] _ _
        refine wpAnyH_take (i := 2) (v := ?vR1x3) (by (try simp only [List.getElem?_toArray, List.getElem?_cons_succ, List.getElem?_cons_zero]); rfl) (by kernel_rfl) (by kernel_rfl) (by kernel_rfl) (by exact fun _ _ _ h => h) (Or.inl ⟨by first | kernel_rfl | rfl, ?hyR1x3⟩) (by exact hS) ?rsR1x3
        case hyR1x3 => (intro uz hSw; (try dsimp only at hSw); go_simp; try with_reducible rfl)
        try simp only [Act.put, List.setIfInBounds_toArray, List.set_cons_zero, List.set_cons_succ]
        change wpAnyH _ _ _ _ _ _ #[true, true, true, false, false, false, false, false, false, false, false, false, false, false, false, false, false, false, false, false, false, false, false, false, false, false, false] _ _
        refine wpAnyH_take (i := 3) (v := ?vR1x4) (by (try simp only [List.getElem?_toArray, List.getElem?_cons_succ, List.getElem?_cons_zero]); rfl) (by kernel_rfl) (by kernel_rfl) (by kernel_rfl) (by exact fun _ _ _ h => h) (Or.inl ⟨by first | kernel_rfl | rfl, ?hyR1x4⟩) (by exact hS) ?rsR1x4
        case hyR1x4 => (intro uz hSw; (try dsimp only at hSw); go_simp; try with_reducible rfl)
        try simp only [Act.put, List.setIfInBounds_toArray, List.set_cons_zero, List.set_cons_succ]
        change wpAnyH _ _ _ _ _ _ #[true, true, true, true, false, false, false, false, false, false, false, false, false, false, false, false, false, false, false, false, false, false, false, false, false, false, false] _ _
        refine wpAnyH_take (i := 4) (v := ?vR1x5) (by (try simp only [List.getElem?_toArray, List.getElem?_cons_succ, List.getElem?_cons_zero]); rfl) (by kernel_rfl) (by kernel_rfl) (by kernel_rfl) (by exact fun _ _ _ h => h) (Or.inl ⟨by first | kernel_rfl | rfl, ?hyR1x5⟩) (by exact hS) ?rsR1x5
        case hyR1x5 => (intro uz hSw; (try dsimp only at hSw); go_simp; try with_reducible rfl)
        try simp only [Act.put, List.setIfInBounds_toArray, List.set_cons_zero, List.set_cons_succ]
        change wpAnyH _ _ _ _ _ _ #[true, true, true, true, true, false, false, false, false, false, false, false, false, false, false, false, false, false, false, false, false, false, false, false, false, false, false] _ _
        refine wpAnyH_take (i := 5) (v := ?vR1x6) (by (try simp only [List.getElem?_toArray, List.getElem?_cons_succ, List.getElem?_cons_zero]); rfl) (by kernel_rfl) (by kernel_rfl) (by kernel_rfl) (by exact fun _ _ _ h => h) (Or.inl ⟨by first | kernel_rfl | rfl, ?hyR1x6⟩) (by exact hS) ?rsR1x6
        case hyR1x6 => (intro uz hSw; (try dsimp only at hSw); go_simp; try with_reducible rfl)
        try simp only [Act.put, List.setIfInBounds_toArray, List.set_cons_zero, List.set_cons_succ]
        change wpAnyH _ _ _ _ _ _ #[true, true, true, true, true, true, false, false, false, false, false, false, false, false, false, false, false, false, false, false, false, false, false, false, false, false, false] _ _
        refine wpAnyH_take (i := 6) (v := ?vR1x7) (by (try simp only [List.getElem?_toArray, List.getElem?_cons_succ, List.getElem?_cons_zero]); rfl) (by kernel_rfl) (by kernel_rfl) (by kernel_rfl) (by exact fun _ _ _ h => h) (Or.inl ⟨by first | kernel_rfl | rfl, ?hyR1x7⟩) (by exact hS) ?rsR1x7
        case hyR1x7 => (intro uz hSw; (try dsimp only at hSw); go_simp; try with_reducible rfl)
        try simp only [Act.put, List.setIfInBounds_toArray, List.set_cons_zero, List.set_cons_succ]
        change wpAnyH _ _ _ _ _ _ #[true, true, true, true, true, true, true, false, false, false, false, false, false, false, false, false, false, false, false, false, false, false, false, false, false, false, false] _ _
        refine wpAnyH_take (i := 7) (v := ?vR1x8) (by (try simp only [List.getElem?_toArray, List.getElem?_cons_succ, List.getElem?_cons_zero]); rfl) (by kernel_rfl) (by kernel_rfl) (by kernel_rfl) (by exact fun _ _ _ h => h) (Or.inl ⟨by first | kernel_rfl | rfl, ?hyR1x8⟩) (by exact hS) ?rsR1x8
        case hyR1x8 => (intro uz hSw; (try dsimp only at hSw); have hxx := HBrr.out.q hSw; have d0 := hxx.cell 0 rfl; have d1 := hxx.cell 1 rfl; have d2 := hxx.cell 2 rfl; have d3 := hxx.cell 3 rfl; clear hxx; go_simp; try with_reducible rfl)
        try simp only [Act.put, List.setIfInBounds_toArray, List.set_cons_zero, List.set_cons_succ]
        change wpAnyH _ _ _ _ _ _ #[true, true, true, true, true, true, true, true, false, false, false, false, false, false, false, false, false, false, false, false, false, false, false, false, false, false, false] _ _
        refine wpAnyH_take (i := 9) (v := ?vR1x9) (by (try simp only [List.getElem?_toArray, List.getElem?_cons_succ, List.getElem?_cons_zero]); rfl) (by kernel_rfl) (by kernel_rfl) (by kernel_rfl) (by exact fun _ _ _ h => h) (Or.inl ⟨by first | kernel_rfl | rfl, ?hyR1x9⟩) (by exact hS) ?rsR1x9
        case hyR1x9 => (intro uz hSw; (try dsimp only at hSw); go_simp; try with_reducible rfl)
        try simp only [Act.put, List.setIfInBounds_toArray, List.set_cons_zero, List.set_cons_succ]
        change wpAnyH _ _ _ _ _ _ #[true, true, true, true, true, true, true, true, false, true, false, false, false, false, false, false, false, false, false, false, false, false, false, false, false, false, false] _ _
        refine wpAnyH_take (i := 10) (v := ?vR1x10) (by (try simp only [List.getElem?_toArray, List.getElem?_cons_succ, List.getElem?_cons_zero]); rfl) (by kernel_rfl) (by kernel_rfl) (by kernel_rfl) (by exact fun _ _ _ h => h) (Or.inl ⟨by first | kernel_rfl | rfl, ?hyR1x10⟩) (by exact hS) ?rsR1x10
        case hyR1x10 => (intro uz hSw; (try dsimp only at hSw); have hxx := HBxx.out.q hSw; have d0 := hxx.cell 0 rfl; have d1 := hxx.cell 1 rfl; have d2 := hxx.cell 2 rfl; have d3 := hxx.cell 3 rfl; clear hxx; go_simp; try with_reducible rfl)
        try simp only [Act.put, List.setIfInBounds_toArray, List.set_cons_zero, List.set_cons_succ]
        change wpAnyH _ _ _ _ _ _ #[true, true, true, true, true, true, true, true, false, true, true, false, false, false, false, false, false, false, false, false, false, false, false, false, false, false, false] _ _
        refine wpAnyH_take (i := 11) (v := ?vR1x11) (by (try simp only [List.getElem?_toArray, List.getElem?_cons_succ, List.getElem?_cons_zero]); rfl) (by kernel_rfl) (by kernel_rfl) (by kernel_rfl) (by exact fun _ _ _ h => h) (Or.inl ⟨by first | kernel_rfl | rfl, ?hyR1x11⟩) (by exact hS) ?rsR1x11
        case hyR1x11 => (intro uz hSw; (try dsimp only at hSw); go_simp; try with_reducible rfl)
        try simp only [Act.put, List.setIfInBounds_toArray, List.set_cons_zero, List.set_cons_succ]
        change wpAnyH _ _ _ _ _ _ #[true, true, true, true, true, true, true, true, false, true, true, true, false, false, false, false, false, false, false, false, false, false, false, false, false, false, false] _ _
        refine wpAnyH_take (i := 12) (v := ?vR1x12) (by (try simp only [List.getElem?_toArray, List.getElem?_cons_succ, List.getElem?_cons_zero]); rfl) (by kernel_rfl) (by kernel_rfl) (by kernel_rfl) (by exact fun _ _ _ h => h) (Or.inl ⟨by first | kernel_rfl | rfl, ?hyR1x12⟩) (by exact hS) ?rsR1x12
        case hyR1x12 => (intro uz hSw; (try dsimp only at hSw); go_simp; try with_reducible rfl)
        try simp only [Act.put, List.setIfInBounds_toArray, List.set_cons_zero, List.set_cons_succ]
        change wpAnyH _ _ _ _ _ _ #[true, true, true, true, true, true, true, true, false, true, true, true, true, false, false, false, false, false, false, false, false, false, false, false, false, false, false] _ _
        refine wpAnyH_take (i := 13) (v := ?vR1x13) (by (try simp only [List.getElem?_toArray, List.getElem?_cons_succ, List.getElem?_cons_zero]); rfl) (by kernel_rfl) (by kernel_rfl) (by kernel_rfl) (by exact fun _ _ _ h => h) (Or.inl ⟨by first | kernel_rfl | rfl, ?hyR1x13⟩) (by exact hS) ?rsR1x13
        case hyR1x13 => (intro uz hSw; (try dsimp only at hSw); go_simp; try with_reducible rfl)
        try simp only [Act.put, List.setIfInBounds_toArray, List.set_cons_zero, List.set_cons_succ]
        change wpAnyH _ _ _ _ _ _ #[true, true, true, true, true, true, true, true, false, true, true, true, true, true, false, false, false, false, false, false, false, false, false, false, false, false, false] _ _
        refine wpAnyH_take (i := 14) (v := ?vR1x14) (by (try simp only [List.getElem?_toArray, List.getElem?_cons_succ, List.getElem?_cons_zero]); rfl) (by kernel_rfl) (by kernel_rfl) (by kernel_rfl) (by exact fun _ _ _ h => h) (Or.inl ⟨by first | kernel_rfl | rfl, ?hyR1x14⟩) (by exact hS) ?rsR1x14
        case hyR1x14 => (intro uz hSw; (try dsimp only at hSw); go_simp; try with_reducible rfl)
        try simp only [Act.put, List.setIfInBounds_toArray, List.set_cons_zero, List.set_cons_succ]
        change wpAnyH _ _ _ _ _ _ #[true, true, true, true, true, true, true, true, false, true, true, true, true, true, true, false, false, false, false, false, false, false, false, false, false, false, false] _ _
        refine wpAnyH_ready (rs := [8]) (by kernel_rfl) (by simp) ?_
        refine (AllReadyH.cons (by (try simp only [List.getElem?_toArray, List.getElem?_cons_succ, List.getElem?_cons_zero]); rfl) (fun K hK => ?_) AllReadyH.nil)
        go_simp
        refine (HLN.out _ _ _ _ _).mono ?_
        rintro e yR1x15 ⟨rfl, hq⟩
        try (go_wp2_with fail)
        have hS2 := Q.trans hS hq
        refine hK.out _ _ (by exact hS2) (fun hHeld => ?_)
        clear hK K hHeld hS hq
        have hS := hS2
        clear hS2
        try simp only [Act.put, List.setIfInBounds_toArray, List.set_cons_zero, List.set_cons_succ]
        change wpAnyH _ _ _ _ _ _ #[true, true, true, true, true, true, true, true, true, true, true, true, true, true, true, false, false, false, false, false, false, false, false, false, false, false, false] _ _
        refine wpAnyH_take (i := 15) (v := ?vR1x16) (by (try simp only [List.getElem?_toArray, List.getElem?_cons_succ, List.getElem?_cons_zero]); rfl) (by kernel_rfl) (by kernel_rfl) (by kernel_rfl) (by exact fun _ _ _ h => h) (Or.inl ⟨by first | kernel_rfl | rfl, ?hyR1x16⟩) (by exact hS) ?rsR1x16
        case hyR1x16 => (intro uz hSw; (try dsimp only at hSw); go_simp; try with_reducible rfl)
        try simp only [Act.put, List.setIfInBounds_toArray, List.set_cons_zero, List.set_cons_succ]
        change wpAnyH _ _ _ _ _ _ #[true, true, true, true, true, true, true, true, true, true, true, true, true, true, true, true, false, false, false, false, false, false, false, false, false, false, false] _ _
        refine wpAnyH_take (i := 16) (v := ?vR1x17) (by (try simp only [List.getElem?_toArray, List.getElem?_cons_succ, List.getElem?_cons_zero]); rfl) (by kernel_rfl) (by kernel_rfl) (by kernel_rfl) (by exact fun _ _ _ h => h) (Or.inl ⟨by first | kernel_rfl | rfl, ?hyR1x17⟩) (by exact hS) ?rsR1x17
        case hyR1x17 => (intro uz hSw; (try dsimp only at hSw); go_simp; try with_reducible rfl)
        try simp only [Act.put, List.setIfInBounds_toArray, List.set_cons_zero, List.set_cons_succ]
        change wpAnyH _ _ _ _ _ _ #[true, true, true, true, true, true, true, true, true, true, true, true, true, true, true, true, true, false, false, false, false, false, false, false, false, false, false] _ _
        refine wpAnyH_take (i := 17) (v := ?vR1x18) (by (try simp only [List.getElem?_toArray, List.getElem?_cons_succ, List.getElem?_cons_zero]); rfl) (by kernel_rfl) (by kernel_rfl) (by kernel_rfl) (by exact fun _ _ _ h => h) (Or.inl ⟨by first | kernel_rfl | rfl, ?hyR1x18⟩) (by exact hS) ?rsR1x18
        case hyR1x18 => (intro uz hSw; (try dsimp only at hSw); go_simp; try with_reducible rfl)
        try simp only [Act.put, List.setIfInBounds_toArray, List.set_cons_zero, List.set_cons_succ]
        change wpAnyH _ _ _ _ _ _ #[true, true, true, true, true, true, true, true, true, true, true, true, true, true, true, true, true, true, false, false, false, false, false, false, false, false, false] _ _
        refine wpAnyH_take (i := 18) (v := ?vR1x19) (by (try simp only [List.getElem?_toArray, List.getElem?_cons_succ, List.getElem?_cons_zero]); rfl) (by kernel_rfl) (by kernel_rfl) (by kernel_rfl) (by exact fun _ _ _ h => h) (Or.inl ⟨by first | kernel_rfl | rfl, ?hyR1x19⟩) (by exact hS) ?rsR1x19
        case hyR1x19 => (intro uz hSw; (try dsimp only at hSw); have hxx := HByy.out.q hSw; have d0 := hxx.cell 0 rfl; have d1 := hxx.cell 1 rfl; have d2 := hxx.cell 2 rfl; have d3 := hxx.cell 3 rfl; clear hxx; go_simp; try with_reducible rfl)
        try simp only [Act.put, List.setIfInBounds_toArray, List.set_cons_zero, List.set_cons_succ]
        change wpAnyH _ _ _ _ _ _ #[true, true, true, true, true, true, true, true, true, true, true, true, true, true, true, true, true, true, true, false, false, false, false, false, false, false, false] _ _
        refine wpAnyH_take (i := 20) (v := ?vR1x20) (by (try simp only [List.getElem?_toArray, List.getElem?_cons_succ, List.getElem?_cons_zero]); rfl) (by kernel_rfl) (by kernel_rfl) (by kernel_rfl) (by exact fun _ _ _ h => h) (Or.inl ⟨by first | kernel_rfl | rfl, ?hyR1x20⟩) (by exact hS) ?rsR1x20
        case hyR1x20 => (intro uz hSw; (try dsimp only at hSw); have hxx := HBxx.out.q hSw; have d0 := hxx.cell 0 rfl; have d1 := hxx.cell 1 rfl; have d2 := hxx.cell 2 rfl; have d3 := hxx.cell 3 rfl; clear hxx; go_simp; try with_reducible rfl)
        try simp only [Act.put, List.setIfInBounds_toArray, List.set_cons_zero, List.set_cons_succ]
        change wpAnyH _ _ _ _ _ _ #[true, true, true, true, true, true, true, true, true, true, true, true, true, true, true, true, true, true, true, false, true, false, false, false, false, false, false] _ _
        refine wpAnyH_ready (rs := [19]) (by kernel_rfl) (by simp) ?_
        refine (AllReadyH.cons (by (try simp only [List.getElem?_toArray, List.getElem?_cons_succ, List.getElem?_cons_zero]); rfl) (fun K hK => ?_) AllReadyH.nil)
        go_simp
        refine (HAS.out _ _ _ _ _ _ _ _ _).mono ?_
        rintro e yR1x21 ⟨rfl, hq⟩
        try (go_wp2_with fail)
        have hS2 := Q.trans hS hq
        refine hK.out _ _ (by exact hS2) (fun hHeld => ?_)
        clear hK K hHeld hS hq
        have hS := hS2
        clear hS2
        try simp only [Act.put, List.setIfInBounds_toArray, List.set_cons_zero, List.set_cons_succ]
        change wpAnyH _ _ _ _ _ _ #[true, true, true, true, true, true, true, true, true, true, true, true, true, true, true, true, true, true, true, true, true, false, false, false, false, false, false] _ _
        refine wpAnyH_ready (rs := [21]) (by kernel_rfl) (by simp) ?_
        refine (AllReadyH.cons (by (try simp only [List.getElem?_toArray, List.getElem?_cons_succ, List.getElem?_cons_zero]); rfl) (fun K hK => ?_) AllReadyH.nil)
        go_simp
        refine (HSM.out _ _ _ _ _ _ _ _ _ (HI3.out.q hS) (HF3.out.q hS) (HIX.out.q hS) (HFX.out.q hS)).mono ?_
        rintro e yR1x22 ⟨rfl, hq⟩
        try (go_wp2_with fail)
        have hS2 := Q.trans hS hq
        refine hK.out _ _ (by exact hS2) (fun hHeld => ?_)
        clear hK K hHeld hS hq
        have hS := hS2
        clear hS2
        try simp only [Act.put, List.setIfInBounds_toArray, List.set_cons_zero, List.set_cons_succ]
        change wpAnyH _ _ _ _ _ _ #[true, true, true, true, true, true, true, true, true, true, true, true, true, true, true, true, true, true, true, true, true, true, false, false, false, false, false] _ _
        refine wpAnyH_take (i := 22) (v := ?vR1x23) (by (try simp only [List.getElem?_toArray, List.getElem?_cons_succ, List.getElem?_cons_zero]); rfl) (by kernel_rfl) (by kernel_rfl) (by kernel_rfl) (by exact fun _ _ _ h => h) (Or.inl ⟨by first | kernel_rfl | rfl, ?hyR1x23⟩) (by exact hS) ?rsR1x23
        case hyR1x23 => (intro uz hSw; (try dsimp only at hSw); go_simp; try with_reducible rfl)
        try simp only [Act.put, List.setIfInBounds_toArray, List.set_cons_zero, List.set_cons_succ]
        change wpAnyH _ _ _ _ _ _ #[true, true, true, true, true, true, true, true, true, true, true, true, true, true, true, true, true, true, true, true, true, true, true, false, false, false, false] _ _
        refine wpAnyH_take (i := 23) (v := ?vR1x24) (by (try simp only [List.getElem?_toArray, List.getElem?_cons_succ, List.getElem?_cons_zero]); rfl) (by kernel_rfl) (by kernel_rfl) (by kernel_rfl) (by exact fun _ _ _ h => h) (Or.inl ⟨by first | kernel_rfl | rfl, ?hyR1x24⟩) (by exact hS) ?rsR1x24
        case hyR1x24 => (intro uz hSw; (try dsimp only at hSw); go_simp; try with_reducible rfl)
        try simp only [Act.put, List.setIfInBounds_toArray, List.set_cons_zero, List.set_cons_succ]
        change wpAnyH _ _ _ _ _ _ #[true, true, true, true, true, true, true, true, true, true, true, true, true, true, true, true, true, true, true, true, true, true, true, true, false, false, false] _ _
        refine wpAnyH_ready (rs := [24]) (by kernel_rfl) (by simp) ?_
        refine (AllReadyH.cons (by (try simp only [List.getElem?_toArray, List.getElem?_cons_succ, List.getElem?_cons_zero]); rfl) (fun K hK => ?_) AllReadyH.nil)
        go_simp
        refine (HLV.out _).mono ?_
        rintro e yR1x25 ⟨rfl, hq⟩
        try (go_wp2_with fail)
        have hS2 := Q.trans hS hq
        refine hK.out _ _ (by exact hS2) (fun hHeld => ?_)
        clear hK K hHeld hS hq
        have hS := hS2
        clear hS2
        try simp only [Act.put, List.setIfInBounds_toArray, List.set_cons_zero, List.set_cons_succ]
        change wpAnyH _ _ _ _ _ _ #[true, true, true, true, true, true, true, true, true, true, true, true, true, true, true, true, true, true, true, true, true, true, true, true, true, false, false] _ _
        refine wpAnyH_take (i := 25) (v := ?vR1x26) (by (try simp only [List.getElem?_toArray, List.getElem?_cons_succ, List.getElem?_cons_zero]); rfl) (by kernel_rfl) (by kernel_rfl) (by kernel_rfl) (by exact fun _ _ _ h => h) (Or.inl ⟨by first | kernel_rfl | rfl, ?hyR1x26⟩) (by exact hS) ?rsR1x26
        case hyR1x26 => (intro uz hSw; (try dsimp only at hSw); go_simp; try with_reducible rfl)
        try simp only [Act.put, List.setIfInBounds_toArray, List.set_cons_zero, List.set_cons_succ]
        change wpAnyH _ _ _ _ _ _ #[true, true, true, true, true, true, true, true, true, true, true, true, true, true, true, true, true, true, true, true, true, true, true, true, true, true, false] _ _
        refine wpAnyH_take (i := 26) (v := ?vR1x27) (by (try simp only [List.getElem?_toArray, List.getElem?_cons_succ, List.getElem?_cons_zero]); rfl) (by kernel_rfl) (by kernel_rfl) (by kernel_rfl) (by exact fun _ _ _ h => h) (Or.inl ⟨by first | kernel_rfl | rfl, ?hyR1x27⟩) (by exact hS) ?rsR1x27
        case hyR1x27 => (intro uz hSw; (try dsimp only at hSw); go_simp; try with_reducible rfl)
        try simp only [Act.put, List.setIfInBounds_toArray, List.set_cons_zero, List.set_cons_succ]
        change wpAnyH _ _ _ _ _ _ #[true, true, true, true, true, true, true, true, true, true, true, true, true, true, true, true, true, true, true, true, true, true, true, true, true, true, true] _ _
        refine wpAnyH_done (by kernel_rfl) ?_ _
        go_wp2_with fail
        go_ret
        exact ⟨rfl, HQ.out.trans hS⟩

set_option maxRecDepth 100000 in
theorem lifted (os : Os) (started : os.Started) (H : Type) (enc : TypeId × Value → H) :
    ReturnsInHanded {} Try.checked os 7 .any (Rows.draftBackSpec.pre6 enc Try.prog Try.f7 Rows.draftBackRow.domain false) (Rows.draftBackSpec.post enc Try.prog Try.f7 false true false false) := by
  refine returnsInHanded_of_change (C := Try.checked) own started (by kernel_rfl) Try.func7
    (ChangeSpec.witness6 (enc := enc) (C := Try.checked) false ⟨#[], #[.agg #[.bool false, .slice none 0 0, .bool false, .slice none 0 0], .int .i64 0, .slice none 0 0], []⟩ 8 (by kernel_rfl) (by kernel_rfl) (by kernel_rfl) (by kernel_rfl)) ?_
  intro W base args ds gs before hval0 hW hcnd _
  have hval : ∀ (j : Nat) t v, Try.f7.params[j]? = some t → args[j]? = some v → Value.okWide Try.prog W .any base t v := hval0
  have hW' := hW
  obtain ⟨p, q, hA0, hV, rfl, hfz, hnd⟩ := hW
  have hA : DataW.TrodAll enc Try.prog W 0 (fun _ => true) true Try.f7.params.toList args.toList ds p := hA0
  rw [Try.params7] at hA hval
  obtain ⟨v0, vs0, d0, ds0, p0, q0, hargs, rfl, rfl, h0, r0⟩ := trodAll_cons hA
  obtain ⟨v1, vs1, d1, ds1, p1, q1, rfl, rfl, rfl, h1, r1⟩ := trodAll_cons r0
  obtain ⟨v2, vs2, d2, ds2, p2, q2, rfl, rfl, rfl, h2, r2⟩ := trodAll_cons r1
  obtain ⟨rfl, rfl, rfl⟩ := trodAll_nil r2
  obtain rfl : args = #[v0, v1, v2] := by cases args; simp_all
  obtain ⟨rfl, rfl⟩ := trodVars_none hV
  have k0 := h0
  have lt0 : ∀ x ∈ p0, x.block < W.heap.size := by obtain ⟨m, hm⟩ := k0; exact DataW.trod_lt m _ _ _ hm
  obtain ⟨cs0, rfl, hc0, hf0⟩ := FrH.open_any Try.underlying24 (k := 4) (by kernel_rfl) (hval 0 24 v0 rfl rfl) h0
  obtain ⟨f0_0, f0_1, f0_2, f0_3, rfl⟩ := FrH.arr4 hc0
  have hn0_1 := FrH.nest Try.underlying24 hf0 0 rfl 0 1 rfl (T := 4) rfl (by kernel_rfl) (l := [f0_0]) rfl
  have hn0_2 := FrH.nest Try.underlying24 hf0 1 rfl 1 1 rfl (T := 22) rfl (by kernel_rfl) (l := [f0_1]) rfl
  have hn0_3 := FrH.nest Try.underlying24 hf0 2 rfl 2 1 rfl (T := 4) rfl (by kernel_rfl) (l := [f0_2]) rfl
  have hn0_4 := FrH.nest Try.underlying24 hf0 3 rfl 3 1 rfl (T := 22) rfl (by kernel_rfl) (l := [f0_3]) rfl
  obtain ⟨g0_0, rfl⟩ := FrH.bool_of Try.underlying4 hn0_1
  obtain ⟨xs0_1, w0_1, b0_1⟩ := FrH.lst_of Try.underlying22 Try.underlying3 (by kernel_rfl) hn0_2
  obtain ⟨g0_2, rfl⟩ := FrH.bool_of Try.underlying4 hn0_3
  obtain ⟨xs0_3, w0_3, b0_3⟩ := FrH.lst_of Try.underlying22 Try.underlying3 (by kernel_rfl) hn0_4
  obtain ⟨a1, rfl, rfl, rfl, w1⟩ := open_int Try.underlying3 (hval 1 3 v1 rfl rfl) h1
  obtain ⟨a2, len2, cap2, rfl⟩ := okWide_slice Try.underlying22 (hval 2 22 v2 rfl rfl)
  have k2 := h2
  have lt2 : ∀ x ∈ p2, x.block < W.heap.size := by obtain ⟨m, hm⟩ := k2; exact DataW.trod_lt m _ _ _ hm
  obtain ⟨z2, w2⟩ : ∃ zs, IsRow .i64 W a2 len2 cap2 zs := by
    obtain ⟨fuel, hf⟩ := h2
    rcases open_ints Try.underlying22 Try.underlying3 (by kernel_rfl) hf with ⟨hcs, _⟩ | ⟨x, l, c, zs, hcs, _, hl, hm, hz, _, hcell, hwz⟩
    · simp [Value.cells] at hcs
      obtain ⟨rfl, rfl, rfl⟩ := hcs
      exact ⟨[], .inl ⟨rfl, rfl, rfl, rfl⟩⟩
    · simp [Value.cells] at hcs
      obtain ⟨rfl, rfl, rfl⟩ := hcs
      exact ⟨zs, .inr ⟨_, rfl, hl, hm, by simpa using hz, hcell, hwz⟩⟩
  obtain ⟨xs2, l2, _, b2⟩ := w2.lst
  clear hA0 hval0
  refine (walk W g0_0 f0_1 xs0_1 w0_1 b0_1 g0_2 f0_3 xs0_3 w0_3 b0_3 a1 (bounds_i64 w1) (.slice a2 len2 cap2) xs2 l2 b2).mono fun e W' ⟨he, bel⟩ => ?_
  subst he
  exact ⟨_, rfl, _, _, _, [], _, [], hW', trodAll_mk1 (shut_bool Try.underlying4 _), (trodAll_cons_mk (Below.trod laidOut (by kernel_rfl) (of_decide_eq_true (by kernel_rfl)) k0 bel lt0) (trodAll_cons_mk (shut_int Try.underlying3 w1) (trodAll_cons_mk (Below.trod laidOut (by kernel_rfl) (of_decide_eq_true (by kernel_rfl)) k2 bel lt2) trodAll_mk0))), rfl, bel.below.frame _, fun h => by cases h⟩

/-- The statement. -/
theorem proved : Rows.DraftBackSaid :=
  OpenClaim.holds_of_wide 7 Try.f7 rfl rfl rfl rfl rfl rfl rfl ⟨rfl, rfl, rfl, rfl, rfl⟩ rfl rfl rfl rfl rfl (by kernel_rfl) Try.func7 (by kernel_rfl)
    (of_decide_eq_true (by kernel_rfl)) (by unfold Func.isWrapper; first | (rw [if_pos (by decide +kernel)]; kernel_rfl) | (rw [if_neg (by decide +kernel)]; exact ⟨rfl, rfl⟩))
    (fun os started H enc _ => lifted os started H enc)
#print axioms proved
end Go.Proofs.Ytagpofhencpliaa.draftBack
