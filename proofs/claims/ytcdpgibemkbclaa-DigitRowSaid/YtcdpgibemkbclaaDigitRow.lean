/- DigitRow: of whatever three lists (the first 20 numbers of each, made digits), which number is greater is the document's, and an order; no conditions. -/
import Derived.Test.YtcdpgibemkbclaaRows
import Derived.WalkKit
import Derived.ProofKit
import Derived.OpenShut
import Derived.ShutString
import Derived.ChangeOld
import Derived.Below
import Derived.Test.YtcdpgibemkbclaaInts
import Derived.Test.YtcdpgibemkbclaaDigL
import Derived.Test.YtcdpgibemkbclaaDigV
import Derived.Test.YtcdpgibemkbclaaDigR
import Derived.Test.YtcdpgibemkbclaaDigS
import Derived.Test.YtcdpgibemkbclaaDigQ
set_option linter.unusedVariables false
set_option linter.unusedSimpArgs false
namespace Go.Proofs.Ytcdpgibemkbclaa.digitRow
open Go.ChangeShapes Go.WideShapes Go.ChangeAt Go.RowKit
open Go.ChangeMaps (open_string shut_string)

theorem own : ownKnob Try.prog.godebug = none := by kernel_rfl
theorem laidOut : laidOutB Try.prog = true := by kernel_rfl


set_option maxHeartbeats 4000000 in
set_option maxRecDepth 100000 in
theorem walk (w : World) (v0 : Value) (xs0 : List Int) (w0 : Lst w v0 xs0) (b0 : ∀ n ∈ xs0, -9223372036854775808 ≤ n ∧ n ≤ 9223372036854775807) (v1 : Value) (xs1 : List Int) (w1 : Lst w v1 xs1) (b1 : ∀ n ∈ xs1, -9223372036854775808 ≤ n ∧ n ≤ 9223372036854775807) (v2 : Value) (xs2 : List Int) (w2 : Lst w v2 xs2) (b2 : ∀ n ∈ xs2, -9223372036854775808 ≤ n ∧ n ≤ 9223372036854775807) :
    Calls Try.prog 5 #[v0, v1, v2] w fun e w' => e = .returned (.bool true) ∧ Q w w' := by
  have hl0 : xs0.length ≤ 9223372036854775807 := by obtain ⟨_, _, _, h1, h2⟩ := w0.shape2; unfold maxLen at h2; omega
  have hl1 : xs1.length ≤ 9223372036854775807 := by obtain ⟨_, _, _, h1, h2⟩ := w1.shape2; unfold maxLen at h2; omega
  have hl2 : xs2.length ≤ 9223372036854775807 := by obtain ⟨_, _, _, h1, h2⟩ := w2.shape2; unfold maxLen at h2; omega
  have G0 := Lib.hid (Dr.good_any v0 xs0 20 w w0 hl0 (by omega) b0)
  have G1 := Lib.hid (fun w' (q : Q w w') => Dr.good_any v1 xs1 20 w' (w1.q q) hl1 (by omega) b1)
  have G2 := Lib.hid (fun w' (q : Q w w') => Dr.good_any v2 xs2 20 w' (w2.q q) hl2 (by omega) b2)
  have hX : (Dm.gdL xs0 20).length < 1000000 := by rw [Dm.gdL_len]; omega
  have hY : (Dm.gdL xs1 20).length < 1000000 := by rw [Dm.gdL_len]; omega
  have hZ : (Dm.gdL xs2 20).length < 1000000 := by rw [Dm.gdL_len]; omega
  have kX := Dm.gdL_ok xs0 20
  have kY := Dm.gdL_ok xs1 20
  have kZ := Dm.gdL_ok xs2 20
  generalize Dm.gdL xs0 20 = X at *
  generalize Dm.gdL xs1 20 = Y at *
  generalize Dm.gdL xs2 20 = Z at *
  have C1 := Lib.hid (fun va vb w h1 h2 => Dw.compare_any va vb X Y w h1 h2 (by omega) (by omega) kX kY)
  have C2 := Lib.hid (fun va vb w h1 h2 => Dw.compare_any va vb Y Z w h1 h2 (by omega) (by omega) kY kZ)
  have C3 := Lib.hid (fun va vb w h1 h2 => Dr.compare_any va vb X Y w h1 h2 hX hY kX kY)
  have c4 := fun va vb w h1 h2 => Dw.compare_any va vb Y X w h1 h2 (by omega) (by omega) kY kX
  have C5 := Lib.hid (fun va vb w h1 h2 => Dw.compare_any va vb X Z w h1 h2 (by omega) (by omega) kX kZ)
  rw [Dm.cmpZ_neg] at c4
  have C4 := Lib.hid c4
  have hn := Dm.cmpZ_three (Dm.num X) (Dm.num Y)
  have hord : 0 < Dm.cmpZ (Dm.num X) (Dm.num Y) ∨ 0 < Dm.cmpZ (Dm.num Y) (Dm.num Z) ∨ Dm.cmpZ (Dm.num X) (Dm.num Z) ≤ 0 := by
    have h1 := Dm.cmpZ_pos (Dm.num X) (Dm.num Y)
    have h2 := Dm.cmpZ_pos (Dm.num Y) (Dm.num Z)
    have h3 := Dm.cmpZ_pos (Dm.num X) (Dm.num Z)
    omega
  generalize Dm.cmpZ (Dm.num X) (Dm.num Y) = n at *
  generalize Dm.cmpZ (Dm.num Y) (Dm.num Z) = m at *
  generalize Dm.cmpZ (Dm.num X) (Dm.num Z) = l at *
  have LV := Lib.hid Dw.lives_any
  clear c4 w0 w1 w2 b0 b1 b2 hl0 hl1 hl2 hX hY hZ kX kY kZ
  go_enter Try.func5, Try.ntmps5
  go_wp2_with fail
  refine G0.out.mono ?_
  rintro e z1 ⟨x, rfl, ho1, hq1⟩
  have LX1 := Lib.hid ho1.lst
  have Q1 := Lib.hid hq1
  clear ho1 hq1
  go_wp2_with fail
  refine (G1.out _ Q1.out).mono ?_
  rintro e z2 ⟨y, rfl, ho2, hq2⟩
  have LY2 := Lib.hid ho2.lst
  have LX2 := Lib.hid (LX1.out.q hq2)
  have Q2 := Lib.hid (Q1.out.trans hq2)
  clear ho2 hq2
  go_wp2_with fail
  refine (G2.out _ Q2.out).mono ?_
  rintro e z3 ⟨z, rfl, ho3, hq3⟩
  have LZ := Lib.hid (fun w' (q : Q z3 w') => ho3.lst.q q)
  have LX := Lib.hid (fun w' (q : Q z3 w') => (LX2.out.q hq3).q q)
  have LY := Lib.hid (fun w' (q : Q z3 w') => (LY2.out.q hq3).q q)
  have Q3 := Lib.hid (Q2.out.trans hq3)
  clear ho3 hq3
  go_wp2_with fail
  refine (C1.out _ _ _ (LX.out _ (Q.refl _)) (LY.out _ (Q.refl _))).mono ?_
  rintro e z4 ⟨rfl, hq4⟩
  have Q4 := Lib.hid hq4
  clear hq4
  go_wp2_with fail
  refine (C2.out _ _ _ (LY.out _ Q4.out) (LZ.out _ Q4.out)).mono ?_
  rintro e z5 ⟨rfl, hq5⟩
  have Q5 := Lib.hid (Q4.out.trans hq5)
  clear hq5
  go_wp2_with fail
  refine (C3.out _ _ _ (LX.out _ Q5.out) (LY.out _ Q5.out)).mono ?_
  rintro e z6 ⟨rfl, hq6⟩
  have Q6 := Lib.hid (Q5.out.trans hq6)
  clear hq6
  have HO := Lib.hid hord
  clear hord
  rcases (show n = 1 ∨ ((n = -1 ∨ n = 0) ∧ 0 < m) ∨ ((n = -1 ∨ n = 0) ∧ ¬ 0 < m ∧ l ≤ 0) from by have := HO.out; omega) with rfl | ⟨rfl | rfl, hm⟩ | ⟨rfl | rfl, hm, hl⟩
  · go_wp2_with fail
    refine (C4.out _ _ _ (LY.out _ Q6.out) (LX.out _ Q6.out)).mono ?_
    rintro e z7 ⟨rfl, hq7⟩
    have Q7 := Lib.hid (Q6.out.trans hq7)
    clear hq7
    go_wp2_with fail
    refine (LV.out _).mono ?_
    rintro e z8 ⟨rfl, hq8⟩
    have Q8 := Lib.hid (Q7.out.trans hq8)
    clear hq8
    go_wp2_with fail
    go_ret
    exact ⟨rfl, Q3.out.trans Q8.out⟩
  · go_wp2_with fail
    refine (C4.out _ _ _ (LY.out _ Q6.out) (LX.out _ Q6.out)).mono ?_
    rintro e z7 ⟨rfl, hq7⟩
    have Q7 := Lib.hid (Q6.out.trans hq7)
    clear hq7
    go_wp2_with fail
    refine (LV.out _).mono ?_
    rintro e z8 ⟨rfl, hq8⟩
    have Q8 := Lib.hid (Q7.out.trans hq8)
    clear hq8
    go_wp2_with fail
    go_ret
    exact ⟨rfl, Q3.out.trans Q8.out⟩
  · go_wp2_with fail
    refine (C4.out _ _ _ (LY.out _ Q6.out) (LX.out _ Q6.out)).mono ?_
    rintro e z7 ⟨rfl, hq7⟩
    have Q7 := Lib.hid (Q6.out.trans hq7)
    clear hq7
    go_wp2_with fail
    refine (LV.out _).mono ?_
    rintro e z8 ⟨rfl, hq8⟩
    have Q8 := Lib.hid (Q7.out.trans hq8)
    clear hq8
    go_wp2_with fail
    go_ret
    exact ⟨rfl, Q3.out.trans Q8.out⟩
  · go_wp2_with fail
    refine (C4.out _ _ _ (LY.out _ Q6.out) (LX.out _ Q6.out)).mono ?_
    rintro e z7 ⟨rfl, hq7⟩
    have Q7 := Lib.hid (Q6.out.trans hq7)
    clear hq7
    go_wp2_with fail
    refine (C5.out _ _ _ (LX.out _ Q7.out) (LZ.out _ Q7.out)).mono ?_
    rintro e z9 ⟨rfl, hq9⟩
    have Q9 := Lib.hid (Q7.out.trans hq9)
    clear hq9
    go_wp2_with fail
    refine (LV.out _).mono ?_
    rintro e z8 ⟨rfl, hq8⟩
    have Q8 := Lib.hid (Q9.out.trans hq8)
    clear hq8
    go_wp2_with fail
    go_ret
    exact ⟨rfl, Q3.out.trans Q8.out⟩
  · go_wp2_with fail
    refine (C4.out _ _ _ (LY.out _ Q6.out) (LX.out _ Q6.out)).mono ?_
    rintro e z7 ⟨rfl, hq7⟩
    have Q7 := Lib.hid (Q6.out.trans hq7)
    clear hq7
    go_wp2_with fail
    refine (C5.out _ _ _ (LX.out _ Q7.out) (LZ.out _ Q7.out)).mono ?_
    rintro e z9 ⟨rfl, hq9⟩
    have Q9 := Lib.hid (Q7.out.trans hq9)
    clear hq9
    go_wp2_with fail
    refine (LV.out _).mono ?_
    rintro e z8 ⟨rfl, hq8⟩
    have Q8 := Lib.hid (Q9.out.trans hq8)
    clear hq8
    go_wp2_with fail
    go_ret
    exact ⟨rfl, Q3.out.trans Q8.out⟩

set_option maxRecDepth 100000 in
theorem lifted (os : Os) (started : os.Started) (H : Type) (enc : TypeId × Value → H) :
    ReturnsInHanded {} Try.checked os 5 .any (Rows.digitRowSpec.pre6 enc Try.prog Try.f5 Rows.digitRowRow.domain false) (Rows.digitRowSpec.post enc Try.prog Try.f5 false true false false) := by
  refine returnsInHanded_of_change (C := Try.checked) own started (by kernel_rfl) Try.func5
    (ChangeSpec.witness6 (enc := enc) (C := Try.checked) false ⟨#[], #[.slice none 0 0, .slice none 0 0, .slice none 0 0], []⟩ 8 (by kernel_rfl) (by kernel_rfl) (by kernel_rfl) (by kernel_rfl)) ?_
  intro W base args ds gs before hval0 hW hcnd _
  have hval : ∀ (j : Nat) t v, Try.f5.params[j]? = some t → args[j]? = some v → Value.okWide Try.prog W .any base t v := hval0
  have hW' := hW
  obtain ⟨p, q, hA0, hV, rfl, hfz, hnd⟩ := hW
  have hA : DataW.TrodAll enc Try.prog W 0 (fun _ => true) true Try.f5.params.toList args.toList ds p := hA0
  rw [Try.params5] at hA hval
  obtain ⟨v0, vs0, d0, ds0, p0, q0, hargs, rfl, rfl, h0, r0⟩ := trodAll_cons hA
  obtain ⟨v1, vs1, d1, ds1, p1, q1, rfl, rfl, rfl, h1, r1⟩ := trodAll_cons r0
  obtain ⟨v2, vs2, d2, ds2, p2, q2, rfl, rfl, rfl, h2, r2⟩ := trodAll_cons r1
  obtain ⟨rfl, rfl, rfl⟩ := trodAll_nil r2
  obtain rfl : args = #[v0, v1, v2] := by cases args; simp_all
  obtain ⟨rfl, rfl⟩ := trodVars_none hV
  obtain ⟨a0, len0, cap0, rfl⟩ := okWide_slice Try.underlying22 (hval 0 22 v0 rfl rfl)
  have k0 := h0
  have lt0 : ∀ x ∈ p0, x.block < W.heap.size := by obtain ⟨m, hm⟩ := k0; exact DataW.trod_lt m _ _ _ hm
  obtain ⟨z0, w0⟩ : ∃ zs, IsRow .i64 W a0 len0 cap0 zs := by
    obtain ⟨fuel, hf⟩ := h0
    rcases open_ints Try.underlying22 Try.underlying3 (by kernel_rfl) hf with ⟨hcs, _⟩ | ⟨x, l, c, zs, hcs, _, hl, hm, hz, _, hcell, hwz⟩
    · simp [Value.cells] at hcs
      obtain ⟨rfl, rfl, rfl⟩ := hcs
      exact ⟨[], .inl ⟨rfl, rfl, rfl, rfl⟩⟩
    · simp [Value.cells] at hcs
      obtain ⟨rfl, rfl, rfl⟩ := hcs
      exact ⟨zs, .inr ⟨_, rfl, hl, hm, by simpa using hz, hcell, hwz⟩⟩
  obtain ⟨xs0, l0, _, b0⟩ := w0.lst
  obtain ⟨a1, len1, cap1, rfl⟩ := okWide_slice Try.underlying22 (hval 1 22 v1 rfl rfl)
  have k1 := h1
  have lt1 : ∀ x ∈ p1, x.block < W.heap.size := by obtain ⟨m, hm⟩ := k1; exact DataW.trod_lt m _ _ _ hm
  obtain ⟨z1, w1⟩ : ∃ zs, IsRow .i64 W a1 len1 cap1 zs := by
    obtain ⟨fuel, hf⟩ := h1
    rcases open_ints Try.underlying22 Try.underlying3 (by kernel_rfl) hf with ⟨hcs, _⟩ | ⟨x, l, c, zs, hcs, _, hl, hm, hz, _, hcell, hwz⟩
    · simp [Value.cells] at hcs
      obtain ⟨rfl, rfl, rfl⟩ := hcs
      exact ⟨[], .inl ⟨rfl, rfl, rfl, rfl⟩⟩
    · simp [Value.cells] at hcs
      obtain ⟨rfl, rfl, rfl⟩ := hcs
      exact ⟨zs, .inr ⟨_, rfl, hl, hm, by simpa using hz, hcell, hwz⟩⟩
  obtain ⟨xs1, l1, _, b1⟩ := w1.lst
  obtain ⟨a2, len2, cap2, rfl⟩ := okWide_slice Try.underlying22 (hval 2 22 v2 rfl rfl)
  have k2 := h2
  have lt2 : ∀ x ∈ p2, x.block < W.heap.size := by obtain ⟨m, hm⟩ := k2; exact DataW.trod_lt m _ _ _ hm
  obtain ⟨z2, w2⟩ : ∃ zs, IsRow .i64 W a2 len2 cap2 zs := by
    obtain ⟨fuel, hf⟩ := h2
    rcases open_ints Try.underlying22 Try.underlying3 (by kernel_rfl) hf with ⟨hcs, _⟩ | ⟨x, l, c, zs, hcs, _, hl, hm, hz, _, hcell, hwz⟩
    · simp [Value.cells] at hcs
      obtain ⟨rfl, rfl, rfl⟩ := hcs
      exact ⟨[], .inl ⟨rfl, rfl, rfl, rfl⟩⟩
    · simp [Value.cells] at hcs
      obtain ⟨rfl, rfl, rfl⟩ := hcs
      exact ⟨zs, .inr ⟨_, rfl, hl, hm, by simpa using hz, hcell, hwz⟩⟩
  obtain ⟨xs2, l2, _, b2⟩ := w2.lst
  clear hA0 hval0
  refine (walk W (.slice a0 len0 cap0) xs0 l0 b0 (.slice a1 len1 cap1) xs1 l1 b1 (.slice a2 len2 cap2) xs2 l2 b2).mono fun e W' ⟨he, bel⟩ => ?_
  subst he
  exact ⟨_, rfl, _, _, _, [], _, [], hW', trodAll_mk1 (shut_bool Try.underlying4 _), (trodAll_cons_mk (Below.trod laidOut (by kernel_rfl) (of_decide_eq_true (by kernel_rfl)) k0 bel lt0) (trodAll_cons_mk (Below.trod laidOut (by kernel_rfl) (of_decide_eq_true (by kernel_rfl)) k1 bel lt1) (trodAll_cons_mk (Below.trod laidOut (by kernel_rfl) (of_decide_eq_true (by kernel_rfl)) k2 bel lt2) trodAll_mk0))), rfl, bel.below.frame _, fun h => by cases h⟩

/-- The statement. -/
theorem proved : Rows.DigitRowSaid :=
  OpenClaim.holds_of_wide 5 Try.f5 rfl rfl rfl rfl rfl rfl rfl ⟨rfl, rfl, rfl, rfl, rfl⟩ rfl rfl rfl rfl rfl (by kernel_rfl) Try.func5 (by kernel_rfl)
    (of_decide_eq_true (by kernel_rfl)) (by unfold Func.isWrapper; first | (rw [if_pos (by decide +kernel)]; kernel_rfl) | (rw [if_neg (by decide +kernel)]; exact ⟨rfl, rfl⟩))
    (fun os started H enc _ => lifted os started H enc)
#print axioms proved
end Go.Proofs.Ytcdpgibemkbclaa.digitRow
