/- DigitTexts: of whatever text (its first 40 bytes) and whatever numbers (the first 30; raw, and made digits), a text's digits, and digits' text, are the document's, or refused, and each other's way back; no conditions. -/
import Derived.Test.YtcdpgibemkbclaaRows
import Derived.WalkKit
import Derived.ProofKit
import Derived.OpenShut
import Derived.ShutString
import Derived.ChangeOld
import Derived.Below
import Derived.Test.YtcdpgibemkbclaaInts
import Derived.Test.YtcdpgibemkbclaaUtfM
import Derived.Test.YtcdpgibemkbclaaUtfG
import Derived.Test.YtcdpgibemkbclaaUtfR
import Derived.Test.YtcdpgibemkbclaaDigL
import Derived.Test.YtcdpgibemkbclaaDigW
import Derived.Test.YtcdpgibemkbclaaDigA
import Derived.Test.YtcdpgibemkbclaaDigR
import Derived.Test.YtcdpgibemkbclaaDigO
import Derived.Test.YtcdpgibemkbclaaDigP
import Derived.Test.YtcdpgibemkbclaaDigQ
set_option linter.unusedVariables false
set_option linter.unusedSimpArgs false
namespace Go.Proofs.Ytcdpgibemkbclaa.digitTexts
open Go.ChangeShapes Go.WideShapes Go.ChangeAt Go.RowKit
open Go.ChangeMaps (open_string shut_string)

theorem own : ownKnob Try.prog.godebug = none := by kernel_rfl
theorem laidOut : laidOutB Try.prog = true := by kernel_rfl


set_option maxHeartbeats 4000000 in
set_option maxRecDepth 100000 in
theorem walk (w : World) (a0 : ByteArray) (w0 : a0.size ≤ maxLen) (v1 : Value) (xs1 : List Int) (w1 : Lst w v1 xs1) (b1 : ∀ n ∈ xs1, -9223372036854775808 ≤ n ∧ n ≤ 9223372036854775807) :
    Calls Try.prog 3 #[.string a0, v1] w fun e w' => e = .returned (.bool true) ∧ Q w w' := by
  have F0 := Lib.hid (Ur.few_any a0 40 w w0 (by omega))
  have hfs := Ur.few_size a0 40
  generalize Ur.few a0 40 = t at *
  obtain ⟨ad1, cp1, rfl, hlc1, hcm1⟩ := w1.shape2
  unfold maxLen at hcm1
  have hbig1 : xs1.length ≤ 9223372036854775807 := by omega
  have G1 := Lib.hid (fun w' (q : Q w w') => Dr.good_any _ xs1 30 w' (w1.q q) hbig1 (by omega) b1)
  obtain ⟨n1, hn1⟩ : ∃ n : Nat, n = min xs1.length 30 := ⟨_, rfl⟩
  have hnl1 : n1 ≤ xs1.length := by omega
  have hr1 := w1.take n1 hnl1
  have ht1 : (xs1.take n1).length = n1 := by rw [List.length_take]; omega
  generalize xs1.take n1 = R1 at *
  have LR1 := Lib.hid (fun w' (q : Q w w') => hr1.q q)
  obtain ⟨l1, hl1⟩ : ∃ l, l = xs1.length := ⟨_, rfl⟩
  rw [← hl1] at hlc1 hnl1 hn1 G1 hbig1 ⊢
  have hcase1 : (l1 ≤ 30 ∧ l1 = n1) ∨ (30 < l1 ∧ n1 = 30) := by omega
  have hcn1 : n1 ≤ cp1 := by omega
  have HRL1 : R1.length < 1000000 := by omega
  have hX1 : (Dm.gdL xs1 30).length < 1000000 := by rw [Dm.gdL_len]; omega
  have hXM1 : (Dm.gdL xs1 30).length ≤ 30 := by rw [Dm.gdL_len]; omega
  have kX1 := Dm.gdL_ok xs1 30
  generalize Dm.gdL xs1 30 = X1 at *
  clear hn1 hl1 hr1 w1 b1 hbig1 ht1
  have hpl := Dm.prA_len t
  have P1 := Lib.hid (fun w => Dw.parseR t w (by omega))
  have P2 := Lib.hid (fun w => Dr.parseR t w (by omega))
  have TX := Lib.hid (fun v w h => Dw.textR v X1 w h hX1)
  have TX2 := Lib.hid (fun v w h => Dr.textR v X1 w h hX1)
  have hts : (Dm.txtB X1).size < 1000000 := by rw [Dm.txt_size]; omega
  have p3 := fun w => Dw.parseR (Dm.txtB X1) w hts
  rw [Dm.prA_txt kX1, Dm.prC_txt kX1] at p3
  have P3 := Lib.hid p3
  rw [Dm.txR_ok kX1] at TX TX2
  have SM := Lib.hid (fun va vb w h1 h2 => Ur.same_any va vb (Dm.prA t) (Dm.prA t) w h1 h2 (by omega) (by omega))
  have SX := Lib.hid (fun va vb w h1 h2 => Ur.same_any va vb X1 X1 w h1 h2 (by omega) (by omega))
  have M1 := Lib.hid (fun v w h => Dw.may_any v R1 w h (by omega))
  have M2 := Lib.hid (fun v w h => Dr.may_any v R1 w h (by omega))
  have T1 := Lib.hid (fun v w h => Dw.textR v R1 w h HRL1)
  have T2 := Lib.hid (fun v w h => Dr.textR v R1 w h HRL1)
  have mx := fun v w h => Dw.may_any v X1 w h (by omega)
  rw [(Dm.okB_iff X1).2 kX1] at mx
  have MX := Lib.hid mx
  have TB := Lib.hid (fun v w h (hb : Dm.okS t = true) => (by have e := Dw.textR v (Dm.prA t) w h (by omega); rwa [Dm.txt_prA hb] at e : Calls Try.prog 14 #[v] w fun e w' => e = .returned (.string t) ∧ Q w w'))
  have PC1 := Lib.hid (fun (h : Dm.okS t = true) => Dm.prC_ok h)
  have PC2 := Lib.hid (fun (h : Dm.okS t = false) => Dm.prC_bad h)
  generalize Dm.prA t = A at *
  generalize Dm.prC t = C at *
  generalize Dm.okB R1 = r at *
  generalize Dm.txR R1 = tr at *
  generalize Dm.txtB X1 = tx at *
  have LV := Lib.hid Dw.lives_any
  simp only [decide_true] at SM SX
  clear p3 mx hpl hts hX1 kX1 HRL1
  rcases hcase1 with ⟨g1, rfl⟩ | ⟨g1, rfl⟩
  all_goals
    go_enter Try.func3, Try.ntmps3
    have Q0 := Lib.hid (Q.refl w)
    go_wp2_with fail
    refine (F0.out).mono ?_
    rintro e y0 ⟨rfl, rfl⟩
    go_wp2_with fail
    refine (G1.out _ Q0.out).mono ?_
    rintro e z1 ⟨u_X, rfl, hu, hq⟩
    have L1_R := Lib.hid (fun w' (q : Q z1 w') => LR1.out w' (hq.trans q))
    clear LR1
    have L1_X := Lib.hid (fun w' (q : Q z1 w') => Lst.q hu.lst q)
    clear hu
    have Q1 := Lib.hid (Q0.out.trans hq)
    clear hq Q0
    go_wp2_with fail
    refine (P1.out _).mono ?_
    rintro e z2 ⟨u_a, rfl, hu, hq⟩
    have L2_R := Lib.hid (fun w' (q : Q z2 w') => L1_R.out w' (hq.trans q))
    clear L1_R
    have L2_X := Lib.hid (fun w' (q : Q z2 w') => L1_X.out w' (hq.trans q))
    clear L1_X
    have L2_a := Lib.hid (fun w' (q : Q z2 w') => Lst.q hu q)
    clear hu
    have Q2 := Lib.hid (Q1.out.trans hq)
    clear hq Q1
    go_wp2_with fail
    refine (P2.out _).mono ?_
    rintro e z3 ⟨u_b, rfl, hu, hq⟩
    have L3_R := Lib.hid (fun w' (q : Q z3 w') => L2_R.out w' (hq.trans q))
    clear L2_R
    have L3_X := Lib.hid (fun w' (q : Q z3 w') => L2_X.out w' (hq.trans q))
    clear L2_X
    have L3_a := Lib.hid (fun w' (q : Q z3 w') => L2_a.out w' (hq.trans q))
    clear L2_a
    have L3_b := Lib.hid (fun w' (q : Q z3 w') => Lst.q hu q)
    clear hu
    have Q3 := Lib.hid (Q2.out.trans hq)
    clear hq Q2
    go_wp2_with fail
    refine (TX.out _ _ (L3_X.out _ (Q.refl _))).mono ?_
    rintro e z4 ⟨rfl, hq⟩
    have L4_R := Lib.hid (fun w' (q : Q z4 w') => L3_R.out w' (hq.trans q))
    clear L3_R
    have L4_X := Lib.hid (fun w' (q : Q z4 w') => L3_X.out w' (hq.trans q))
    clear L3_X
    have L4_a := Lib.hid (fun w' (q : Q z4 w') => L3_a.out w' (hq.trans q))
    clear L3_a
    have L4_b := Lib.hid (fun w' (q : Q z4 w') => L3_b.out w' (hq.trans q))
    clear L3_b
    have Q4 := Lib.hid (Q3.out.trans hq)
    clear hq Q3
    go_wp2_with fail
    refine (P3.out _).mono ?_
    rintro e z5 ⟨u_back, rfl, hu, hq⟩
    have L5_R := Lib.hid (fun w' (q : Q z5 w') => L4_R.out w' (hq.trans q))
    clear L4_R
    have L5_X := Lib.hid (fun w' (q : Q z5 w') => L4_X.out w' (hq.trans q))
    clear L4_X
    have L5_a := Lib.hid (fun w' (q : Q z5 w') => L4_a.out w' (hq.trans q))
    clear L4_a
    have L5_b := Lib.hid (fun w' (q : Q z5 w') => L4_b.out w' (hq.trans q))
    clear L4_b
    have L5_back := Lib.hid (fun w' (q : Q z5 w') => Lst.q hu q)
    clear hu
    have Q5 := Lib.hid (Q4.out.trans hq)
    clear hq Q4
    go_wp2_with fail
    refine (SM.out _ _ _ (L5_a.out _ (Q.refl _)) (L5_b.out _ (Q.refl _))).mono ?_
    rintro e z6 ⟨rfl, hq⟩
    have L6_R := Lib.hid (fun w' (q : Q z6 w') => L5_R.out w' (hq.trans q))
    clear L5_R
    have L6_X := Lib.hid (fun w' (q : Q z6 w') => L5_X.out w' (hq.trans q))
    clear L5_X
    have L6_a := Lib.hid (fun w' (q : Q z6 w') => L5_a.out w' (hq.trans q))
    clear L5_a
    have L6_b := Lib.hid (fun w' (q : Q z6 w') => L5_b.out w' (hq.trans q))
    clear L5_b
    have L6_back := Lib.hid (fun w' (q : Q z6 w') => L5_back.out w' (hq.trans q))
    clear L5_back
    have Q6 := Lib.hid (Q5.out.trans hq)
    clear hq Q5
    go_wp2_with fail
    refine (M1.out _ _ (L6_R.out _ (Q.refl _))).mono ?_
    rintro e y1 ⟨rfl, rfl⟩
    go_wp2_with fail
    refine (M2.out _ _ (L6_R.out _ (Q.refl _))).mono ?_
    rintro e y2 ⟨rfl, rfl⟩
    go_wp2_with fail
    refine (T1.out _ _ (L6_R.out _ (Q.refl _))).mono ?_
    rintro e z7 ⟨rfl, hq⟩
    have L7_R := Lib.hid (fun w' (q : Q z7 w') => L6_R.out w' (hq.trans q))
    clear L6_R
    have L7_X := Lib.hid (fun w' (q : Q z7 w') => L6_X.out w' (hq.trans q))
    clear L6_X
    have L7_a := Lib.hid (fun w' (q : Q z7 w') => L6_a.out w' (hq.trans q))
    clear L6_a
    have L7_b := Lib.hid (fun w' (q : Q z7 w') => L6_b.out w' (hq.trans q))
    clear L6_b
    have L7_back := Lib.hid (fun w' (q : Q z7 w') => L6_back.out w' (hq.trans q))
    clear L6_back
    have Q7 := Lib.hid (Q6.out.trans hq)
    clear hq Q6
    go_wp2_with fail
    refine (T2.out _ _ (L7_R.out _ (Q.refl _))).mono ?_
    rintro e z8 ⟨rfl, hq⟩
    have L8_R := Lib.hid (fun w' (q : Q z8 w') => L7_R.out w' (hq.trans q))
    clear L7_R
    have L8_X := Lib.hid (fun w' (q : Q z8 w') => L7_X.out w' (hq.trans q))
    clear L7_X
    have L8_a := Lib.hid (fun w' (q : Q z8 w') => L7_a.out w' (hq.trans q))
    clear L7_a
    have L8_b := Lib.hid (fun w' (q : Q z8 w') => L7_b.out w' (hq.trans q))
    clear L7_b
    have L8_back := Lib.hid (fun w' (q : Q z8 w') => L7_back.out w' (hq.trans q))
    clear L7_back
    have Q8 := Lib.hid (Q7.out.trans hq)
    clear hq Q7
    go_wp2_with fail
    refine (TX.out _ _ (L8_X.out _ (Q.refl _))).mono ?_
    rintro e z9 ⟨rfl, hq⟩
    have L9_R := Lib.hid (fun w' (q : Q z9 w') => L8_R.out w' (hq.trans q))
    clear L8_R
    have L9_X := Lib.hid (fun w' (q : Q z9 w') => L8_X.out w' (hq.trans q))
    clear L8_X
    have L9_a := Lib.hid (fun w' (q : Q z9 w') => L8_a.out w' (hq.trans q))
    clear L8_a
    have L9_b := Lib.hid (fun w' (q : Q z9 w') => L8_b.out w' (hq.trans q))
    clear L8_b
    have L9_back := Lib.hid (fun w' (q : Q z9 w') => L8_back.out w' (hq.trans q))
    clear L8_back
    have Q9 := Lib.hid (Q8.out.trans hq)
    clear hq Q8
    go_wp2_with fail
    refine (TX2.out _ _ (L9_X.out _ (Q.refl _))).mono ?_
    rintro e z10 ⟨rfl, hq⟩
    have L10_R := Lib.hid (fun w' (q : Q z10 w') => L9_R.out w' (hq.trans q))
    clear L9_R
    have L10_X := Lib.hid (fun w' (q : Q z10 w') => L9_X.out w' (hq.trans q))
    clear L9_X
    have L10_a := Lib.hid (fun w' (q : Q z10 w') => L9_a.out w' (hq.trans q))
    clear L9_a
    have L10_b := Lib.hid (fun w' (q : Q z10 w') => L9_b.out w' (hq.trans q))
    clear L9_b
    have L10_back := Lib.hid (fun w' (q : Q z10 w') => L9_back.out w' (hq.trans q))
    clear L9_back
    have Q10 := Lib.hid (Q9.out.trans hq)
    clear hq Q9
    go_wp2_with fail
    refine (MX.out _ _ (L10_X.out _ (Q.refl _))).mono ?_
    rintro e y3 ⟨rfl, rfl⟩
    go_wp2_with fail
    refine (SX.out _ _ _ (L10_back.out _ (Q.refl _)) (L10_X.out _ (Q.refl _))).mono ?_
    rintro e z11 ⟨rfl, hq⟩
    have L11_R := Lib.hid (fun w' (q : Q z11 w') => L10_R.out w' (hq.trans q))
    clear L10_R
    have L11_X := Lib.hid (fun w' (q : Q z11 w') => L10_X.out w' (hq.trans q))
    clear L10_X
    have L11_a := Lib.hid (fun w' (q : Q z11 w') => L10_a.out w' (hq.trans q))
    clear L10_a
    have L11_b := Lib.hid (fun w' (q : Q z11 w') => L10_b.out w' (hq.trans q))
    clear L10_b
    have L11_back := Lib.hid (fun w' (q : Q z11 w') => L10_back.out w' (hq.trans q))
    clear L10_back
    have Q11 := Lib.hid (Q10.out.trans hq)
    clear hq Q10
    cases hb : Dm.okS t
    · have hc := PC2.out hb
      subst hc
      clear hb
      go_wp2_with fail
      refine (LV.out _).mono ?_
      rintro e z12 ⟨rfl, hq⟩
      have L12_R := Lib.hid (fun w' (q : Q z12 w') => L11_R.out w' (hq.trans q))
      clear L11_R
      have L12_X := Lib.hid (fun w' (q : Q z12 w') => L11_X.out w' (hq.trans q))
      clear L11_X
      have L12_a := Lib.hid (fun w' (q : Q z12 w') => L11_a.out w' (hq.trans q))
      clear L11_a
      have L12_b := Lib.hid (fun w' (q : Q z12 w') => L11_b.out w' (hq.trans q))
      clear L11_b
      have L12_back := Lib.hid (fun w' (q : Q z12 w') => L11_back.out w' (hq.trans q))
      clear L11_back
      have Q12 := Lib.hid (Q11.out.trans hq)
      clear hq Q11
      go_wp2_with fail
      go_ret
      exact ⟨rfl, Q12.out⟩
    · have hc := PC1.out hb
      subst hc
      have TB2 := Lib.hid (fun v w h => TB.out v w h hb)
      clear hb
      go_wp2_with fail
      refine (TB2.out _ _ (L11_a.out _ (Q.refl _))).mono ?_
      rintro e z12 ⟨rfl, hq⟩
      have L12_R := Lib.hid (fun w' (q : Q z12 w') => L11_R.out w' (hq.trans q))
      clear L11_R
      have L12_X := Lib.hid (fun w' (q : Q z12 w') => L11_X.out w' (hq.trans q))
      clear L11_X
      have L12_a := Lib.hid (fun w' (q : Q z12 w') => L11_a.out w' (hq.trans q))
      clear L11_a
      have L12_b := Lib.hid (fun w' (q : Q z12 w') => L11_b.out w' (hq.trans q))
      clear L11_b
      have L12_back := Lib.hid (fun w' (q : Q z12 w') => L11_back.out w' (hq.trans q))
      clear L11_back
      have Q12 := Lib.hid (Q11.out.trans hq)
      clear hq Q11
      go_wp2_with fail
      refine (LV.out _).mono ?_
      rintro e z13 ⟨rfl, hq⟩
      have L13_R := Lib.hid (fun w' (q : Q z13 w') => L12_R.out w' (hq.trans q))
      clear L12_R
      have L13_X := Lib.hid (fun w' (q : Q z13 w') => L12_X.out w' (hq.trans q))
      clear L12_X
      have L13_a := Lib.hid (fun w' (q : Q z13 w') => L12_a.out w' (hq.trans q))
      clear L12_a
      have L13_b := Lib.hid (fun w' (q : Q z13 w') => L12_b.out w' (hq.trans q))
      clear L12_b
      have L13_back := Lib.hid (fun w' (q : Q z13 w') => L12_back.out w' (hq.trans q))
      clear L12_back
      have Q13 := Lib.hid (Q12.out.trans hq)
      clear hq Q12
      go_wp2_with fail
      go_ret
      exact ⟨rfl, Q13.out⟩

set_option maxRecDepth 100000 in
theorem lifted (os : Os) (started : os.Started) (H : Type) (enc : TypeId × Value → H) :
    ReturnsInHanded {} Try.checked os 3 .any (Rows.digitTextsSpec.pre6 enc Try.prog Try.f3 Rows.digitTextsRow.domain false) (Rows.digitTextsSpec.post enc Try.prog Try.f3 false true false false) := by
  refine returnsInHanded_of_change (C := Try.checked) own started (by kernel_rfl) Try.func3
    (ChangeSpec.witness6 (enc := enc) (C := Try.checked) false ⟨#[], #[.string ByteArray.empty, .slice none 0 0], []⟩ 8 (by kernel_rfl) (by kernel_rfl) (by kernel_rfl) (by kernel_rfl)) ?_
  intro W base args ds gs before hval0 hW hcnd _
  have hval : ∀ (j : Nat) t v, Try.f3.params[j]? = some t → args[j]? = some v → Value.okWide Try.prog W .any base t v := hval0
  have hW' := hW
  obtain ⟨p, q, hA0, hV, rfl, hfz, hnd⟩ := hW
  have hA : DataW.TrodAll enc Try.prog W 0 (fun _ => true) true Try.f3.params.toList args.toList ds p := hA0
  rw [Try.params3] at hA hval
  obtain ⟨v0, vs0, d0, ds0, p0, q0, hargs, rfl, rfl, h0, r0⟩ := trodAll_cons hA
  obtain ⟨v1, vs1, d1, ds1, p1, q1, rfl, rfl, rfl, h1, r1⟩ := trodAll_cons r0
  obtain ⟨rfl, rfl, rfl⟩ := trodAll_nil r1
  obtain rfl : args = #[v0, v1] := by cases args; simp_all
  obtain ⟨rfl, rfl⟩ := trodVars_none hV
  obtain ⟨a0, rfl, rfl, rfl, w0⟩ := open_string Try.underlying9 (hval 0 9 v0 rfl rfl) h0
  obtain ⟨a1, len1, cap1, rfl⟩ := okWide_slice Try.underlying22 (hval 1 22 v1 rfl rfl)
  have k1 := h1
  have lt1 : ∀ x ∈ p1, x.block < W.heap.size := by obtain ⟨m, hm⟩ := k1; exact DataW.trod_lt m _ _ _ hm
  obtain ⟨z1, w1⟩ : ∃ zs, IsRow .i64 W a1 len1 cap1 zs := by
    obtain ⟨fuel, hf⟩ := h1
    rcases open_ints Try.underlying22 Try.underlying3 (by kernel_rfl) hf with ⟨hcs, _⟩ | ⟨x, l, c, zs, hcs, _, hl, hm, hz, _, hcell, hwz⟩
    · simp [Value.cells] at hcs
      obtain ⟨rfl, rfl, rfl⟩ := hcs
      exact ⟨[], .inl ⟨rfl, rfl, rfl, rfl⟩⟩
    · simp [Value.cells] at hcs
      obtain ⟨rfl, rfl, rfl⟩ := hcs
      exact ⟨zs, .inr ⟨_, rfl, hl, hm, by simpa using hz, hcell, hwz⟩⟩
  obtain ⟨xs1, l1, _, b1⟩ := w1.lst
  clear hA0 hval0
  refine (walk W a0 w0 (.slice a1 len1 cap1) xs1 l1 b1).mono fun e W' ⟨he, bel⟩ => ?_
  subst he
  exact ⟨_, rfl, _, _, _, [], _, [], hW', trodAll_mk1 (shut_bool Try.underlying4 _), (trodAll_cons_mk (shut_string Try.underlying9 w0) (trodAll_cons_mk (Below.trod laidOut (by kernel_rfl) (of_decide_eq_true (by kernel_rfl)) k1 bel lt1) trodAll_mk0)), rfl, bel.below.frame _, fun h => by cases h⟩

/-- The statement. -/
theorem proved : Rows.DigitTextsSaid :=
  OpenClaim.holds_of_wide 3 Try.f3 rfl rfl rfl rfl rfl rfl rfl ⟨rfl, rfl, rfl, rfl, rfl⟩ rfl rfl rfl rfl rfl (by kernel_rfl) Try.func3 (by kernel_rfl)
    (of_decide_eq_true (by kernel_rfl)) (by unfold Func.isWrapper; first | (rw [if_pos (by decide +kernel)]; kernel_rfl) | (rw [if_neg (by decide +kernel)]; exact ⟨rfl, rfl⟩))
    (fun os started H enc _ => lifted os started H enc)
#print axioms proved
end Go.Proofs.Ytcdpgibemkbclaa.digitTexts
