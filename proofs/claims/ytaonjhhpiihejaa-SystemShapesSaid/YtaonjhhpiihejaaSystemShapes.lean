/- SystemShapes: of whatever number (made a name), whatever numbers (the first 20; raw, and made digits) and whatever text (the first 12 bytes) as a name, digits that are shaped are the document's, or refused, and read as they were; no conditions. -/
import Derived.Test.YtaonjhhpiihejaaRows
import Derived.WalkKit
import Derived.ProofKit
import Derived.OpenShut
import Derived.ShutString
import Derived.ChangeOld
import Derived.Below
import Derived.Lib.SmallJoins
import Derived.Test.YtaonjhhpiihejaaInts
import Derived.Test.YtaonjhhpiihejaaUtfM
import Derived.Test.YtaonjhhpiihejaaUtfG
import Derived.Test.YtaonjhhpiihejaaUtfR
import Derived.Test.YtaonjhhpiihejaaUtfW
import Derived.Test.YtaonjhhpiihejaaEls
import Derived.Test.YtaonjhhpiihejaaDigM
import Derived.Test.YtaonjhhpiihejaaDigL
import Derived.Test.YtaonjhhpiihejaaDigR
import Derived.Test.YtaonjhhpiihejaaDigW
import Derived.Test.YtaonjhhpiihejaaSysM
import Derived.Test.YtaonjhhpiihejaaSysN
import Derived.Test.YtaonjhhpiihejaaSysP
import Derived.Test.YtaonjhhpiihejaaSysQ
import Derived.Test.YtaonjhhpiihejaaSysR
import Derived.Test.YtaonjhhpiihejaaSysT
set_option linter.unusedVariables false
set_option linter.unusedSimpArgs false
namespace Go.Proofs.Ytaonjhhpiihejaa.systemShapes
open Go.ChangeShapes Go.WideShapes Go.ChangeAt Go.RowKit
open Go.ChangeMaps (open_string shut_string)

theorem own : ownKnob Try.prog.godebug = none := by kernel_rfl
theorem laidOut : laidOutB Try.prog = true := by kernel_rfl

open Sm Um

set_option maxHeartbeats 8000000 in
set_option maxRecDepth 100000 in
theorem walk (w : World) (a0 : Int) (w0 : -9223372036854775808 ≤ a0 ∧ a0 ≤ 9223372036854775807) (v1 : Value) (xs1 : List Int) (w1 : Lst w v1 xs1) (b1 : ∀ n ∈ xs1, -9223372036854775808 ≤ n ∧ n ≤ 9223372036854775807) (a2 : ByteArray) (w2 : a2.size ≤ maxLen) :
    Calls Try.prog 5 #[.int .i64 a0, v1, .string a2] w fun e w' => e = .returned (.bool true) ∧ Q w w' := by
  have F_t := Lib.hid (fun w => Ur.few_any a2 12 w w2 (by omega))
  have hs_t := Ur.few_size a2 12
  generalize Ur.few a2 12 = t at *
  have hm_t : t.size ≤ maxLen := by unfold maxLen; omega
  have hg_t : t.size ≤ 1073741824 := by omega
  have NM_p := fun w => Sr.name_any a0 w w0.1 w0.2
  obtain ⟨p, z, hp_p, hz_p, hb_p, hs_p, _⟩ := Sr.made a0
  rw [← hp_p] at NM_p
  have N_p := Lib.hid NM_p
  have hm_p : p.size ≤ maxLen := by unfold maxLen; omega
  have hn_p : z ≠ -1 := by omega
  clear NM_p hp_p
  obtain ⟨ad1, cp1, rfl, hlc1, hcm1⟩ := w1.shape2
  unfold maxLen at hcm1
  have hbig1 : xs1.length ≤ 9223372036854775807 := by omega
  have G1 := Lib.hid (fun w' (q : Q w w') => Dr.good_any _ xs1 20 w' (w1.q q) hbig1 (by omega) b1)
  obtain ⟨n1, hn1⟩ : ∃ n : Nat, n = min xs1.length 20 := ⟨_, rfl⟩
  have hnl1 : n1 ≤ xs1.length := by omega
  have hr1 := w1.take n1 hnl1
  have ht1 : (xs1.take n1).length = n1 := by rw [List.length_take]; omega
  generalize xs1.take n1 = R1 at *
  have LR1 := Lib.hid (fun w' (q : Q w w') => hr1.q q)
  obtain ⟨l1, hl1⟩ : ∃ l, l = xs1.length := ⟨_, rfl⟩
  rw [← hl1] at hlc1 hnl1 hn1 G1 hbig1 ⊢
  have hcase1 : (l1 ≤ 20 ∧ l1 = n1) ∨ (20 < l1 ∧ n1 = 20) := by omega
  have hcn1 : n1 ≤ cp1 := by omega
  have HRL1 : R1.length < 1000000 := by omega
  have hX1 : (Dm.gdL xs1 20).length < 1000000 := by rw [Dm.gdL_len]; omega
  have hXM1 : (Dm.gdL xs1 20).length ≤ 20 := by rw [Dm.gdL_len]; omega
  have kX1 := Dm.gdL_ok xs1 20
  generalize Dm.gdL xs1 20 = X1 at *
  clear hn1 hl1 hr1 w1 b1 hbig1 ht1
  have hsa := shS_ok_len hn_p kX1
  have hXR : X1.length ≤ 1073741824 := by omega
  have hRR : R1.length ≤ 1073741824 := by omega
  have A1 := fun v w h => Sy.shape_any p v X1 w hm_p h hXR
  have A2 := fun v w h => Sr.shape_any p v X1 w h hXR
  have A3 := fun v w h => Sy.shape_any p v R1 w hm_p h hRR
  have A4 := fun v w h => Sr.shape_any p v R1 w h hRR
  have A5 := fun v w h => Sy.shape_any t v R1 w hm_t h hRR
  have A6 := fun v w h => Sr.shape_any t v R1 w h hRR
  rw [hz_p] at A1 A2 A3 A4
  rw [shE_ok hn_p kX1] at A1 A2
  have hrs : (⟨(shS z X1).toArray⟩ : ByteArray).size ≤ 1073741824 := by
    rw [← size_list]
    show (shS z X1).length ≤ _
    omega
  have A7 := fun w => Sy.read_any p ⟨(shS z X1).toArray⟩ w hm_p hrs
  rw [hz_p] at A7
  have hdl : (⟨(shS z X1).toArray⟩ : ByteArray).data.toList = shS z X1 := rfl
  rw [hdl, rdE_back hb_p kX1, rdL_back hb_p kX1] at A7
  have SX := fun va vb w h1 h2 => Ur.same_any va vb X1 X1 w h1 h2 (by omega) (by omega)
  simp only [decide_true] at SX
  have H1 := Lib.hid A1
  have H2 := Lib.hid A2
  have H3 := Lib.hid A3
  have H4 := Lib.hid A4
  have H5 := Lib.hid A5
  have H6 := Lib.hid A6
  have H7 := Lib.hid A7
  have HS := Lib.hid SX
  clear A1 A2 A3 A4 A5 A6 A7 SX hdl hrs hsa hX1 hXM1 hXR
  generalize (⟨(shS z X1).toArray⟩ : ByteArray) = SA at *
  generalize (⟨(shS z R1).toArray⟩ : ByteArray) = SB at *
  generalize (⟨(shS (nz t.data.toList) R1).toArray⟩ : ByteArray) = SC at *
  generalize shE z R1 = EB at *
  generalize shE (nz t.data.toList) R1 = EC at *
  clear hz_p hb_p hn_p kX1 HRL1 hRR
  rcases hcase1 with ⟨g1, rfl⟩ | ⟨g1, rfl⟩
  all_goals
    first
    | have hmin : min (l1 : Int) 20 = (l1 : Int) := by omega
    | have hmin : min (l1 : Int) 20 = 20 := by omega
    go_enter Try.func5, Try.ntmps5
    have Q0 := Lib.hid (Q.refl w)
    go_wp2_with fail
    refine (F_t.out _).mono ?_
    rintro e y0 ⟨rfl, rfl⟩
    go_wp2_with fail
    refine (N_p.out _).mono ?_
    rintro e z1 ⟨rfl, hq⟩
    have L1_R := Lib.hid (fun w' (q : Q z1 w') => LR1.out w' (hq.trans q))
    clear LR1
    have Q1 := Lib.hid (Q0.out.trans hq)
    clear hq Q0
    go_wp2_with fail
    refine ((G1.out _ Q1.out)).mono ?_
    rintro e z2 ⟨u_X, rfl, hu, hq⟩
    have L2_R := Lib.hid (fun w' (q : Q z2 w') => L1_R.out w' (hq.trans q))
    clear L1_R
    have L2_X := Lib.hid (fun w' (q : Q z2 w') => Lst.q hu.lst q)
    clear hu
    have Q2 := Lib.hid (Q1.out.trans hq)
    clear hq Q1
    go_wp2_with fail
    refine (H1.out _ _ (L2_X.out _ (Q.refl _))).mono ?_
    rintro e z3 ⟨rfl, hq⟩
    have L3_R := Lib.hid (fun w' (q : Q z3 w') => L2_R.out w' (hq.trans q))
    clear L2_R
    have L3_X := Lib.hid (fun w' (q : Q z3 w') => L2_X.out w' (hq.trans q))
    clear L2_X
    have Q3 := Lib.hid (Q2.out.trans hq)
    clear hq Q2
    go_wp2_with fail
    refine (H2.out _ _ (L3_X.out _ (Q.refl _))).mono ?_
    rintro e z4 ⟨rfl, hq⟩
    have L4_R := Lib.hid (fun w' (q : Q z4 w') => L3_R.out w' (hq.trans q))
    clear L3_R
    have L4_X := Lib.hid (fun w' (q : Q z4 w') => L3_X.out w' (hq.trans q))
    clear L3_X
    have Q4 := Lib.hid (Q3.out.trans hq)
    clear hq Q3
    go_wp2_with fail
    refine (H3.out _ _ (L4_R.out _ (Q.refl _))).mono ?_
    rintro e z5 ⟨rfl, hq⟩
    have L5_R := Lib.hid (fun w' (q : Q z5 w') => L4_R.out w' (hq.trans q))
    clear L4_R
    have L5_X := Lib.hid (fun w' (q : Q z5 w') => L4_X.out w' (hq.trans q))
    clear L4_X
    have Q5 := Lib.hid (Q4.out.trans hq)
    clear hq Q4
    go_wp2_with fail
    refine (H4.out _ _ (L5_R.out _ (Q.refl _))).mono ?_
    rintro e z6 ⟨rfl, hq⟩
    have L6_R := Lib.hid (fun w' (q : Q z6 w') => L5_R.out w' (hq.trans q))
    clear L5_R
    have L6_X := Lib.hid (fun w' (q : Q z6 w') => L5_X.out w' (hq.trans q))
    clear L5_X
    have Q6 := Lib.hid (Q5.out.trans hq)
    clear hq Q5
    go_wp2_with fail
    refine (H5.out _ _ (L6_R.out _ (Q.refl _))).mono ?_
    rintro e z7 ⟨rfl, hq⟩
    have L7_R := Lib.hid (fun w' (q : Q z7 w') => L6_R.out w' (hq.trans q))
    clear L6_R
    have L7_X := Lib.hid (fun w' (q : Q z7 w') => L6_X.out w' (hq.trans q))
    clear L6_X
    have Q7 := Lib.hid (Q6.out.trans hq)
    clear hq Q6
    go_wp2_with fail
    refine (H6.out _ _ (L7_R.out _ (Q.refl _))).mono ?_
    rintro e z8 ⟨rfl, hq⟩
    have L8_R := Lib.hid (fun w' (q : Q z8 w') => L7_R.out w' (hq.trans q))
    clear L7_R
    have L8_X := Lib.hid (fun w' (q : Q z8 w') => L7_X.out w' (hq.trans q))
    clear L7_X
    have Q8 := Lib.hid (Q7.out.trans hq)
    clear hq Q7
    go_wp2_with fail
    refine (H7.out _).mono ?_
    rintro e z9 ⟨u_b, rfl, hu, hq⟩
    have L9_R := Lib.hid (fun w' (q : Q z9 w') => L8_R.out w' (hq.trans q))
    clear L8_R
    have L9_X := Lib.hid (fun w' (q : Q z9 w') => L8_X.out w' (hq.trans q))
    clear L8_X
    have L9_b := Lib.hid (fun w' (q : Q z9 w') => Lst.q hu.lst q)
    clear hu
    have Q9 := Lib.hid (Q8.out.trans hq)
    clear hq Q8
    go_wp2_with fail
    refine (HS.out _ _ _ (L9_b.out _ (Q.refl _)) (L9_X.out _ (Q.refl _))).mono ?_
    rintro e z10 ⟨rfl, hq⟩
    have L10_R := Lib.hid (fun w' (q : Q z10 w') => L9_R.out w' (hq.trans q))
    clear L9_R
    have L10_X := Lib.hid (fun w' (q : Q z10 w') => L9_X.out w' (hq.trans q))
    clear L9_X
    have L10_b := Lib.hid (fun w' (q : Q z10 w') => L9_b.out w' (hq.trans q))
    clear L9_b
    have Q10 := Lib.hid (Q9.out.trans hq)
    clear hq Q9
    go_wp2_with fail
    refine (Sr.lives_any _).mono ?_
    rintro e z11 ⟨rfl, hq⟩
    have L11_R := Lib.hid (fun w' (q : Q z11 w') => L10_R.out w' (hq.trans q))
    clear L10_R
    have L11_X := Lib.hid (fun w' (q : Q z11 w') => L10_X.out w' (hq.trans q))
    clear L10_X
    have L11_b := Lib.hid (fun w' (q : Q z11 w') => L10_b.out w' (hq.trans q))
    clear L10_b
    have Q11 := Lib.hid (Q10.out.trans hq)
    clear hq Q10
    go_wp2_with fail
    go_ret
    exact ⟨rfl, Q11.out⟩

set_option maxRecDepth 100000 in
theorem lifted (os : Os) (started : os.Started) (H : Type) (enc : TypeId × Value → H) :
    ReturnsInHanded {} Try.checked os 5 .any (Rows.systemShapesSpec.pre6 enc Try.prog Try.f5 Rows.systemShapesRow.domain false) (Rows.systemShapesSpec.post enc Try.prog Try.f5 false true false false) := by
  refine returnsInHanded_of_change (C := Try.checked) own started (by kernel_rfl) Try.func5
    (ChangeSpec.witness6 (enc := enc) (C := Try.checked) false ⟨#[], #[.int .i64 0, .slice none 0 0, .string ByteArray.empty], []⟩ 8 (by kernel_rfl) (by kernel_rfl) (by kernel_rfl) (by kernel_rfl)) ?_
  intro W base args ds gs before hval0 hW hcnd _
  have hval : ∀ (j : Nat) t v, Try.f5.params[j]? = some t → args[j]? = some v → Value.okWide Try.prog W .any base t v := hval0
  have hW' := hW
  obtain ⟨p, q, hA0, hV, rfl, hfz, hnd⟩ := hW
  have hA : DataW.TrodAll enc Try.prog W 0 (fun _ => true) true Try.f5.params.toList args.toList ds p := hA0
  rw [Try.params5] at hA hval
  obtain ⟨v0, vs0, d0, ds0, p0, q0, hargs, rfl, rfl, h0, r0⟩ := trodAll_cons hA
  obtain ⟨v1, vs1, d1, ds1, p1, q1, rfl, rfl, rfl, h1, r1⟩ := trodAll_cons r0
  obtain ⟨v2, vs2, d2, ds2, p2, q2, rfl, rfl, rfl, h2, r2⟩ := trodAll_cons r1
  obtain ⟨rfl, rfl, rfl⟩ := trodAll_nil r2
  obtain rfl : args = #[v0, v1, v2] := by cases args; simp_all
  obtain ⟨rfl, rfl⟩ := trodVars_none hV
  obtain ⟨a0, rfl, rfl, rfl, w0⟩ := open_int Try.underlying3 (hval 0 3 v0 rfl rfl) h0
  obtain ⟨a1, len1, cap1, rfl⟩ := okWide_slice Try.underlying36 (hval 1 36 v1 rfl rfl)
  have k1 := h1
  have lt1 : ∀ x ∈ p1, x.block < W.heap.size := by obtain ⟨m, hm⟩ := k1; exact DataW.trod_lt m _ _ _ hm
  obtain ⟨z1, w1⟩ : ∃ zs, IsRow .i64 W a1 len1 cap1 zs := by
    obtain ⟨fuel, hf⟩ := h1
    rcases open_ints Try.underlying36 Try.underlying3 (by kernel_rfl) hf with ⟨hcs, _⟩ | ⟨x, l, c, zs, hcs, _, hl, hm, hz, _, hcell, hwz⟩
    · simp [Value.cells] at hcs
      obtain ⟨rfl, rfl, rfl⟩ := hcs
      exact ⟨[], .inl ⟨rfl, rfl, rfl, rfl⟩⟩
    · simp [Value.cells] at hcs
      obtain ⟨rfl, rfl, rfl⟩ := hcs
      exact ⟨zs, .inr ⟨_, rfl, hl, hm, by simpa using hz, hcell, hwz⟩⟩
  obtain ⟨xs1, l1, _, b1⟩ := w1.lst
  obtain ⟨a2, rfl, rfl, rfl, w2⟩ := open_string Try.underlying9 (hval 2 9 v2 rfl rfl) h2
  clear hA0 hval0
  refine (walk W a0 (bounds_i64 w0) (.slice a1 len1 cap1) xs1 l1 b1 a2 w2).mono fun e W' ⟨he, bel⟩ => ?_
  subst he
  exact ⟨_, rfl, _, _, _, [], _, [], hW', trodAll_mk1 (shut_bool Try.underlying4 _), (trodAll_cons_mk (shut_int Try.underlying3 w0) (trodAll_cons_mk (Below.trod laidOut (by kernel_rfl) (of_decide_eq_true (by kernel_rfl)) k1 bel lt1) (trodAll_cons_mk (shut_string Try.underlying9 w2) trodAll_mk0))), rfl, bel.below.frame _, fun h => by cases h⟩

/-- The statement. -/
theorem proved : Rows.SystemShapesSaid :=
  OpenClaim.holds_of_wide 5 Try.f5 rfl rfl rfl rfl rfl rfl rfl ⟨rfl, rfl, rfl, rfl, rfl⟩ rfl rfl rfl rfl rfl (by kernel_rfl) Try.func5 (by kernel_rfl)
    (of_decide_eq_true (by kernel_rfl)) (by unfold Func.isWrapper; first | (rw [if_pos (by decide +kernel)]; kernel_rfl) | (rw [if_neg (by decide +kernel)]; exact ⟨rfl, rfl⟩))
    (fun os started H enc _ => lifted os started H enc)
#print axioms proved
end Go.Proofs.Ytaonjhhpiihejaa.systemShapes
