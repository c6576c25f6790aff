/- SystemConverts: of whatever numbers (two made names; the first 12 of a list made digits) and whatever texts (the first 12 bytes of each) digits of one system are as many of another one, and come back as they were; what is none, or of none, is refused; no conditions. -/
import Derived.Test.YtaonjhhpiihejaaRows
import Derived.WalkKit
import Derived.ProofKit
import Derived.OpenShut
import Derived.ShutString
import Derived.ChangeOld
import Derived.Below
import Derived.Lib.SmallJoins
import Derived.Test.YtaonjhhpiihejaaInts
import Derived.Test.YtaonjhhpiihejaaUtfM
import Derived.Test.YtaonjhhpiihejaaUtfG
import Derived.Test.YtaonjhhpiihejaaUtfR
import Derived.Test.YtaonjhhpiihejaaUtfW
import Derived.Test.YtaonjhhpiihejaaEls
import Derived.Test.YtaonjhhpiihejaaDigM
import Derived.Test.YtaonjhhpiihejaaDigL
import Derived.Test.YtaonjhhpiihejaaDigR
import Derived.Test.YtaonjhhpiihejaaDigW
import Derived.Test.YtaonjhhpiihejaaSysM
import Derived.Test.YtaonjhhpiihejaaSysN
import Derived.Test.YtaonjhhpiihejaaSysP
import Derived.Test.YtaonjhhpiihejaaSysQ
import Derived.Test.YtaonjhhpiihejaaSysR
import Derived.Test.YtaonjhhpiihejaaSysT
set_option linter.unusedVariables false
set_option linter.unusedSimpArgs false
namespace Go.Proofs.Ytaonjhhpiihejaa.systemConverts
open Go.ChangeShapes Go.WideShapes Go.ChangeAt Go.RowKit
open Go.ChangeMaps (open_string shut_string)

theorem own : ownKnob Try.prog.godebug = none := by kernel_rfl
theorem laidOut : laidOutB Try.prog = true := by kernel_rfl

open Sm Um

set_option maxHeartbeats 8000000 in
set_option maxRecDepth 100000 in
theorem walk (w : World) (a0 : Int) (w0 : -9223372036854775808 ≤ a0 ∧ a0 ≤ 9223372036854775807) (a1 : Int) (w1 : -9223372036854775808 ≤ a1 ∧ a1 ≤ 9223372036854775807) (v2 : Value) (xs2 : List Int) (w2 : Lst w v2 xs2) (b2 : ∀ n ∈ xs2, -9223372036854775808 ≤ n ∧ n ≤ 9223372036854775807) (a3 : ByteArray) (w3 : a3.size ≤ maxLen) (a4 : ByteArray) (w4 : a4.size ≤ maxLen) :
    Calls Try.prog 7 #[.int .i64 a0, .int .i64 a1, v2, .string a3, .string a4] w fun e w' => e = .returned (.bool true) ∧ Q w w' := by
  have F_s := Lib.hid (fun w => Ur.few_any a3 12 w w3 (by omega))
  have hs_s := Ur.few_size a3 12
  generalize Ur.few a3 12 = s at *
  have hm_s : s.size ≤ maxLen := by unfold maxLen; omega
  have hg_s : s.size ≤ 1073741824 := by omega
  have F_t := Lib.hid (fun w => Ur.few_any a4 12 w w4 (by omega))
  have hs_t := Ur.few_size a4 12
  generalize Ur.few a4 12 = t at *
  have hm_t : t.size ≤ maxLen := by unfold maxLen; omega
  have hg_t : t.size ≤ 1073741824 := by omega
  have NM_p := fun w => Sr.name_any a0 w w0.1 w0.2
  obtain ⟨p, y, hp_p, hz_p, hb_p, hs_p, _⟩ := Sr.made a0
  rw [← hp_p] at NM_p
  have N_p := Lib.hid NM_p
  have hm_p : p.size ≤ maxLen := by unfold maxLen; omega
  have hn_p : y ≠ -1 := by omega
  clear NM_p hp_p
  have NM_q := fun w => Sr.name_any a1 w w1.1 w1.2
  obtain ⟨q, z, hp_q, hz_q, hb_q, hs_q, _⟩ := Sr.made a1
  rw [← hp_q] at NM_q
  have N_q := Lib.hid NM_q
  have hm_q : q.size ≤ maxLen := by unfold maxLen; omega
  have hn_q : z ≠ -1 := by omega
  clear NM_q hp_q
  obtain ⟨ad2, cp2, rfl, hlc2, hcm2⟩ := w2.shape2
  unfold maxLen at hcm2
  have hbig2 : xs2.length ≤ 9223372036854775807 := by omega
  have G2 := Lib.hid (fun w' (q : Q w w') => Dr.good_any _ xs2 12 w' (w2.q q) hbig2 (by omega) b2)
  have hXM2 : (Dm.gdL xs2 12).length ≤ 12 := by rw [Dm.gdL_len]; omega
  have kX2 := Dm.gdL_ok xs2 12
  generalize Dm.gdL xs2 12 = X2 at *
  obtain ⟨l2, hl2⟩ : ∃ l, l = xs2.length := ⟨_, rfl⟩
  rw [← hl2] at hlc2 G2 hbig2 ⊢
  have hXR : X2.length ≤ 1073741824 := by omega
  have A1 := fun v w h => Sr.shape_any p v X2 w h hXR
  have A2 := fun v w h => Sr.shape_any q v X2 w h hXR
  rw [hz_p] at A1
  rw [hz_q] at A2
  have hsy := shS_ok_len hn_p kX2
  have hsz := shS_ok_len hn_q kX2
  have hrs1 : (⟨(shS y X2).toArray⟩ : ByteArray).size ≤ 1073741824 := by
    rw [← size_list]
    show (shS y X2).length ≤ _
    omega
  have hrs2 : (⟨(shS z X2).toArray⟩ : ByteArray).size ≤ 1073741824 := by
    rw [← size_list]
    show (shS z X2).length ≤ _
    omega
  have A3 := fun w => Sy.convert_any p q ⟨(shS y X2).toArray⟩ w hm_p hm_q hrs1
  have A4 := fun w => Sy.convert_any q p ⟨(shS z X2).toArray⟩ w hm_q hm_p hrs2
  rw [hz_p, hz_q] at A3 A4
  have hd1 : (⟨(shS y X2).toArray⟩ : ByteArray).data.toList = shS y X2 := rfl
  have hd2 : (⟨(shS z X2).toArray⟩ : ByteArray).data.toList = shS z X2 := rfl
  rw [hd1, cvE_back hb_p hn_q kX2, cvS_back hb_p hn_q kX2] at A3
  rw [hd2, cvE_back hb_q hn_p kX2, cvS_back hb_q hn_p kX2] at A4
  have A5 := fun w => Sy.convert_any p s t w hm_p hm_s hg_t
  have A6 := fun w => Sy.convert_any s q t w hm_s hm_q hg_t
  have A7 := fun w => Sr.read_any p t w hg_t
  have A8 := fun w => Sr.read_any s t w hg_t
  have A9 := fun w => Sr.zero_any s w
  have hcE : cvE (nz s.data.toList) z (allL t.data.toList) = rdE (nz s.data.toList) (allL t.data.toList) := by unfold cvE; rw [if_neg hn_q]
  have hcP : nz s.data.toList ≠ -1 → cvE y (nz s.data.toList) (allL t.data.toList) = rdE y (allL t.data.toList) := fun h => by unfold cvE; rw [if_neg h]
  have hcN : nz s.data.toList = -1 → cvE y (nz s.data.toList) (allL t.data.toList) = 7 := fun h => by unfold cvE; rw [if_pos h]
  rw [hz_p] at A5 A7
  rw [hz_q, hcE] at A6
  have hsb := nz_bd s.data.toList
  clear hcE hd1 hd2 hrs1 hrs2 hsy hsz hXM2 hXR hz_p hz_q hb_p hb_q hn_p hn_q kX2 w2 b2 hl2
  generalize (⟨(shS y X2).toArray⟩ : ByteArray) = SY at *
  generalize (⟨(shS z X2).toArray⟩ : ByteArray) = SZ at *
  generalize shE y X2 = EY at *
  generalize shE z X2 = EZ at *
  generalize rdE (nz s.data.toList) (allL t.data.toList) = ES at *
  generalize rdE y (allL t.data.toList) = EP at *
  generalize cvE y (nz s.data.toList) (allL t.data.toList) = EC at *
  generalize (⟨(cvS y (nz s.data.toList) (allL t.data.toList)).toArray⟩ : ByteArray) = SC at *
  generalize (⟨(cvS (nz s.data.toList) z (allL t.data.toList)).toArray⟩ : ByteArray) = SD at *
  generalize rdL (nz s.data.toList) (allL t.data.toList) = LS at *
  generalize rdL y (allL t.data.toList) = LP at *
  generalize nz s.data.toList = zs at *
  have hcase : (zs < 0 ∧ EC = 7) ∨ (0 ≤ zs ∧ EC = EP) := by
    by_cases h : zs = -1
    · exact .inl ⟨by omega, hcN h⟩
    · exact .inr ⟨by omega, hcP h⟩
  have H1 := Lib.hid A1
  have H2 := Lib.hid A2
  have H3 := Lib.hid A3
  have H4 := Lib.hid A4
  have H5 := Lib.hid A5
  have H6 := Lib.hid A6
  have H7 := Lib.hid A7
  have H8 := Lib.hid A8
  have H9 := Lib.hid A9
  clear A1 A2 A3 A4 A5 A6 A7 A8 A9 hsb hcP hcN
  rcases hcase with ⟨hzs, rfl⟩ | ⟨hzs, rfl⟩
  all_goals
    go_enter Try.func7, Try.ntmps7
    have Q0 := Lib.hid (Q.refl w)
    go_wp2_with fail
    refine (N_p.out _).mono ?_
    rintro e z1 ⟨rfl, hq⟩
    have Q1 := Lib.hid (Q0.out.trans hq)
    clear hq Q0
    go_wp2_with fail
    refine (N_q.out _).mono ?_
    rintro e z2 ⟨rfl, hq⟩
    have Q2 := Lib.hid (Q1.out.trans hq)
    clear hq Q1
    go_wp2_with fail
    refine ((G2.out _ Q2.out)).mono ?_
    rintro e z3 ⟨u_X, rfl, hu, hq⟩
    have L3_X := Lib.hid (fun w' (q : Q z3 w') => Lst.q hu.lst q)
    clear hu
    have Q3 := Lib.hid (Q2.out.trans hq)
    clear hq Q2
    go_wp2_with fail
    refine (H1.out _ _ (L3_X.out _ (Q.refl _))).mono ?_
    rintro e z4 ⟨rfl, hq⟩
    have L4_X := Lib.hid (fun w' (q : Q z4 w') => L3_X.out w' (hq.trans q))
    clear L3_X
    have Q4 := Lib.hid (Q3.out.trans hq)
    clear hq Q3
    go_wp2_with fail
    refine (H2.out _ _ (L4_X.out _ (Q.refl _))).mono ?_
    rintro e z5 ⟨rfl, hq⟩
    have L5_X := Lib.hid (fun w' (q : Q z5 w') => L4_X.out w' (hq.trans q))
    clear L4_X
    have Q5 := Lib.hid (Q4.out.trans hq)
    clear hq Q4
    go_wp2_with fail
    refine (H3.out _).mono ?_
    rintro e z6 ⟨rfl, hq⟩
    have L6_X := Lib.hid (fun w' (q : Q z6 w') => L5_X.out w' (hq.trans q))
    clear L5_X
    have Q6 := Lib.hid (Q5.out.trans hq)
    clear hq Q5
    go_wp2_with fail
    refine (H4.out _).mono ?_
    rintro e z7 ⟨rfl, hq⟩
    have L7_X := Lib.hid (fun w' (q : Q z7 w') => L6_X.out w' (hq.trans q))
    clear L6_X
    have Q7 := Lib.hid (Q6.out.trans hq)
    clear hq Q6
    go_wp2_with fail
    refine (F_s.out _).mono ?_
    rintro e y0 ⟨rfl, rfl⟩
    go_wp2_with fail
    refine (F_t.out _).mono ?_
    rintro e y1 ⟨rfl, rfl⟩
    go_wp2_with fail
    refine (H5.out _).mono ?_
    rintro e z8 ⟨rfl, hq⟩
    have L8_X := Lib.hid (fun w' (q : Q z8 w') => L7_X.out w' (hq.trans q))
    clear L7_X
    have Q8 := Lib.hid (Q7.out.trans hq)
    clear hq Q7
    go_wp2_with fail
    refine (H6.out _).mono ?_
    rintro e z9 ⟨rfl, hq⟩
    have L9_X := Lib.hid (fun w' (q : Q z9 w') => L8_X.out w' (hq.trans q))
    clear L8_X
    have Q9 := Lib.hid (Q8.out.trans hq)
    clear hq Q8
    go_wp2_with fail
    refine (H7.out _).mono ?_
    rintro e z10 ⟨u_i, rfl, hu, hq⟩
    have L10_X := Lib.hid (fun w' (q : Q z10 w') => L9_X.out w' (hq.trans q))
    clear L9_X
    have L10_i := Lib.hid (fun w' (q : Q z10 w') => Lst.q hu.lst q)
    clear hu
    have Q10 := Lib.hid (Q9.out.trans hq)
    clear hq Q9
    go_wp2_with fail
    refine (H8.out _).mono ?_
    rintro e z11 ⟨u_j, rfl, hu, hq⟩
    have L11_X := Lib.hid (fun w' (q : Q z11 w') => L10_X.out w' (hq.trans q))
    clear L10_X
    have L11_i := Lib.hid (fun w' (q : Q z11 w') => L10_i.out w' (hq.trans q))
    clear L10_i
    have L11_j := Lib.hid (fun w' (q : Q z11 w') => Lst.q hu.lst q)
    clear hu
    have Q11 := Lib.hid (Q10.out.trans hq)
    clear hq Q10
    go_wp2_with fail
    refine (H9.out _).mono ?_
    rintro e z12 ⟨rfl, hq⟩
    have L12_X := Lib.hid (fun w' (q : Q z12 w') => L11_X.out w' (hq.trans q))
    clear L11_X
    have L12_i := Lib.hid (fun w' (q : Q z12 w') => L11_i.out w' (hq.trans q))
    clear L11_i
    have L12_j := Lib.hid (fun w' (q : Q z12 w') => L11_j.out w' (hq.trans q))
    clear L11_j
    have Q12 := Lib.hid (Q11.out.trans hq)
    clear hq Q11
    go_wp2_with fail
    refine (Sr.lives_any _).mono ?_
    rintro e z13 ⟨rfl, hq⟩
    have L13_X := Lib.hid (fun w' (q : Q z13 w') => L12_X.out w' (hq.trans q))
    clear L12_X
    have L13_i := Lib.hid (fun w' (q : Q z13 w') => L12_i.out w' (hq.trans q))
    clear L12_i
    have L13_j := Lib.hid (fun w' (q : Q z13 w') => L12_j.out w' (hq.trans q))
    clear L12_j
    have Q13 := Lib.hid (Q12.out.trans hq)
    clear hq Q12
    go_wp2_with fail
    go_ret
    exact ⟨rfl, Q13.out⟩

set_option maxRecDepth 100000 in
theorem lifted (os : Os) (started : os.Started) (H : Type) (enc : TypeId × Value → H) :
    ReturnsInHanded {} Try.checked os 7 .any (Rows.systemConvertsSpec.pre6 enc Try.prog Try.f7 Rows.systemConvertsRow.domain false) (Rows.systemConvertsSpec.post enc Try.prog Try.f7 false true false false) := by
  refine returnsInHanded_of_change (C := Try.checked) own started (by kernel_rfl) Try.func7
    (ChangeSpec.witness6 (enc := enc) (C := Try.checked) false ⟨#[], #[.int .i64 0, .int .i64 0, .slice none 0 0, .string ByteArray.empty, .string ByteArray.empty], []⟩ 8 (by kernel_rfl) (by kernel_rfl) (by kernel_rfl) (by kernel_rfl)) ?_
  intro W base args ds gs before hval0 hW hcnd _
  have hval : ∀ (j : Nat) t v, Try.f7.params[j]? = some t → args[j]? = some v → Value.okWide Try.prog W .any base t v := hval0
  have hW' := hW
  obtain ⟨p, q, hA0, hV, rfl, hfz, hnd⟩ := hW
  have hA : DataW.TrodAll enc Try.prog W 0 (fun _ => true) true Try.f7.params.toList args.toList ds p := hA0
  rw [Try.params7] at hA hval
  obtain ⟨v0, vs0, d0, ds0, p0, q0, hargs, rfl, rfl, h0, r0⟩ := trodAll_cons hA
  obtain ⟨v1, vs1, d1, ds1, p1, q1, rfl, rfl, rfl, h1, r1⟩ := trodAll_cons r0
  obtain ⟨v2, vs2, d2, ds2, p2, q2, rfl, rfl, rfl, h2, r2⟩ := trodAll_cons r1
  obtain ⟨v3, vs3, d3, ds3, p3, q3, rfl, rfl, rfl, h3, r3⟩ := trodAll_cons r2
  obtain ⟨v4, vs4, d4, ds4, p4, q4, rfl, rfl, rfl, h4, r4⟩ := trodAll_cons r3
  obtain ⟨rfl, rfl, rfl⟩ := trodAll_nil r4
  obtain rfl : args = #[v0, v1, v2, v3, v4] := by cases args; simp_all
  obtain ⟨rfl, rfl⟩ := trodVars_none hV
  obtain ⟨a0, rfl, rfl, rfl, w0⟩ := open_int Try.underlying3 (hval 0 3 v0 rfl rfl) h0
  obtain ⟨a1, rfl, rfl, rfl, w1⟩ := open_int Try.underlying3 (hval 1 3 v1 rfl rfl) h1
  obtain ⟨a2, len2, cap2, rfl⟩ := okWide_slice Try.underlying36 (hval 2 36 v2 rfl rfl)
  have k2 := h2
  have lt2 : ∀ x ∈ p2, x.block < W.heap.size := by obtain ⟨m, hm⟩ := k2; exact DataW.trod_lt m _ _ _ hm
  obtain ⟨z2, w2⟩ : ∃ zs, IsRow .i64 W a2 len2 cap2 zs := by
    obtain ⟨fuel, hf⟩ := h2
    rcases open_ints Try.underlying36 Try.underlying3 (by kernel_rfl) hf with ⟨hcs, _⟩ | ⟨x, l, c, zs, hcs, _, hl, hm, hz, _, hcell, hwz⟩
    · simp [Value.cells] at hcs
      obtain ⟨rfl, rfl, rfl⟩ := hcs
      exact ⟨[], .inl ⟨rfl, rfl, rfl, rfl⟩⟩
    · simp [Value.cells] at hcs
      obtain ⟨rfl, rfl, rfl⟩ := hcs
      exact ⟨zs, .inr ⟨_, rfl, hl, hm, by simpa using hz, hcell, hwz⟩⟩
  obtain ⟨xs2, l2, _, b2⟩ := w2.lst
  obtain ⟨a3, rfl, rfl, rfl, w3⟩ := open_string Try.underlying9 (hval 3 9 v3 rfl rfl) h3
  obtain ⟨a4, rfl, rfl, rfl, w4⟩ := open_string Try.underlying9 (hval 4 9 v4 rfl rfl) h4
  clear hA0 hval0
  refine (walk W a0 (bounds_i64 w0) a1 (bounds_i64 w1) (.slice a2 len2 cap2) xs2 l2 b2 a3 w3 a4 w4).mono fun e W' ⟨he, bel⟩ => ?_
  subst he
  exact ⟨_, rfl, _, _, _, [], _, [], hW', trodAll_mk1 (shut_bool Try.underlying4 _), (trodAll_cons_mk (shut_int Try.underlying3 w0) (trodAll_cons_mk (shut_int Try.underlying3 w1) (trodAll_cons_mk (Below.trod laidOut (by kernel_rfl) (of_decide_eq_true (by kernel_rfl)) k2 bel lt2) (trodAll_cons_mk (shut_string Try.underlying9 w3) (trodAll_cons_mk (shut_string Try.underlying9 w4) trodAll_mk0))))), rfl, bel.below.frame _, fun h => by cases h⟩

/-- The statement. -/
theorem proved : Rows.SystemConvertsSaid :=
  OpenClaim.holds_of_wide 7 Try.f7 rfl rfl rfl rfl rfl rfl rfl ⟨rfl, rfl, rfl, rfl, rfl⟩ rfl rfl rfl rfl rfl (by kernel_rfl) Try.func7 (by kernel_rfl)
    (of_decide_eq_true (by kernel_rfl)) (by unfold Func.isWrapper; first | (rw [if_pos (by decide +kernel)]; kernel_rfl) | (rw [if_neg (by decide +kernel)]; exact ⟨rfl, rfl⟩))
    (fun os started H enc _ => lifted os started H enc)
#print axioms proved
end Go.Proofs.Ytaonjhhpiihejaa.systemConverts
