/- SystemDigits: of whatever numbers (one made a name, one raw and made a digit, one raw and near the system's digits) and whatever text (the first 12 bytes) as a name, a digit's bytes, and which digit a character is, is the document's, or refused; no conditions. -/
import Derived.Test.YtaonjhhpiihejaaRows
import Derived.WalkKit
import Derived.ProofKit
import Derived.OpenShut
import Derived.ShutString
import Derived.ChangeOld
import Derived.Below
import Derived.Lib.SmallJoins
import Derived.Test.YtaonjhhpiihejaaInts
import Derived.Test.YtaonjhhpiihejaaUtfM
import Derived.Test.YtaonjhhpiihejaaUtfG
import Derived.Test.YtaonjhhpiihejaaUtfR
import Derived.Test.YtaonjhhpiihejaaUtfW
import Derived.Test.YtaonjhhpiihejaaEls
import Derived.Test.YtaonjhhpiihejaaDigM
import Derived.Test.YtaonjhhpiihejaaDigL
import Derived.Test.YtaonjhhpiihejaaDigR
import Derived.Test.YtaonjhhpiihejaaDigW
import Derived.Test.YtaonjhhpiihejaaSysM
import Derived.Test.YtaonjhhpiihejaaSysN
import Derived.Test.YtaonjhhpiihejaaSysP
import Derived.Test.YtaonjhhpiihejaaSysQ
import Derived.Test.YtaonjhhpiihejaaSysR
import Derived.Test.YtaonjhhpiihejaaSysT
set_option linter.unusedVariables false
set_option linter.unusedSimpArgs false
namespace Go.Proofs.Ytaonjhhpiihejaa.systemDigits
open Go.ChangeShapes Go.WideShapes Go.ChangeAt Go.RowKit
open Go.ChangeMaps (open_string shut_string)

theorem own : ownKnob Try.prog.godebug = none := by kernel_rfl
theorem laidOut : laidOutB Try.prog = true := by kernel_rfl

open Sm Um
theorem digit_cases (z d : Int) (hz : z ≠ -1) : (0 ≤ d ∧ d ≤ 9 ∧ dgE z d = 0 ∧ dgS z d = encB (z + d)) ∨ (d < 0 ∧ dgE z d = 3 ∧ dgS z d = ⟨#[]⟩) ∨ (9 < d ∧ 0 ≤ d ∧ dgE z d = 3 ∧ dgS z d = ⟨#[]⟩) := by
  unfold dgE dgS
  rw [if_neg hz, if_neg hz]
  by_cases h0 : 0 ≤ d
  · by_cases h9 : d ≤ 9
    · rw [if_pos ⟨h0, h9⟩, if_pos ⟨h0, h9⟩]
      exact .inl ⟨h0, h9, rfl, rfl⟩
    · rw [if_neg (by omega), if_neg (by omega)]
      exact .inr (.inr ⟨by omega, h0, rfl, rfl⟩)
  · rw [if_neg (by omega), if_neg (by omega)]
    exact .inr (.inl ⟨by omega, rfl, rfl⟩)
theorem name_cases (z c d : Int) (hb : z = -1 ∨ 48 ≤ z) : (z < 0 ∧ (dgE z d == 7) = true ∧ (vlE z c == 7) = true ∧ decide (0 ≤ z) = false) ∨ (0 ≤ z ∧ (dgE z d == 7) = false ∧ (vlE z c == 7) = false ∧ decide (0 ≤ z) = true) := by
  unfold dgE vlE
  rcases hb with rfl | h
  · exact .inl ⟨by omega, rfl, rfl, rfl⟩
  · have hz : z ≠ -1 := by omega
    refine .inr ⟨by omega, ?_, ?_, decide_eq_true (by omega)⟩
    · rw [if_neg hz]
      split <;> rfl
    · rw [if_neg hz]
      split <;> rfl
theorem val_cases (z c : Int) (hz : z ≠ -1) : (vv z c < 0 ∧ vlV z c = 0 ∧ vlE z c = 2 ∧ max (vv z c) 0 = 0 ∧ decide (0 ≤ vv z c) = false) ∨ (0 ≤ vv z c ∧ vlV z c = vv z c ∧ vlE z c = 0 ∧ max (vv z c) 0 = vv z c ∧ decide (0 ≤ vv z c) = true) := by
  unfold vv vlV vlE
  rw [if_neg hz, if_neg hz, if_neg hz]
  by_cases h : vl z c = -1
  · rw [if_pos h, if_pos h, h]
    exact .inl ⟨by omega, rfl, rfl, rfl, rfl⟩
  · rw [if_neg h, if_neg h]
    have := vl_bd z c h
    exact .inr ⟨by omega, rfl, rfl, by omega, decide_eq_true (by omega)⟩

set_option maxHeartbeats 8000000 in
set_option maxRecDepth 100000 in
theorem walk (w : World) (a0 : Int) (w0 : -9223372036854775808 ≤ a0 ∧ a0 ≤ 9223372036854775807) (a1 : Int) (w1 : -9223372036854775808 ≤ a1 ∧ a1 ≤ 9223372036854775807) (a2 : Int) (w2 : -9223372036854775808 ≤ a2 ∧ a2 ≤ 9223372036854775807) (a3 : ByteArray) (w3 : a3.size ≤ maxLen) :
    Calls Try.prog 4 #[.int .i64 a0, .int .i64 a1, .int .i64 a2, .string a3] w fun e w' => e = .returned (.bool true) ∧ Q w w' := by
  have F_t := Lib.hid (fun w => Ur.few_any a3 12 w w3 (by omega))
  have hs_t := Ur.few_size a3 12
  generalize Ur.few a3 12 = t at *
  have hm_t : t.size ≤ maxLen := by unfold maxLen; omega
  have hg_t : t.size ≤ 1073741824 := by omega
  have NM_p := fun w => Sr.name_any a0 w w0.1 w0.2
  obtain ⟨p, z, hp_p, hz_p, hb_p, hs_p, _⟩ := Sr.made a0
  rw [← hp_p] at NM_p
  have N_p := Lib.hid NM_p
  have hm_p : p.size ≤ maxLen := by unfold maxLen; omega
  have hn_p : z ≠ -1 := by omega
  clear NM_p hp_p
  have K0 := fun w => Ur.around_any a1 10 w w1.1 w1.2 (by omega) (by omega)
  have hkb := around_bd a1 10 (by omega)
  have J0 := fun w => Ur.around_any a2 14 w w2.1 w2.2 (by omega) (by omega)
  have hjb := around_bd a2 14 (by omega)
  generalize around a1 10 = k at *
  generalize around a2 14 = j at *
  have A1 := fun w => Sy.digit_any p k w hm_p
  have A2 := fun w => Sy.digit_any p a1 w hm_p
  have A3 := fun w => Sr.digit_any p k w hkb.1 (by omega)
  have A4 := fun w => Sr.zero_any p w
  have A5 := fun c w => Sy.value_any p c w hm_p
  have A6 := fun c w => Sr.value_any p c w
  have A7 := fun w => Sr.zero_any t w
  have A8 := fun w => Sy.digit_any t a1 w hm_t
  have A9 := fun w => Sy.value_any t a2 w hm_t
  rw [hz_p] at A1 A2 A3 A4
  simp only [hz_p] at A5 A6
  have hk1 : dgS z k = encB (z + k) ∧ dgE z k = 0 := by
    rcases digit_cases z k hn_p with h | h | h
    · exact ⟨h.2.2.2, h.2.2.1⟩
    · omega
    · omega
  rw [hk1.1, hk1.2] at A1
  have hdc := digit_cases z a1 hn_p
  have htc := name_cases (nz t.data.toList) a2 a1 (by have := nz_bd t.data.toList; omega)
  have hvc := fun c => val_cases z c hn_p
  obtain ⟨l, hl⟩ : ∃ l : List Int, l = [a2, z - 2 + j] := ⟨_, rfl⟩
  have hll : l.length = 2 := by rw [hl]; rfl
  have hmade := fun w => Lst.made w l 2 hll (by unfold maxLen; omega)
  have hcel : l.map (Value.int .i64) = [.int .i64 a2, .int .i64 (z - 2 + j)] := by rw [hl]; rfl
  have hmade2 : ∀ w : World, Lst (w.alloc (.cells #[.int .i64 a2, .int .i64 (z - 2 + j)] 3)) (.slice (some ⟨w.heap.size, 0, none⟩) 2 2) l := by
    intro w
    have := hmade w
    rw [hcel] at this
    exact this
  have HM := Lib.hid hmade2
  have HLL := Lib.hid hll
  have HVC := Lib.hid hvc
  have hz1 : 48 ≤ z ∧ z ≤ 120812 := ⟨hb_p.1, hb_p.2.1⟩
  generalize encB (z + k) = D1 at *
  generalize dgS (nz t.data.toList) a1 = D3 at *
  generalize vlV (nz t.data.toList) a2 = V3 at *
  generalize dgE (nz t.data.toList) a1 = E1 at *
  generalize vlE (nz t.data.toList) a2 = E2 at *
  generalize nz t.data.toList = zt at *
  have hsz := encB_size (z + a1)
  generalize encB (z + a1) = D4 at *
  generalize dgS z a1 = D2 at *
  generalize dgE z a1 = E0 at *
  have hK := Lib.hid K0
  have hJ := Lib.hid J0
  have H1 := Lib.hid A1
  have H2 := Lib.hid A2
  have H3 := Lib.hid A3
  have H4 := Lib.hid A4
  have H5 := Lib.hid A5
  have H6 := Lib.hid A6
  have H7 := Lib.hid A7
  have H8 := Lib.hid A8
  have H9 := Lib.hid A9
  clear K0 J0 A1 A2 A3 A4 A5 A6 A7 A8 A9 hmade hmade2 hcel hl hll hvc hz_p hb_p hn_p hk1
  rcases hdc with ⟨hd0, hd9, rfl, rfl⟩ | ⟨hd0, rfl, rfl⟩ | ⟨hd9, hd0, rfl, rfl⟩
  all_goals
    rcases htc with ⟨ht0, ht1, ht2, ht3⟩ | ⟨ht0, ht1, ht2, ht3⟩
  all_goals
    go_enter Try.func4, Try.ntmps4
    have Q0 := Lib.hid (Q.refl w)
    go_wp2_with fail
    refine (F_t.out _).mono ?_
    rintro e y0 ⟨rfl, rfl⟩
    go_wp2_with fail
    refine (N_p.out _).mono ?_
    rintro e z1 ⟨rfl, hq⟩
    have Q1 := Lib.hid (Q0.out.trans hq)
    clear hq Q0
    go_wp2_with fail
    refine (hK.out _).mono ?_
    rintro e y1 ⟨rfl, rfl⟩
    go_wp2_with fail
    refine (H1.out _).mono ?_
    rintro e z2 ⟨rfl, hq⟩
    have Q2 := Lib.hid (Q1.out.trans hq)
    clear hq Q1
    go_wp2_with fail
    refine (H2.out _).mono ?_
    rintro e z3 ⟨rfl, hq⟩
    have Q3 := Lib.hid (Q2.out.trans hq)
    clear hq Q2
    go_wp2_with fail
    refine (H3.out _).mono ?_
    rintro e z4 ⟨rfl, hq⟩
    have Q4 := Lib.hid (Q3.out.trans hq)
    clear hq Q3
    go_wp2_with fail
    refine (H4.out _).mono ?_
    rintro e z5 ⟨rfl, hq⟩
    have Q5 := Lib.hid (Q4.out.trans hq)
    clear hq Q4
    go_wp2_with fail
    refine (hJ.out _).mono ?_
    rintro e y2 ⟨rfl, rfl⟩
    have HLS := HM.out z5
    have hq6 := Q5.out.alloc (.cells #[.int .i64 a2, .int .i64 (z - 2 + j)] 3)
    go_wp2_with fail
    generalize hw6 : z5.alloc (.cells #[.int .i64 a2, .int .i64 (z - 2 + j)] 3) = w6 at *
    have HW6 := Lib.hid hw6
    clear hw6
    generalize z5.heap.size = g at *
    go_loopw [17] (fun i wr => ∃ j : Nat, i = .int .i64 j ∧ j ≤ 2 ∧ Q w6 wr) (fun i _ => 2 - (intOf i).toNat)
    case atStart => exact ⟨0, rfl, by omega, Q.refl _⟩
    case round =>
      obtain ⟨i, rfl, hj, hq⟩ := hrel
      by_cases hlt : i < 2
      · obtain ⟨g', off, cap, hvv, hg, _, _, hca⟩ := HLS.cellOf HLL.out hlt
        cases hvv
        have c1 : wr.cell? ⟨g, i, none⟩ = some (.int .i64 (l.getD i 0)) := by
          have := (World.cell?_of_block (w := w6) (hq.block hg) (a := ⟨g, 0 + i, none⟩)).trans hca
          rwa [Nat.zero_add] at this
        have c1k : ∀ w', Q wr w' → w'.cell? ⟨g, i, none⟩ = some (.int .i64 (l.getD i 0)) := fun w' q => (World.cell?_of_block (w := wr) (q.block (Nat.lt_of_lt_of_le hg hq.le))).trans c1
        generalize l.getD i 0 = c at *
        have P0 := H5.out c
        have R0 := H6.out c
        have hv := HVC.out c
        generalize vlV z c = V1 at *
        generalize vlE z c = E3 at *
        generalize vv z c = u at *
        have HP0 := Lib.hid P0
        have HR0 := Lib.hid R0
        clear P0 R0 hca HLS
        rcases hv with ⟨hu0, rfl, rfl, hu1, hu2⟩ | ⟨hu0, rfl, rfl, hu1, hu2⟩
        all_goals
          go_wp2_with fail
          refine (HP0.out _).mono ?_
          rintro e w7 ⟨rfl, hq7⟩
          have c2 := c1k w7 hq7
          go_wp2_with fail
          refine (HR0.out _).mono ?_
          rintro e w8 ⟨rfl, hq8⟩
          go_wp2_with fail
          exact ⟨⟨i + 1, by go_num, by omega, (hq.trans hq7).trans hq8⟩, by simp [intOf]; omega⟩
      · have hj2 : i = 2 := by omega
        subst hj2
        clear HLS
        go_wp2_with fail
        refine (H7.out _).mono ?_
        rintro e w7 ⟨rfl, hq7⟩
        go_wp2_with fail
        refine (H8.out _).mono ?_
        rintro e w8 ⟨rfl, hq8⟩
        go_wp2_with fail
        refine (H9.out _).mono ?_
        rintro e w9 ⟨rfl, hq9⟩
        go_wp2_with fail
        refine (Sr.lives_any _).mono ?_
        rintro e w10 ⟨rfl, hq10⟩
        go_wp2_with fail
        go_ret
        exact ⟨rfl, ((((hq6.trans hq).trans hq7).trans hq8).trans hq9).trans hq10⟩

set_option maxRecDepth 100000 in
theorem lifted (os : Os) (started : os.Started) (H : Type) (enc : TypeId × Value → H) :
    ReturnsInHanded {} Try.checked os 4 .any (Rows.systemDigitsSpec.pre6 enc Try.prog Try.f4 Rows.systemDigitsRow.domain false) (Rows.systemDigitsSpec.post enc Try.prog Try.f4 false true false false) := by
  refine returnsInHanded_of_change (C := Try.checked) own started (by kernel_rfl) Try.func4
    (ChangeSpec.witness6 (enc := enc) (C := Try.checked) false ⟨#[], #[.int .i64 0, .int .i64 0, .int .i64 0, .string ByteArray.empty], []⟩ 8 (by kernel_rfl) (by kernel_rfl) (by kernel_rfl) (by kernel_rfl)) ?_
  intro W base args ds gs before hval0 hW hcnd _
  have hval : ∀ (j : Nat) t v, Try.f4.params[j]? = some t → args[j]? = some v → Value.okWide Try.prog W .any base t v := hval0
  have hW' := hW
  obtain ⟨p, q, hA0, hV, rfl, hfz, hnd⟩ := hW
  have hA : DataW.TrodAll enc Try.prog W 0 (fun _ => true) true Try.f4.params.toList args.toList ds p := hA0
  rw [Try.params4] at hA hval
  obtain ⟨v0, vs0, d0, ds0, p0, q0, hargs, rfl, rfl, h0, r0⟩ := trodAll_cons hA
  obtain ⟨v1, vs1, d1, ds1, p1, q1, rfl, rfl, rfl, h1, r1⟩ := trodAll_cons r0
  obtain ⟨v2, vs2, d2, ds2, p2, q2, rfl, rfl, rfl, h2, r2⟩ := trodAll_cons r1
  obtain ⟨v3, vs3, d3, ds3, p3, q3, rfl, rfl, rfl, h3, r3⟩ := trodAll_cons r2
  obtain ⟨rfl, rfl, rfl⟩ := trodAll_nil r3
  obtain rfl : args = #[v0, v1, v2, v3] := by cases args; simp_all
  obtain ⟨rfl, rfl⟩ := trodVars_none hV
  obtain ⟨a0, rfl, rfl, rfl, w0⟩ := open_int Try.underlying3 (hval 0 3 v0 rfl rfl) h0
  obtain ⟨a1, rfl, rfl, rfl, w1⟩ := open_int Try.underlying3 (hval 1 3 v1 rfl rfl) h1
  obtain ⟨a2, rfl, rfl, rfl, w2⟩ := open_int Try.underlying3 (hval 2 3 v2 rfl rfl) h2
  obtain ⟨a3, rfl, rfl, rfl, w3⟩ := open_string Try.underlying9 (hval 3 9 v3 rfl rfl) h3
  clear hA0 hval0
  refine (walk W a0 (bounds_i64 w0) a1 (bounds_i64 w1) a2 (bounds_i64 w2) a3 w3).mono fun e W' ⟨he, bel⟩ => ?_
  subst he
  exact ⟨_, rfl, _, _, _, [], _, [], hW', trodAll_mk1 (shut_bool Try.underlying4 _), (trodAll_cons_mk (shut_int Try.underlying3 w0) (trodAll_cons_mk (shut_int Try.underlying3 w1) (trodAll_cons_mk (shut_int Try.underlying3 w2) (trodAll_cons_mk (shut_string Try.underlying9 w3) trodAll_mk0)))), rfl, bel.below.frame _, fun h => by cases h⟩

/-- The statement. -/
theorem proved : Rows.SystemDigitsSaid :=
  OpenClaim.holds_of_wide 4 Try.f4 rfl rfl rfl rfl rfl rfl rfl ⟨rfl, rfl, rfl, rfl, rfl⟩ rfl rfl rfl rfl rfl (by kernel_rfl) Try.func4 (by kernel_rfl)
    (of_decide_eq_true (by kernel_rfl)) (by unfold Func.isWrapper; first | (rw [if_pos (by decide +kernel)]; kernel_rfl) | (rw [if_neg (by decide +kernel)]; exact ⟨rfl, rfl⟩))
    (fun os started H enc _ => lifted os started H enc)
#print axioms proved
end Go.Proofs.Ytaonjhhpiihejaa.systemDigits
