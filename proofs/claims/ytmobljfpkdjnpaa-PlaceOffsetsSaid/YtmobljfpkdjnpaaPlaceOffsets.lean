/- PlaceOffsets: of whatever text (its first 40 bytes), each number's offset and each byte's number is the document's, and there is none else, at whatever number; no conditions. -/
import Derived.Test.YtmobljfpkdjnpaaRows
import Derived.WalkKit
import Derived.ProofKit
import Derived.OpenShut
import Derived.ShutString
import Derived.ChangeOld
import Derived.Below
import Derived.Test.YtmobljfpkdjnpaaInts
import Derived.Test.YtmobljfpkdjnpaaPlcM
import Derived.Test.YtmobljfpkdjnpaaPlcW
import Derived.Test.YtmobljfpkdjnpaaPlcU
import Derived.Test.YtmobljfpkdjnpaaPlcR
import Derived.Test.YtmobljfpkdjnpaaPlcL
set_option linter.unusedVariables false
set_option linter.unusedSimpArgs false
namespace Go.Proofs.Ytmobljfpkdjnpaa.placeOffsets
open Go.ChangeShapes Go.WideShapes Go.ChangeAt Go.RowKit
open Go.ChangeMaps (open_string shut_string)

theorem own : ownKnob Try.prog.godebug = none := by kernel_rfl
theorem laidOut : laidOutB Try.prog = true := by kernel_rfl

open Um Cm Gm Pm
theorem idx_two (S : List Int) (x : Int) : idxZ S x = -1 ∨ ∃ c : Nat, idxZ S x = c := by
  unfold idxZ
  split
  · exact .inr ⟨_, rfl⟩
  · exact .inl rfl
theorem off_in (t : ByteArray) (k : Nat) (h : k ≤ nC t) : offZ t (k : Int) = (stL1 t.data.toList).getD k 0 := by
  unfold offZ
  rw [if_pos ⟨by omega, by omega⟩, Int.toNat_natCast]
theorem off_out (t : ByteArray) (x : Int) (h : ¬ (0 ≤ x ∧ x ≤ (nC t : Int))) : offZ t x = 0 := if_neg h
/-- The number of a byte, or none. -/
theorem find_two (b : Nat) (t : ByteArray) (x : Int) (ht : t.size ≤ 40) :
    (idxZ (stL1 t.data.toList) x = -1 ∧ ∀ w, Mp w b t → Calls Try.prog 11 #[.pointer (some ⟨b, 0, none⟩), .int .i64 x] w fun e w' => e = .returned (.tuple #[.int .i64 0, .bool false]) ∧ Q w w') ∨
    (∃ c : Nat, idxZ (stL1 t.data.toList) x = (c : Int) ∧ ∀ w, Mp w b t → Calls Try.prog 11 #[.pointer (some ⟨b, 0, none⟩), .int .i64 x] w fun e w' => e = .returned (.tuple #[.int .i64 c, .bool true]) ∧ Q w w') := by
  have h := fun w h => mindex_any b t x w h (by omega)
  rcases idx_two (stL1 t.data.toList) x with he | ⟨c, he⟩
  · rw [he] at h
    exact .inl ⟨he, fun w hm => h w hm⟩
  · rw [he, show max (c : Int) 0 = c from by omega, decide_eq_true (by omega : (0 : Int) ≤ (c : Int))] at h
    exact .inr ⟨c, he, fun w hm => h w hm⟩

set_option maxHeartbeats 4000000 in
set_option maxRecDepth 100000 in
theorem walk (w : World) (a0 : ByteArray) (w0 : a0.size ≤ maxLen) (a1 : Int) (w1 : -9223372036854775808 ≤ a1 ∧ a1 ≤ 9223372036854775807) :
    Calls Try.prog 3 #[.string a0, .int .i64 a1] w fun e w' => e = .returned (.bool true) ∧ Q w w' := by
  have hbg := fun w => Pr.begin_any a0 w w0
  have hfs := Ur.few_size a0 40
  generalize Ur.few a0 40 = t at *
  have HB := Lib.hid hbg
  have hn := nC_le t
  have hsn := st_nC t
  have hlv := fun w => Pr.lives_any w
  have HLV := Lib.hid hlv
  clear hbg hlv
  go_enter Try.func3, Try.ntmps3
  go_wp2_with fail
  refine (HB.out _).mono ?_
  rintro e z1 ⟨b, u, rfl, hm, hu, hq1⟩
  obtain ⟨ua, uc, rfl, _, huc⟩ := hu.form0 hsn
  unfold maxLen at huc
  have HU := Lib.hid hu
  have HM := Lib.hid hm
  have HSN := Lib.hid hsn
  have HOI := Lib.hid (off_in t)
  have HOO := Lib.hid (off_out t)
  have H1 := Lib.hid (fun x w h => moff_any b t x w h)
  have H2 := Lib.hid (fun x => find_two b t x (by omega))
  have H3 := Lib.hid (fun x w h => Pr.index_any (.slice ua (nC t + 1) uc) (stL1 t.data.toList) x w h (stL1_rise _) (by rw [hsn]; omega))
  generalize nC t = n at *
  clear hu hm hsn
  go_wp2_with fail
  go_loopw [8] (fun i wr => ∃ x : Int, i = .int .i64 x ∧ -1 ≤ x ∧ x ≤ (n : Int) + 2 ∧ Q z1 wr) (fun i _ => ((n : Int) + 2 - intOf i).toNat)
  case atStart => exact ⟨-1, rfl, by omega, by omega, Q.refl _⟩
  case round =>
    obtain ⟨x, rfl, hx1, hx2, hq⟩ := hrel
    by_cases hlt : x ≤ (n : Int) + 1
    · by_cases hin : 0 ≤ x ∧ x ≤ (n : Int)
      · have h1 := fun w => H1.out x w
        rw [decide_eq_true hin] at h1
        obtain ⟨k, rfl⟩ : ∃ k : Nat, x = k := ⟨x.toNat, by omega⟩
        rw [HOI.out k (by omega)] at h1
        obtain ⟨g, off, cap, hvv, hg, _, _, c1⟩ := (HU.out.q hq).cellOf HSN.out (k := k) (by omega)
        cases hvv
        have hmx : max (k : Int) 0 = (k : Int) := by omega
        have hmn : min (k : Int) (n : Int) = (k : Int) := by omega
        have hkl : (k : Int) < (n : Int) + 1 := by omega
        generalize (stL1 t.data.toList).getD k 0 = y at c1 h1
        have G1 := Lib.hid h1
        clear h1 hin
        go_wp2_with fail
        refine (G1.out _ (HM.out.q hq)).mono ?_
        rintro e z2 ⟨rfl, rfl⟩
        go_wp2_with fail
        go_roundw
        case rel => exact ⟨(k : Int) + 1, by go_num, by omega, by omega, hq⟩
        case measure => simp [intOf]; omega
      · have h1 := fun w => H1.out x w
        rw [decide_eq_false hin, HOO.out x hin] at h1
        have G1 := Lib.hid h1
        clear h1
        have hxx : x = -1 ∨ x = (n : Int) + 1 := by omega
        have hn1 : (0 : Int) ≤ (n : Int) + 1 := by omega
        clear hin
        rcases hxx with rfl | rfl
        all_goals
          go_wp2_with fail
          refine (G1.out _ (HM.out.q hq)).mono ?_
          rintro e z2 ⟨rfl, rfl⟩
          go_wp2_with fail
          go_roundw
          case rel => exact ⟨_, by go_num, by omega, by omega, hq⟩
          case measure => simp [intOf]; omega
    · go_wp2_with fail
      go_loopw [12] (fun i wr => ∃ x : Int, i = .int .i64 x ∧ -1 ≤ x ∧ x ≤ (t.size : Int) + 2 ∧ Q z1 wr) (fun i _ => ((t.size : Int) + 2 - intOf i).toNat)
      case atStart => exact ⟨-1, rfl, by omega, by omega, hq⟩
      case round =>
        obtain ⟨x, rfl, hx1, hx2, hq⟩ := hrel
        by_cases hlt : x ≤ (t.size : Int) + 1
        · have h3 := H3.out x
          rcases H2.out x with ⟨he, h2⟩ | ⟨c, he, h2⟩
          · rw [he] at h3
            have G2 := Lib.hid h2
            have G3 := Lib.hid h3
            clear h2 h3 he
            go_wp2_with fail
            refine (G2.out _ (HM.out.q hq)).mono ?_
            rintro e z2 ⟨rfl, hq2⟩
            have hqq2 := hq.trans hq2
            go_wp2_with fail
            refine (G3.out _ (HU.out.q hqq2)).mono ?_
            rintro e z3 ⟨rfl, rfl⟩
            go_wp2_with fail
            go_roundw
            case rel => exact ⟨x + 1, by go_num, by omega, by omega, hqq2⟩
            case measure => simp [intOf]; omega
          · rw [he] at h3
            have hmx : max (c : Int) 0 = (c : Int) := by omega
            have G2 := Lib.hid h2
            have G3 := Lib.hid h3
            clear h2 h3 he
            go_wp2_with fail
            refine (G2.out _ (HM.out.q hq)).mono ?_
            rintro e z2 ⟨rfl, hq2⟩
            have hqq2 := hq.trans hq2
            go_wp2_with fail
            refine (G3.out _ (HU.out.q hqq2)).mono ?_
            rintro e z3 ⟨rfl, rfl⟩
            go_wp2_with fail
            go_roundw
            case rel => exact ⟨x + 1, by go_num, by omega, by omega, hqq2⟩
            case measure => simp [intOf]; omega
        · have h1 := fun w => H1.out a1 w
          have h3 := H3.out a1
          generalize offZ t a1 = y at h1
          have hcs : (a1 < 0 ∧ decide (0 ≤ a1 ∧ a1 ≤ (n : Int)) = false) ∨ (0 ≤ a1 ∧ a1 < (n : Int) + 1 ∧ decide (0 ≤ a1 ∧ a1 ≤ (n : Int)) = true) ∨ (0 ≤ a1 ∧ ¬ a1 < (n : Int) + 1 ∧ decide (0 ≤ a1 ∧ a1 ≤ (n : Int)) = false) := by
            by_cases h0 : a1 < 0
            · exact .inl ⟨h0, decide_eq_false (by omega)⟩
            · by_cases h4 : a1 < (n : Int) + 1
              · exact .inr (.inl ⟨by omega, h4, decide_eq_true ⟨by omega, by omega⟩⟩)
              · exact .inr (.inr ⟨by omega, by omega, decide_eq_false (by omega)⟩)
          rcases H2.out a1 with ⟨he, h2⟩ | ⟨c, he, h2⟩
          all_goals
            rw [he] at h3
            have G2 := Lib.hid h2
            have G3 := Lib.hid h3
            clear h2 h3 he
            rcases hcs with ⟨i0, hd⟩ | ⟨i0, i1, hd⟩ | ⟨i0, i1, hd⟩
            all_goals
              rw [hd] at h1
              have G1 := Lib.hid h1
              clear h1 hd
              go_wp2_with fail
              refine (G1.out _ (HM.out.q hq)).mono ?_
              rintro e z2 ⟨rfl, rfl⟩
              go_wp2_with fail
              refine (G2.out _ (HM.out.q hq)).mono ?_
              rintro e z2 ⟨rfl, hq2⟩
              have hqq2 := hq.trans hq2
              go_wp2_with fail
              all_goals first
                | (exfalso; omega)
                | (refine (G3.out _ (HU.out.q hqq2)).mono ?_
                   rintro e z3 ⟨rfl, rfl⟩
                   go_wp2_with fail
                   refine (HLV.out _).mono ?_
                   rintro e z5 ⟨rfl, hq5⟩
                   go_wp2_with fail
                   go_ret
                   exact ⟨rfl, (hq1.trans hqq2).trans hq5⟩)

set_option maxRecDepth 100000 in
theorem lifted (os : Os) (started : os.Started) (H : Type) (enc : TypeId × Value → H) :
    ReturnsInHanded {} Try.checked os 3 .any (Rows.placeOffsetsSpec.pre6 enc Try.prog Try.f3 Rows.placeOffsetsRow.domain false) (Rows.placeOffsetsSpec.post enc Try.prog Try.f3 false true false false) := by
  refine returnsInHanded_of_change (C := Try.checked) own started (by kernel_rfl) Try.func3
    (ChangeSpec.witness6 (enc := enc) (C := Try.checked) false ⟨#[], #[.string ByteArray.empty, .int .i64 0], []⟩ 8 (by kernel_rfl) (by kernel_rfl) (by kernel_rfl) (by kernel_rfl)) ?_
  intro W base args ds gs before hval0 hW hcnd _
  have hval : ∀ (j : Nat) t v, Try.f3.params[j]? = some t → args[j]? = some v → Value.okWide Try.prog W .any base t v := hval0
  have hW' := hW
  obtain ⟨p, q, hA0, hV, rfl, hfz, hnd⟩ := hW
  have hA : DataW.TrodAll enc Try.prog W 0 (fun _ => true) true Try.f3.params.toList args.toList ds p := hA0
  rw [Try.params3] at hA hval
  obtain ⟨v0, vs0, d0, ds0, p0, q0, hargs, rfl, rfl, h0, r0⟩ := trodAll_cons hA
  obtain ⟨v1, vs1, d1, ds1, p1, q1, rfl, rfl, rfl, h1, r1⟩ := trodAll_cons r0
  obtain ⟨rfl, rfl, rfl⟩ := trodAll_nil r1
  obtain rfl : args = #[v0, v1] := by cases args; simp_all
  obtain ⟨rfl, rfl⟩ := trodVars_none hV
  obtain ⟨a0, rfl, rfl, rfl, w0⟩ := open_string Try.underlying9 (hval 0 9 v0 rfl rfl) h0
  obtain ⟨a1, rfl, rfl, rfl, w1⟩ := open_int Try.underlying3 (hval 1 3 v1 rfl rfl) h1
  clear hA0 hval0
  refine (walk W a0 w0 a1 (bounds_i64 w1)).mono fun e W' ⟨he, bel⟩ => ?_
  subst he
  exact ⟨_, rfl, _, _, _, [], _, [], hW', trodAll_mk1 (shut_bool Try.underlying4 _), (trodAll_cons_mk (shut_string Try.underlying9 w0) (trodAll_cons_mk (shut_int Try.underlying3 w1) trodAll_mk0)), rfl, bel.below.frame _, fun h => by cases h⟩

/-- The statement. -/
theorem proved : Rows.PlaceOffsetsSaid :=
  OpenClaim.holds_of_wide 3 Try.f3 rfl rfl rfl rfl rfl rfl rfl ⟨rfl, rfl, rfl, rfl, rfl⟩ rfl rfl rfl rfl rfl (by kernel_rfl) Try.func3 (by kernel_rfl)
    (of_decide_eq_true (by kernel_rfl)) (by unfold Func.isWrapper; first | (rw [if_pos (by decide +kernel)]; kernel_rfl) | (rw [if_neg (by decide +kernel)]; exact ⟨rfl, rfl⟩))
    (fun os started H enc _ => lifted os started H enc)
#print axioms proved
end Go.Proofs.Ytmobljfpkdjnpaa.placeOffsets
