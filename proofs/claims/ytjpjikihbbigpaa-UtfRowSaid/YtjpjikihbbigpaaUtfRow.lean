/- UtfRow: of whatever two characters the greater one has the greater bytes, and the bytes of none begin those of the other; no conditions. -/
import Derived.Test.YtjpjikihbbigpaaRows
import Derived.WalkKit
import Derived.ProofKit
import Derived.OpenShut
import Derived.ShutString
import Derived.ChangeOld
import Derived.Below
import Derived.Test.YtjpjikihbbigpaaInts
import Derived.Test.YtjpjikihbbigpaaUtfM
import Derived.Test.YtjpjikihbbigpaaUtfR
import Derived.Test.YtjpjikihbbigpaaShelf
import Derived.Test.YtjpjikihbbigpaaUtfW
import Derived.Test.YtjpjikihbbigpaaUtfL
set_option linter.unusedVariables false
set_option linter.unusedSimpArgs false
namespace Go.Proofs.Ytjpjikihbbigpaa.utfRow
open Go.ChangeShapes Go.WideShapes Go.ChangeAt Go.RowKit
open Go.ChangeMaps (open_string shut_string)

theorem own : ownKnob Try.prog.godebug = none := by kernel_rfl
theorem laidOut : laidOutB Try.prog = true := by kernel_rfl

open Um
theorem bl_cons (a b : Nat) (ha : a < 256) (hb : b < 256) (x y : List UInt8) :
    Op.bytesLess (UInt8.ofNat a :: x) (UInt8.ofNat b :: y) = (decide (a < b) || (decide (a = b) && Op.bytesLess x y)) := by
  have h1 : decide (UInt8.ofNat a < UInt8.ofNat b) = decide (a < b) := by
    rw [decide_eq_decide, UInt8.lt_iff_toNat_lt, u8_nat a ha, u8_nat b hb]
  have h2 : (UInt8.ofNat a == UInt8.ofNat b) = decide (a = b) := by
    rw [Bool.eq_iff_iff, beq_iff_eq, decide_eq_true_iff]
    constructor
    · intro h
      have := congrArg UInt8.toNat h
      rw [u8_nat a ha, u8_nat b hb] at this
      exact this
    · intro h; rw [h]
  show (decide (UInt8.ofNat a < UInt8.ofNat b) || (UInt8.ofNat a == UInt8.ofNat b && Op.bytesLess x y)) = _
  rw [h1, h2]
theorem bl_lt {a b : Nat} (ha : a < 256) (hb : b < 256) (x y : List UInt8) (h : a < b) : Op.bytesLess (UInt8.ofNat a :: x) (UInt8.ofNat b :: y) = true := by
  rw [bl_cons a b ha hb, decide_eq_true h]; rfl
theorem bl_eq {a b : Nat} (ha : a < 256) (hb : b < 256) (x y : List UInt8) (h : a = b) : Op.bytesLess (UInt8.ofNat a :: x) (UInt8.ofNat b :: y) = Op.bytesLess x y := by
  rw [bl_cons a b ha hb, decide_eq_true h, decide_eq_false (by omega)]; rfl
theorem bl_irr (l : List UInt8) : Op.bytesLess l l = false := by
  induction l with
  | nil => rfl
  | cons a l ih =>
    show (decide (a < a) || (a == a && Op.bytesLess l l)) = false
    rw [ih, decide_eq_false (by rw [UInt8.lt_iff_toNat_lt]; omega)]; simp
theorem bl_asymm : ∀ l m : List UInt8, Op.bytesLess l m = true → Op.bytesLess m l = false
  | [], [], h => rfl
  | [], _ :: _, h => rfl
  | _ :: _, [], h => by cases h
  | a :: l, b :: m, h => by
    have h' : (decide (a < b) || (a == b && Op.bytesLess l m)) = true := h
    show (decide (b < a) || (b == a && Op.bytesLess m l)) = false
    rw [Bool.or_eq_true, decide_eq_true_iff, Bool.and_eq_true, beq_iff_eq] at h'
    rcases h' with h' | ⟨rfl, h'⟩
    · rw [UInt8.lt_iff_toNat_lt] at h'
      rw [decide_eq_false (by rw [UInt8.lt_iff_toNat_lt]; omega)]
      have : (b == a) = false := by
        rw [beq_eq_false_iff_ne]; intro e; rw [e] at h'; omega
      rw [this]; rfl
    · rw [bl_asymm l m h', decide_eq_false (by rw [UInt8.lt_iff_toNat_lt]; omega)]; simp
/-- Greater characters have greater bytes. -/
theorem enc_less (x y : Int) (hx : vld x = true) (hy : vld y = true) (h : x < y) : Op.bytesLess (enc x) (enc y) = true := by
  rcases forms x hx with ⟨x0, x1, ex⟩ | ⟨x0, x1, ex⟩ | ⟨x0, x1, _, ex⟩ | ⟨x0, x1, ex⟩ <;>
  rcases forms y hy with ⟨y0, y1, ey⟩ | ⟨y0, y1, ey⟩ | ⟨y0, y1, _, ey⟩ | ⟨y0, y1, ey⟩ <;>
  rw [ex, ey]
  · exact bl_lt (by omega) (by omega) _ _ (by omega)
  · exact bl_lt (by omega) (by omega) _ _ (by omega)
  · exact bl_lt (by omega) (by omega) _ _ (by omega)
  · exact bl_lt (by omega) (by omega) _ _ (by omega)
  · omega
  · by_cases h1 : x.toNat / 64 = y.toNat / 64
    · rw [bl_eq (by omega) (by omega) _ _ (by omega)]
      exact bl_lt (by omega) (by omega) _ _ (by omega)
    · exact bl_lt (by omega) (by omega) _ _ (by omega)
  · exact bl_lt (by omega) (by omega) _ _ (by omega)
  · exact bl_lt (by omega) (by omega) _ _ (by omega)
  · omega
  · omega
  · by_cases h1 : x.toNat / 4096 = y.toNat / 4096
    · rw [bl_eq (by omega) (by omega) _ _ (by omega)]
      by_cases h2 : x.toNat / 64 = y.toNat / 64
      · rw [bl_eq (by omega) (by omega) _ _ (by omega)]
        exact bl_lt (by omega) (by omega) _ _ (by omega)
      · exact bl_lt (by omega) (by omega) _ _ (by omega)
    · exact bl_lt (by omega) (by omega) _ _ (by omega)
  · exact bl_lt (by omega) (by omega) _ _ (by omega)
  · omega
  · omega
  · omega
  · by_cases h1 : x.toNat / 262144 = y.toNat / 262144
    · rw [bl_eq (by omega) (by omega) _ _ (by omega)]
      by_cases h2 : x.toNat / 4096 = y.toNat / 4096
      · rw [bl_eq (by omega) (by omega) _ _ (by omega)]
        by_cases h3 : x.toNat / 64 = y.toNat / 64
        · rw [bl_eq (by omega) (by omega) _ _ (by omega)]
          exact bl_lt (by omega) (by omega) _ _ (by omega)
        · exact bl_lt (by omega) (by omega) _ _ (by omega)
      · exact bl_lt (by omega) (by omega) _ _ (by omega)
    · exact bl_lt (by omega) (by omega) _ _ (by omega)
theorem enc_front (x y : Int) (hx : vld x = true) (hy : vld y = true) (hne : x ≠ y) : (enc y).take (enc x).length ≠ enc x := by
  intro h
  have e : enc y = enc x ++ (enc y).drop (enc x).length := by
    conv => lhs; rw [← List.take_append_drop (enc x).length (enc y)]
    rw [h]
  have e2 : enc x ++ (enc y).drop (enc x).length = enc y ++ [] := by rw [List.append_nil]; exact e.symm
  exact hne (enc_inj hx hy e2).1

set_option maxHeartbeats 2000000 in
set_option maxRecDepth 100000 in
theorem walk (w : World) (a0 : Int) (w0 : -9223372036854775808 ≤ a0 ∧ a0 ≤ 9223372036854775807) (a1 : Int) (w1 : -9223372036854775808 ≤ a1 ∧ a1 ≤ 9223372036854775807) :
    Calls Try.prog 9 #[.int .i64 a0, .int .i64 a1] w fun e w' => e = .returned (.bool true) ∧ Q w w' := by
  have hx := good_vld a0
  have hy := good_vld a1
  have hxs : 1 ≤ (encB (good a0)).size := by have := enc_length _ hx; rw [← size_list, encB_list _ hx]; exact this.1
  have hys : 1 ≤ (encB (good a1)).size := by have := enc_length _ hy; rw [← size_list, encB_list _ hy]; exact this.1
  have hx4 := encB_size (good a0)
  have hy4 := encB_size (good a1)
  have hlist : ∀ c, vld c = true → (encB c).toList = enc c := fun c hc => by rw [Ur.toList_eq, encB_list c hc]
  have hs0 : (((encB (good a0)).size : Int) == 0) = false := by rw [beq_eq_false_iff_ne]; omega
  have ht0 : (((encB (good a1)).size : Int) == 0) = false := by rw [beq_eq_false_iff_ne]; omega
  have hG0 := Lib.hid (fun w => Ur.good_any a0 w w0.1 w0.2)
  have hG1 := Lib.hid (fun w => Ur.good_any a1 w w1.1 w1.2)
  rcases Int.lt_trichotomy (good a0) (good a1) with hlt | heq | hgt
  · have b1 : Op.bytesLess (encB (good a0)).toList (encB (good a1)).toList = true := by rw [hlist _ hx, hlist _ hy]; exact enc_less _ _ hx hy hlt
    have b2 : (good a0 == good a1) = false := by rw [beq_eq_false_iff_ne]; omega
    have b3 : ((encB (good a0)).toList == (encB (good a1)).toList) = false := by
      rw [hlist _ hx, hlist _ hy, beq_eq_false_iff_ne]
      intro e
      have := enc_inj (r := []) (t := []) hx hy (by rw [e])
      omega
    have b4 : decide (good a0 < good a1) = true := decide_eq_true hlt
    have hfr := enc_front _ _ hx hy (by omega : good a0 ≠ good a1)
    rw [← encB_list _ hx, ← encB_list _ hy, size_list] at hfr
    have hX := Lib.hid (fun w => encode_any (good a0) w)
    have hY := Lib.hid (fun w => encode_any (good a1) w)
    clear hlist hx hy
    generalize encB (good a0) = s at *
    generalize encB (good a1) = t at *
    generalize good a0 = x at *
    generalize good a1 = y at *
    by_cases hle : s.size ≤ t.size
    · have hmin : min (s.size : Int) (t.size : Int) = (s.size : Int) := by omega
      have b5 : ((t.extract 0 s.size).toList != s.toList) = true := by
        rw [Ur.toList_eq, Ur.toList_eq, Ur.extract_take, bne_iff_ne]; exact hfr
      have b6 : ((t.extract 0 s.size).toList == s.toList) = false := by
        rw [Ur.toList_eq, Ur.toList_eq, Ur.extract_take, beq_eq_false_iff_ne]; exact hfr
      clear hfr
      go_enter Try.func9, Try.ntmps9
      go_wp2_with fail
      refine (hG0.out _).mono ?_
      rintro e w1 ⟨rfl, rfl⟩
      go_wp2_with fail
      refine (hG1.out _).mono ?_
      rintro e w1 ⟨rfl, rfl⟩
      go_wp2_with fail
      refine (hX.out _).mono ?_
      rintro e w1 ⟨rfl, rfl⟩
      go_wp2_with fail
      refine (hY.out _).mono ?_
      rintro e w1 ⟨rfl, rfl⟩
      go_wp2_with fail
      refine (lives_any _).mono ?_
      rintro e w2 ⟨rfl, hq2⟩
      go_wp2_with fail
      go_ret
      exact ⟨rfl, hq2⟩
    · clear hfr
      go_enter Try.func9, Try.ntmps9
      go_wp2_with fail
      refine (hG0.out _).mono ?_
      rintro e w1 ⟨rfl, rfl⟩
      go_wp2_with fail
      refine (hG1.out _).mono ?_
      rintro e w1 ⟨rfl, rfl⟩
      go_wp2_with fail
      refine (hX.out _).mono ?_
      rintro e w1 ⟨rfl, rfl⟩
      go_wp2_with fail
      refine (hY.out _).mono ?_
      rintro e w1 ⟨rfl, rfl⟩
      go_wp2_with fail
      refine (lives_any _).mono ?_
      rintro e w2 ⟨rfl, hq2⟩
      go_wp2_with fail
      go_ret
      exact ⟨rfl, hq2⟩
  · rw [← heq] at hG1 ht0
    have b1 : Op.bytesLess (encB (good a0)).toList (encB (good a0)).toList = false := bl_irr _
    have hX := Lib.hid (fun w => encode_any (good a0) w)
    have hY := Lib.hid (fun w => encode_any (good a0) w)
    clear hlist hx hy heq hys hy4
    generalize encB (good a0) = s at *
    generalize good a0 = x at *
    go_enter Try.func9, Try.ntmps9
    go_wp2_with fail
    refine (hG0.out _).mono ?_
    rintro e w1 ⟨rfl, rfl⟩
    go_wp2_with fail
    refine (hG1.out _).mono ?_
    rintro e w1 ⟨rfl, rfl⟩
    go_wp2_with fail
    refine (hX.out _).mono ?_
    rintro e w1 ⟨rfl, rfl⟩
    go_wp2_with fail
    refine (hY.out _).mono ?_
    rintro e w1 ⟨rfl, rfl⟩
    go_wp2_with fail
    refine (lives_any _).mono ?_
    rintro e w2 ⟨rfl, hq2⟩
    go_wp2_with fail
    go_ret
    exact ⟨rfl, hq2⟩
  · have b1 : Op.bytesLess (encB (good a0)).toList (encB (good a1)).toList = false := by rw [hlist _ hx, hlist _ hy]; exact bl_asymm _ _ (enc_less _ _ hy hx hgt)
    have b2 : (good a0 == good a1) = false := by rw [beq_eq_false_iff_ne]; omega
    have b3 : ((encB (good a0)).toList == (encB (good a1)).toList) = false := by
      rw [hlist _ hx, hlist _ hy, beq_eq_false_iff_ne]
      intro e
      have := enc_inj (r := []) (t := []) hx hy (by rw [e])
      omega
    have b4 : decide (good a0 < good a1) = false := decide_eq_false (by omega)
    have hfr := enc_front _ _ hx hy (by omega : good a0 ≠ good a1)
    rw [← encB_list _ hx, ← encB_list _ hy, size_list] at hfr
    have hX := Lib.hid (fun w => encode_any (good a0) w)
    have hY := Lib.hid (fun w => encode_any (good a1) w)
    clear hlist hx hy
    generalize encB (good a0) = s at *
    generalize encB (good a1) = t at *
    generalize good a0 = x at *
    generalize good a1 = y at *
    by_cases hle : s.size ≤ t.size
    · have hmin : min (s.size : Int) (t.size : Int) = (s.size : Int) := by omega
      have b5 : ((t.extract 0 s.size).toList != s.toList) = true := by
        rw [Ur.toList_eq, Ur.toList_eq, Ur.extract_take, bne_iff_ne]; exact hfr
      have b6 : ((t.extract 0 s.size).toList == s.toList) = false := by
        rw [Ur.toList_eq, Ur.toList_eq, Ur.extract_take, beq_eq_false_iff_ne]; exact hfr
      clear hfr
      go_enter Try.func9, Try.ntmps9
      go_wp2_with fail
      refine (hG0.out _).mono ?_
      rintro e w1 ⟨rfl, rfl⟩
      go_wp2_with fail
      refine (hG1.out _).mono ?_
      rintro e w1 ⟨rfl, rfl⟩
      go_wp2_with fail
      refine (hX.out _).mono ?_
      rintro e w1 ⟨rfl, rfl⟩
      go_wp2_with fail
      refine (hY.out _).mono ?_
      rintro e w1 ⟨rfl, rfl⟩
      go_wp2_with fail
      refine (lives_any _).mono ?_
      rintro e w2 ⟨rfl, hq2⟩
      go_wp2_with fail
      go_ret
      exact ⟨rfl, hq2⟩
    · clear hfr
      go_enter Try.func9, Try.ntmps9
      go_wp2_with fail
      refine (hG0.out _).mono ?_
      rintro e w1 ⟨rfl, rfl⟩
      go_wp2_with fail
      refine (hG1.out _).mono ?_
      rintro e w1 ⟨rfl, rfl⟩
      go_wp2_with fail
      refine (hX.out _).mono ?_
      rintro e w1 ⟨rfl, rfl⟩
      go_wp2_with fail
      refine (hY.out _).mono ?_
      rintro e w1 ⟨rfl, rfl⟩
      go_wp2_with fail
      refine (lives_any _).mono ?_
      rintro e w2 ⟨rfl, hq2⟩
      go_wp2_with fail
      go_ret
      exact ⟨rfl, hq2⟩

set_option maxRecDepth 100000 in
theorem lifted (os : Os) (started : os.Started) (H : Type) (enc : TypeId × Value → H) :
    ReturnsInHanded {} Try.checked os 9 .any (Rows.utfRowSpec.pre6 enc Try.prog Try.f9 Rows.utfRowRow.domain false) (Rows.utfRowSpec.post enc Try.prog Try.f9 false true false false) := by
  refine returnsInHanded_of_change (C := Try.checked) own started (by kernel_rfl) Try.func9
    (ChangeSpec.witness6 (enc := enc) (C := Try.checked) false ⟨#[], #[.int .i64 0, .int .i64 0], []⟩ 8 (by kernel_rfl) (by kernel_rfl) (by kernel_rfl) (by kernel_rfl)) ?_
  intro W base args ds gs before hval0 hW hcnd _
  have hval : ∀ (j : Nat) t v, Try.f9.params[j]? = some t → args[j]? = some v → Value.okWide Try.prog W .any base t v := hval0
  have hW' := hW
  obtain ⟨p, q, hA0, hV, rfl, hfz, hnd⟩ := hW
  have hA : DataW.TrodAll enc Try.prog W 0 (fun _ => true) true Try.f9.params.toList args.toList ds p := hA0
  rw [Try.params9] at hA hval
  obtain ⟨v0, vs0, d0, ds0, p0, q0, hargs, rfl, rfl, h0, r0⟩ := trodAll_cons hA
  obtain ⟨v1, vs1, d1, ds1, p1, q1, rfl, rfl, rfl, h1, r1⟩ := trodAll_cons r0
  obtain ⟨rfl, rfl, rfl⟩ := trodAll_nil r1
  obtain rfl : args = #[v0, v1] := by cases args; simp_all
  obtain ⟨rfl, rfl⟩ := trodVars_none hV
  obtain ⟨a0, rfl, rfl, rfl, w0⟩ := open_int Try.underlying3 (hval 0 3 v0 rfl rfl) h0
  obtain ⟨a1, rfl, rfl, rfl, w1⟩ := open_int Try.underlying3 (hval 1 3 v1 rfl rfl) h1
  clear hA0 hval0
  refine (walk W a0 (bounds_i64 w0) a1 (bounds_i64 w1)).mono fun e W' ⟨he, bel⟩ => ?_
  subst he
  exact ⟨_, rfl, _, _, _, [], _, [], hW', trodAll_mk1 (shut_bool Try.underlying4 _), (trodAll_cons_mk (shut_int Try.underlying3 w0) (trodAll_cons_mk (shut_int Try.underlying3 w1) trodAll_mk0)), rfl, bel.below.frame _, fun h => by cases h⟩

/-- The statement. -/
theorem proved : Rows.UtfRowSaid :=
  OpenClaim.holds_of_wide 9 Try.f9 rfl rfl rfl rfl rfl rfl rfl ⟨rfl, rfl, rfl, rfl, rfl⟩ rfl rfl rfl rfl rfl (by kernel_rfl) Try.func9 (by kernel_rfl)
    (of_decide_eq_true (by kernel_rfl)) (by unfold Func.isWrapper; first | (rw [if_pos (by decide +kernel)]; kernel_rfl) | (rw [if_neg (by decide +kernel)]; exact ⟨rfl, rfl⟩))
    (fun os started H enc _ => lifted os started H enc)
#print axioms proved
end Go.Proofs.Ytjpjikihbbigpaa.utfRow
