/- UtfJoins: of whatever numbers (the first 20) what is joined is the document's, and is told again; no conditions. -/
import Derived.Test.YtjpjikihbbigpaaRows
import Derived.WalkKit
import Derived.ProofKit
import Derived.OpenShut
import Derived.ShutString
import Derived.ChangeOld
import Derived.Below
import Derived.Test.YtjpjikihbbigpaaInts
import Derived.Test.YtjpjikihbbigpaaUtfM
import Derived.Test.YtjpjikihbbigpaaUtfR
import Derived.Test.YtjpjikihbbigpaaShelf
import Derived.Test.YtjpjikihbbigpaaShelfB
import Derived.Test.YtjpjikihbbigpaaBld
import Derived.Test.YtjpjikihbbigpaaUtfW
import Derived.Test.YtjpjikihbbigpaaUtfJ
import Derived.Test.YtjpjikihbbigpaaUtfL
set_option linter.unusedVariables false
set_option linter.unusedSimpArgs false
namespace Go.Proofs.Ytjpjikihbbigpaa.utfJoins
open Go.ChangeShapes Go.WideShapes Go.ChangeAt Go.RowKit
open Go.ChangeMaps (open_string shut_string)

theorem own : ownKnob Try.prog.godebug = none := by kernel_rfl
theorem laidOut : laidOutB Try.prog = true := by kernel_rfl

open Um

set_option maxHeartbeats 2000000 in
set_option maxRecDepth 100000 in
theorem walk (w : World) (v0 : Value) (xs0 : List Int) (w0 : Lst w v0 xs0) (b0 : ∀ n ∈ xs0, -9223372036854775808 ≤ n ∧ n ≤ 9223372036854775807) :
    Calls Try.prog 6 #[v0] w fun e w' => e = .returned (.bool true) ∧ Q w w' := by
  obtain ⟨ad, cp, rfl, hlc, hcm⟩ := w0.shape2
  have hcm2 := hcm
  unfold maxLen at hcm2
  obtain ⟨n, hn⟩ : ∃ n : Nat, n = min xs0.length 20 := ⟨_, rfl⟩
  have hmin : min (xs0.length : Int) 20 = (n : Int) := by omega
  have hnl : n ≤ xs0.length := by omega
  have hn20 : n ≤ 20 := by omega
  have hraw := w0.take n hnl
  have hyl : (xs0.take n).length = n := by simp; omega
  have hyb : ∀ c ∈ xs0.take n, -9223372036854775808 ≤ c ∧ c ≤ 9223372036854775807 := fun c hc => b0 c (List.mem_of_mem_take hc)
  generalize xs0.take n = ys at *
  have hjf := Lib.hid (okL_joinL ys)
  have HYB := Lib.hid hyb
  have HYL := Lib.hid hyl
  clear hn b0 w0 hyb hyl
  go_enter Try.func6, Try.ntmps6
  go_wp2_with fail
  go_loopw [4, 5] (fun v i wr => ∃ k : Nat, i = .int .i64 k ∧ k ≤ n ∧ Own wr w.heap.size v ((ys.take k).map good) ∧ Q w wr) (fun _ i _ => n - (intOf i).toNat)
  case atStart => exact ⟨0, rfl, by omega, Own.nil _ _, Q.refl _⟩
  case round =>
    obtain ⟨k, rfl, hk, hown, hq⟩ := hrel
    have hqs := hq.le
    have htl : (ys.take k).length = k := by have := HYL.out; simp; omega
    have hml : ((ys.take k).map good).length < 1099511627776 := by rw [List.length_map, htl]; omega
    have HTL := Lib.hid htl
    clear htl
    by_cases hlt : k < n
    · obtain ⟨g, off, cap, hvv, hg, _, _, hca⟩ := hraw.cellOf HYL.out hlt
      cases hvv
      have hky : k < ys.length := by rw [HYL.out]; exact hlt
      have c1 : wr.cell? ⟨g, off + k, none⟩ = some (.int .i64 (ys.getD k 0)) := (World.cell?_of_block (w := w) (hq.block hg)).trans hca
      have hpb := HYB.out (ys.getD k 0) (by rw [List.getD_eq_getElem?_getD, List.getElem?_eq_getElem hky]; exact List.getElem_mem hky)
      have hts : (ys.take (k + 1)).map good = (ys.take k).map good ++ [good (ys.getD k 0)] := by
        rw [List.take_succ_eq_append_getElem hky, List.map_append, List.getD_eq_getElem?_getD, List.getElem?_eq_getElem hky]; rfl
      have HTS := Lib.hid hts
      clear hts hca
      generalize hpp : ys.getD k 0 = p at *
      clear hpp
      clear hraw
      go_wp2_with fail
      refine (Ur.good_any _ _ hpb.1 hpb.2).mono ?_
      rintro e w1 ⟨rfl, rfl⟩
      go_wp2_with (at_builtin; refine push_int hown rfl _ _ rfl _ (by rfl) (by rfl) hml hqs ?_)
      intro v2 w2 hv2 hg2 _
      go_wp2_with fail
      exact ⟨⟨k + 1, by go_num, by omega, by rw [HTS.out, List.map_take]; exact hv2, hq.grown hg2 (fun g h => (hown.lt g h).1)⟩, by simp [intOf]; omega⟩
    · have hke : k = n := by omega
      have hty : ys.take k = ys := List.take_of_length_le (by have := HYL.out; omega)
      rw [hty] at hown hml
      clear hty hke
      have hvl : ∀ c ∈ ys.map good, vld c = true := by
        intro c hc
        obtain ⟨d, _, rfl⟩ := List.mem_map.1 hc
        exact good_vld d
      have hgl : (ys.map good).length ≤ 20 := by rw [List.length_map, HYL.out]; omega
      have hyl2 : ys.length ≤ 20 := by rw [HYL.out]; omega
      have hlst := hown.lst
      have hrw := hraw.q hq
      have hj1 := joinL_length (ys.map good)
      have hj2 := joinL_length ys
      have haj := allL_join _ hvl
      have hok := okL_join _ hvl
      generalize ys.map good = gs at *
      have hsz : (⟨(joinL gs).toArray⟩ : ByteArray).size ≤ 80 := by rw [← size_list]; simp; omega
      have hdl : (⟨(joinL gs).toArray⟩ : ByteArray).data.toList = joinL gs := rfl
      have hsz2 : (⟨(joinL ys).toArray⟩ : ByteArray).size ≤ 80 := by rw [← size_list]; simp; omega
      have hdl2 : (⟨(joinL ys).toArray⟩ : ByteArray).data.toList = joinL ys := rfl
      have hA := fun w => all_any ⟨(joinL gs).toArray⟩ w (by omega)
      rw [hdl, haj] at hA
      have hV := fun w => valid_any ⟨(joinL gs).toArray⟩ w (by unfold maxLen; omega)
      rw [hdl, hok] at hV
      have hV2 := fun w => valid_any ⟨(joinL ys).toArray⟩ w (by unfold maxLen; omega)
      rw [hdl2, hjf.out] at hV2
      have HA := Lib.hid hA
      have HV := Lib.hid hV
      have HV2 := Lib.hid hV2
      have HJ := Lib.hid (fun v w (h : Lst w v gs) => join_any v gs w h (by omega))
      have HJ2 := Lib.hid (fun v w (h : Lst w v ys) => join_any v ys w h (by omega))
      have HR := Lib.hid (fun v w (h : Lst w v gs) => Ur.join_any v gs w h (by omega))
      have HR2 := Lib.hid (fun v w (h : Lst w v ys) => Ur.join_any v ys w h (by omega))
      clear hA hV hV2 hdl hdl2 haj hok hj1 hj2 hraw hvl
      generalize (⟨(joinL gs).toArray⟩ : ByteArray) = S at *
      generalize (⟨(joinL ys).toArray⟩ : ByteArray) = T at *
      go_wp2_with fail
      refine (HJ.out _ _ hlst).mono ?_
      rintro e w1 ⟨rfl, hq1⟩
      go_wp2_with fail
      refine (HJ2.out _ _ (hrw.q hq1)).mono ?_
      rintro e w2 ⟨rfl, hq2⟩
      go_wp2_with fail
      refine (HR2.out _ _ ((hrw.q hq1).q hq2)).mono ?_
      rintro e w3 ⟨rfl, hq3⟩
      go_wp2_with fail
      refine (HR.out _ _ (((hlst.q hq1).q hq2).q hq3)).mono ?_
      rintro e w4 ⟨rfl, hq4⟩
      go_wp2_with fail
      refine (HA.out _).mono ?_
      rintro e w5 ⟨v5, rfl, hv5, hq5⟩
      go_wp2_with fail
      refine (Ur.same_any _ _ gs gs _ hv5.lst (((((hlst.q hq1).q hq2).q hq3).q hq4).q hq5) hml hml).mono ?_
      rintro e w6 ⟨rfl, hq6⟩
      go_wp2_with fail
      refine (HV.out _).mono ?_
      rintro e w7 ⟨rfl, hq7⟩
      go_wp2_with fail
      refine (HJ2.out _ _ (((((((hrw.q hq1).q hq2).q hq3).q hq4).q hq5).q hq6).q hq7)).mono ?_
      rintro e w8 ⟨rfl, hq8⟩
      go_wp2_with fail
      refine (HV2.out _).mono ?_
      rintro e w9 ⟨rfl, hq9⟩
      go_wp2_with fail
      refine (lives_any _).mono ?_
      rintro e w10 ⟨rfl, hq10⟩
      go_wp2_with fail
      go_ret
      exact ⟨rfl, (((((((((hq.trans hq1).trans hq2).trans hq3).trans hq4).trans hq5).trans hq6).trans hq7).trans hq8).trans hq9).trans hq10⟩

set_option maxRecDepth 100000 in
theorem lifted (os : Os) (started : os.Started) (H : Type) (enc : TypeId × Value → H) :
    ReturnsInHanded {} Try.checked os 6 .any (Rows.utfJoinsSpec.pre6 enc Try.prog Try.f6 Rows.utfJoinsRow.domain false) (Rows.utfJoinsSpec.post enc Try.prog Try.f6 false true false false) := by
  refine returnsInHanded_of_change (C := Try.checked) own started (by kernel_rfl) Try.func6
    (ChangeSpec.witness6 (enc := enc) (C := Try.checked) false ⟨#[], #[.slice none 0 0], []⟩ 8 (by kernel_rfl) (by kernel_rfl) (by kernel_rfl) (by kernel_rfl)) ?_
  intro W base args ds gs before hval0 hW hcnd _
  have hval : ∀ (j : Nat) t v, Try.f6.params[j]? = some t → args[j]? = some v → Value.okWide Try.prog W .any base t v := hval0
  have hW' := hW
  obtain ⟨p, q, hA0, hV, rfl, hfz, hnd⟩ := hW
  have hA : DataW.TrodAll enc Try.prog W 0 (fun _ => true) true Try.f6.params.toList args.toList ds p := hA0
  rw [Try.params6] at hA hval
  obtain ⟨v0, vs0, d0, ds0, p0, q0, hargs, rfl, rfl, h0, r0⟩ := trodAll_cons hA
  obtain ⟨rfl, rfl, rfl⟩ := trodAll_nil r0
  obtain rfl : args = #[v0] := by cases args; simp_all
  obtain ⟨rfl, rfl⟩ := trodVars_none hV
  obtain ⟨a0, len0, cap0, rfl⟩ := okWide_slice Try.underlying29 (hval 0 29 v0 rfl rfl)
  have k0 := h0
  have lt0 : ∀ x ∈ p0, x.block < W.heap.size := by obtain ⟨m, hm⟩ := k0; exact DataW.trod_lt m _ _ _ hm
  obtain ⟨z0, w0⟩ : ∃ zs, IsRow .i64 W a0 len0 cap0 zs := by
    obtain ⟨fuel, hf⟩ := h0
    rcases open_ints Try.underlying29 Try.underlying3 (by kernel_rfl) hf with ⟨hcs, _⟩ | ⟨x, l, c, zs, hcs, _, hl, hm, hz, _, hcell, hwz⟩
    · simp [Value.cells] at hcs
      obtain ⟨rfl, rfl, rfl⟩ := hcs
      exact ⟨[], .inl ⟨rfl, rfl, rfl, rfl⟩⟩
    · simp [Value.cells] at hcs
      obtain ⟨rfl, rfl, rfl⟩ := hcs
      exact ⟨zs, .inr ⟨_, rfl, hl, hm, by simpa using hz, hcell, hwz⟩⟩
  obtain ⟨xs0, l0, _, b0⟩ := w0.lst
  clear hA0 hval0
  refine (walk W (.slice a0 len0 cap0) xs0 l0 b0).mono fun e W' ⟨he, bel⟩ => ?_
  subst he
  exact ⟨_, rfl, _, _, _, [], _, [], hW', trodAll_mk1 (shut_bool Try.underlying4 _), (trodAll_cons_mk (Below.trod laidOut (by kernel_rfl) (of_decide_eq_true (by kernel_rfl)) k0 bel lt0) trodAll_mk0), rfl, bel.below.frame _, fun h => by cases h⟩

/-- The statement. -/
theorem proved : Rows.UtfJoinsSaid :=
  OpenClaim.holds_of_wide 6 Try.f6 rfl rfl rfl rfl rfl rfl rfl ⟨rfl, rfl, rfl, rfl, rfl⟩ rfl rfl rfl rfl rfl (by kernel_rfl) Try.func6 (by kernel_rfl)
    (of_decide_eq_true (by kernel_rfl)) (by unfold Func.isWrapper; first | (rw [if_pos (by decide +kernel)]; kernel_rfl) | (rw [if_neg (by decide +kernel)]; exact ⟨rfl, rfl⟩))
    (fun os started H enc _ => lifted os started H enc)
#print axioms proved
end Go.Proofs.Ytjpjikihbbigpaa.utfJoins
