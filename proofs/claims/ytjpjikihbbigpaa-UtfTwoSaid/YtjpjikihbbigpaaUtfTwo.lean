/- UtfTwo: behind whatever whole characters (the first 8) whatever text (its first 40 bytes) is told as it is alone; no conditions. -/
import Derived.Test.YtjpjikihbbigpaaRows
import Derived.WalkKit
import Derived.ProofKit
import Derived.OpenShut
import Derived.ShutString
import Derived.ChangeOld
import Derived.Below
import Derived.Test.YtjpjikihbbigpaaInts
import Derived.Test.YtjpjikihbbigpaaUtfM
import Derived.Test.YtjpjikihbbigpaaUtfR
import Derived.Test.YtjpjikihbbigpaaShelf
import Derived.Test.YtjpjikihbbigpaaShelfB
import Derived.Test.YtjpjikihbbigpaaBld
import Derived.Test.YtjpjikihbbigpaaUtfW
import Derived.Test.YtjpjikihbbigpaaUtfJ
import Derived.Test.YtjpjikihbbigpaaUtfL
set_option linter.unusedVariables false
set_option linter.unusedSimpArgs false
namespace Go.Proofs.Ytjpjikihbbigpaa.utfTwo
open Go.ChangeShapes Go.WideShapes Go.ChangeAt Go.RowKit
open Go.ChangeMaps (open_string shut_string)

theorem own : ownKnob Try.prog.godebug = none := by kernel_rfl
theorem laidOut : laidOutB Try.prog = true := by kernel_rfl

open Um
theorem two_all (xs : List Int) (r : List UInt8) (h : ∀ c ∈ xs, vld c = true) : allL (joinL xs ++ r) = xs ++ allL r := by
  unfold allL; rw [marks_join xs r h, List.map_append, List.map_map]
  congr 1
  exact List.map_id' xs
theorem two_ok (xs : List Int) (r : List UInt8) (h : ∀ c ∈ xs, vld c = true) : okL (joinL xs ++ r) = okL r := by
  unfold okL; rw [marks_join xs r h, List.all_append]; simp
theorem two_len (xs : List Int) (r : List UInt8) (h : ∀ c ∈ xs, vld c = true) : (marks (joinL xs ++ r)).length = xs.length + (marks r).length := by
  rw [marks_join xs r h]; simp

set_option maxHeartbeats 2000000 in
set_option maxRecDepth 100000 in
theorem walk (w : World) (v0 : Value) (xs0 : List Int) (w0 : Lst w v0 xs0) (b0 : ∀ n ∈ xs0, -9223372036854775808 ≤ n ∧ n ≤ 9223372036854775807) (a1 : ByteArray) (w1 : a1.size ≤ maxLen) :
    Calls Try.prog 8 #[v0, .string a1] w fun e w' => e = .returned (.bool true) ∧ Q w w' := by
  obtain ⟨ad, cp, rfl, hlc, hcm⟩ := w0.shape2
  have hcm2 := hcm
  unfold maxLen at hcm2
  have hfs := Ur.few_size a1 40
  have hfew := Lib.hid (fun w => Ur.few_any a1 40 w w1 (by omega))
  generalize Ur.few a1 40 = s at *
  obtain ⟨n, hn⟩ : ∃ n : Nat, n = min xs0.length 8 := ⟨_, rfl⟩
  have hnl : n ≤ xs0.length := by omega
  have hn8 : n ≤ 8 := by omega
  have HN := Lib.hid hn
  have HB := Lib.hid b0
  obtain ⟨L, hL⟩ : ∃ L, L = xs0.length := ⟨_, rfl⟩
  rw [← hL] at hlc hnl ⊢
  have HL := Lib.hid hL
  clear hn b0 hL
  go_enter Try.func8, Try.ntmps8
  go_wp2_with fail
  refine (hfew.out _).mono ?_
  rintro e w1 ⟨rfl, rfl⟩
  go_wp2_with fail
  go_loopw [5, 6] (fun v i wr => ∃ k : Nat, i = .int .i64 k ∧ k ≤ n ∧ Own wr w.heap.size v ((xs0.take k).map good) ∧ Q w wr) (fun _ i _ => n - (intOf i).toNat)
  case atStart => exact ⟨0, rfl, by omega, Own.nil _ _, Q.refl _⟩
  case round =>
    obtain ⟨k, rfl, hk, hown, hq⟩ := hrel
    have hqs := hq.le
    have htl : (xs0.take k).length = k := by have := HL.out; simp; omega
    have hml : ((xs0.take k).map good).length < 1099511627776 := by rw [List.length_map, htl]; omega
    have HTL := Lib.hid htl
    clear htl
    by_cases hlt : k < n
    · have hkl : k < L := by omega
      have hk8 : k < 8 := by omega
      obtain ⟨g, off, cap, hvv, hg, _, _, hca⟩ := w0.cellOf HL.out.symm hkl
      rw [← HL.out] at hvv
      cases hvv
      have hky : k < xs0.length := by rw [← HL.out]; exact hkl
      have c1 : wr.cell? ⟨g, off + k, none⟩ = some (.int .i64 (xs0.getD k 0)) := (World.cell?_of_block (w := w) (hq.block hg)).trans hca
      have hpb := HB.out (xs0.getD k 0) (by rw [List.getD_eq_getElem?_getD, List.getElem?_eq_getElem hky]; exact List.getElem_mem hky)
      have hts : (xs0.take (k + 1)).map good = (xs0.take k).map good ++ [good (xs0.getD k 0)] := by
        rw [List.take_succ_eq_append_getElem hky, List.map_append, List.getD_eq_getElem?_getD, List.getElem?_eq_getElem hky]; rfl
      have HTS := Lib.hid hts
      clear hts hca
      generalize hpp : xs0.getD k 0 = p at *
      clear hpp w0
      go_wp2_with fail
      refine (Ur.good_any _ _ hpb.1 hpb.2).mono ?_
      rintro e w1 ⟨rfl, rfl⟩
      go_wp2_with (at_builtin; refine push_int hown rfl _ _ rfl _ (by rfl) (by rfl) hml hqs ?_)
      intro v2 w2 hv2 hg2 _
      go_wp2_with fail
      exact ⟨⟨k + 1, by go_num, by omega, by rw [HTS.out]; first | exact hv2 | (rw [List.map_take]; exact hv2), hq.grown hg2 (fun g h => (hown.lt g h).1)⟩, by simp [intOf]; omega⟩
    · have hke : k = n := by omega
      have hvl : ∀ c ∈ (xs0.take k).map good, vld c = true := by
        intro c hc
        obtain ⟨d, _, rfl⟩ := List.mem_map.1 hc
        exact good_vld d
      have hgl : ((xs0.take k).map good).length = k := by rw [List.length_map, HTL.out]
      have hcase : (k < L ∧ ¬ k < 8) ∨ ¬ k < L := by have := HN.out; have := HL.out; omega
      have hk8 : k ≤ 8 := by omega
      have HGL := Lib.hid hgl
      clear hke hgl
      generalize (xs0.take k).map good = gs at *
      have hj1 := joinL_length gs
      have hlst := hown.lst
      have hml2 := marks_length s.data.toList
      rw [size_list] at hml2
      have hal : (allL s.data.toList).length = (marks s.data.toList).length := by unfold allL; rw [List.length_map]
      have hta := two_all gs s.data.toList hvl
      have hto := two_ok gs s.data.toList hvl
      have htn := two_len gs s.data.toList hvl
      rw [HGL.out] at htn hj1
      have hsz : (⟨(joinL gs).toArray⟩ : ByteArray).size ≤ 32 := by rw [← size_list]; simp; omega
      have happ : (⟨(joinL gs).toArray⟩ ++ s : ByteArray).data.toList = joinL gs ++ s.data.toList := by rw [ByteArray.data_append]; simp
      have hszT : (⟨(joinL gs).toArray⟩ ++ s : ByteArray).size ≤ 72 := by rw [ByteArray.size_append]; omega
      have hA := fun w => all_any (⟨(joinL gs).toArray⟩ ++ s) w (by omega)
      rw [happ, hta] at hA
      have hV := fun w => valid_any (⟨(joinL gs).toArray⟩ ++ s) w (by unfold maxLen; omega)
      rw [happ, hto] at hV
      have hN := fun w => len_any (⟨(joinL gs).toArray⟩ ++ s) w (by unfold maxLen; omega)
      rw [happ, htn] at hN
      have HA := Lib.hid hA
      have HV := Lib.hid hV
      have HNN := Lib.hid hN
      have HJ := Lib.hid (fun v w (h : Lst w v gs) => join_any v gs w h (by rw [HGL.out]; omega))
      have HAS := Lib.hid (fun w => all_any s w (by omega))
      have HVS := Lib.hid (fun w => valid_any s w (by unfold maxLen; omega))
      have HNS := Lib.hid (fun w => len_any s w (by unfold maxLen; omega))
      have hwl : (gs ++ allL s.data.toList).length < 1099511627776 := by rw [List.length_append, HGL.out, hal]; omega
      have hwl0 : ([] : List Int).length + gs.length < 1099511627776 := by rw [HGL.out]; simp; omega
      have hwl1 : gs.length + (allL s.data.toList).length < 1099511627776 := by rw [HGL.out, hal]; omega
      clear hA hV hN happ hta hto htn hszT hvl hal w0 hj1
      generalize (⟨(joinL gs).toArray⟩ : ByteArray) = T at *
      obtain ⟨ad2, cp2, rfl, _, _⟩ := hlst.form0 HGL.out
      have hbb : ((((k + (marks s.data.toList).length : Nat) : Int) == (k : Int) + ((marks s.data.toList).length : Int))) = true := by rw [beq_iff_eq]; omega
      rcases hcase with ⟨hkl, hnk⟩ | hkl
      all_goals
        go_wp2_with fail
        refine (HJ.out _ _ hlst).mono ?_
        rintro e w1 ⟨rfl, hq1⟩
        have hl1 := hlst.q hq1
        have hqq1 := hq.trans hq1
        have hqs1 := hqq1.le
        go_wp2_with (at_builtin; refine push_list (Own.nil _ w.heap.size) hl1 rfl _ _ rfl (by rfl) (by rfl) hwl0 hqs1 ?_)
        intro v2 w2 hv2 hg2 _
        have hv2 : Own w2 w.heap.size v2 gs := hv2
        have hqq2 := hqq1.grown hg2 (fun g h => by cases h)
        have hqs2 := hqq2.le
        go_wp2_with fail
        refine (HAS.out _).mono ?_
        rintro e w3 ⟨v3, rfl, hv3, hq3⟩
        have hqq3 := hqq2.trans hq3
        have hqs3 := hqq3.le
        have hv23 := hv2.q hq3
        have hl3 := hv3.lst
        go_wp2_with (at_builtin; refine push_list hv23 hl3 rfl _ _ rfl (by rfl) (by rfl) hwl1 hqs3 ?_)
        intro v4 w4 hv4 hg4 _
        have hqq4 := hqq3.grown hg4 (fun g h => (hv23.lt g h).1)
        have hl4 := hv4.lst
        go_wp2_with fail
        refine (HA.out _).mono ?_
        rintro e w5 ⟨v5, rfl, hv5, hq5⟩
        have hl5 := hv5.lst
        go_wp2_with fail
        refine (Ur.same_any _ _ _ _ _ hl5 (hl4.q hq5) hwl hwl).mono ?_
        rintro e w6 ⟨rfl, hq6⟩
        go_wp2_with fail
        refine (HNN.out _).mono ?_
        rintro e w7 ⟨rfl, hq7⟩
        go_wp2_with fail
        refine (HNS.out _).mono ?_
        rintro e w8 ⟨rfl, hq8⟩
        go_wp2_with fail
        refine (HV.out _).mono ?_
        rintro e w9 ⟨rfl, hq9⟩
        go_wp2_with fail
        refine (HVS.out _).mono ?_
        rintro e w10 ⟨rfl, hq10⟩
        go_wp2_with fail
        refine (lives_any _).mono ?_
        rintro e w11 ⟨rfl, hq11⟩
        go_wp2_with fail
        go_ret
        exact ⟨rfl, ((((((hqq4.trans hq5).trans hq6).trans hq7).trans hq8).trans hq9).trans hq10).trans hq11⟩

set_option maxRecDepth 100000 in
theorem lifted (os : Os) (started : os.Started) (H : Type) (enc : TypeId × Value → H) :
    ReturnsInHanded {} Try.checked os 8 .any (Rows.utfTwoSpec.pre6 enc Try.prog Try.f8 Rows.utfTwoRow.domain false) (Rows.utfTwoSpec.post enc Try.prog Try.f8 false true false false) := by
  refine returnsInHanded_of_change (C := Try.checked) own started (by kernel_rfl) Try.func8
    (ChangeSpec.witness6 (enc := enc) (C := Try.checked) false ⟨#[], #[.slice none 0 0, .string ByteArray.empty], []⟩ 8 (by kernel_rfl) (by kernel_rfl) (by kernel_rfl) (by kernel_rfl)) ?_
  intro W base args ds gs before hval0 hW hcnd _
  have hval : ∀ (j : Nat) t v, Try.f8.params[j]? = some t → args[j]? = some v → Value.okWide Try.prog W .any base t v := hval0
  have hW' := hW
  obtain ⟨p, q, hA0, hV, rfl, hfz, hnd⟩ := hW
  have hA : DataW.TrodAll enc Try.prog W 0 (fun _ => true) true Try.f8.params.toList args.toList ds p := hA0
  rw [Try.params8] at hA hval
  obtain ⟨v0, vs0, d0, ds0, p0, q0, hargs, rfl, rfl, h0, r0⟩ := trodAll_cons hA
  obtain ⟨v1, vs1, d1, ds1, p1, q1, rfl, rfl, rfl, h1, r1⟩ := trodAll_cons r0
  obtain ⟨rfl, rfl, rfl⟩ := trodAll_nil r1
  obtain rfl : args = #[v0, v1] := by cases args; simp_all
  obtain ⟨rfl, rfl⟩ := trodVars_none hV
  obtain ⟨a0, len0, cap0, rfl⟩ := okWide_slice Try.underlying29 (hval 0 29 v0 rfl rfl)
  have k0 := h0
  have lt0 : ∀ x ∈ p0, x.block < W.heap.size := by obtain ⟨m, hm⟩ := k0; exact DataW.trod_lt m _ _ _ hm
  obtain ⟨z0, w0⟩ : ∃ zs, IsRow .i64 W a0 len0 cap0 zs := by
    obtain ⟨fuel, hf⟩ := h0
    rcases open_ints Try.underlying29 Try.underlying3 (by kernel_rfl) hf with ⟨hcs, _⟩ | ⟨x, l, c, zs, hcs, _, hl, hm, hz, _, hcell, hwz⟩
    · simp [Value.cells] at hcs
      obtain ⟨rfl, rfl, rfl⟩ := hcs
      exact ⟨[], .inl ⟨rfl, rfl, rfl, rfl⟩⟩
    · simp [Value.cells] at hcs
      obtain ⟨rfl, rfl, rfl⟩ := hcs
      exact ⟨zs, .inr ⟨_, rfl, hl, hm, by simpa using hz, hcell, hwz⟩⟩
  obtain ⟨xs0, l0, _, b0⟩ := w0.lst
  obtain ⟨a1, rfl, rfl, rfl, w1⟩ := open_string Try.underlying9 (hval 1 9 v1 rfl rfl) h1
  clear hA0 hval0
  refine (walk W (.slice a0 len0 cap0) xs0 l0 b0 a1 w1).mono fun e W' ⟨he, bel⟩ => ?_
  subst he
  exact ⟨_, rfl, _, _, _, [], _, [], hW', trodAll_mk1 (shut_bool Try.underlying4 _), (trodAll_cons_mk (Below.trod laidOut (by kernel_rfl) (of_decide_eq_true (by kernel_rfl)) k0 bel lt0) (trodAll_cons_mk (shut_string Try.underlying9 w1) trodAll_mk0)), rfl, bel.below.frame _, fun h => by cases h⟩

/-- The statement. -/
theorem proved : Rows.UtfTwoSaid :=
  OpenClaim.holds_of_wide 8 Try.f8 rfl rfl rfl rfl rfl rfl rfl ⟨rfl, rfl, rfl, rfl, rfl⟩ rfl rfl rfl rfl rfl (by kernel_rfl) Try.func8 (by kernel_rfl)
    (of_decide_eq_true (by kernel_rfl)) (by unfold Func.isWrapper; first | (rw [if_pos (by decide +kernel)]; kernel_rfl) | (rw [if_neg (by decide +kernel)]; exact ⟨rfl, rfl⟩))
    (fun os started H enc _ => lifted os started H enc)
#print axioms proved
end Go.Proofs.Ytjpjikihbbigpaa.utfTwo
