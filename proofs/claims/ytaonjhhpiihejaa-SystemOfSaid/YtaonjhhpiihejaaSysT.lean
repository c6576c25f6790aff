/- The document's own answers on systems of digits: Shape, Read; and abacistlaw09's lives. -/
import Derived.Test.YtaonjhhpiihejaaRows
import Derived.Test.YtaonjhhpiihejaaInts
import Derived.Test.YtaonjhhpiihejaaEls
import Derived.Test.YtaonjhhpiihejaaUtfM
import Derived.Test.YtaonjhhpiihejaaUtfG
import Derived.Test.YtaonjhhpiihejaaUtfR
import Derived.Test.YtaonjhhpiihejaaDigM
import Derived.Test.YtaonjhhpiihejaaDigL
import Derived.Test.YtaonjhhpiihejaaDigR
import Derived.Test.YtaonjhhpiihejaaSysM
import Derived.Test.YtaonjhhpiihejaaSysR
import Derived.Test.YtaonjhhpiihejaaSysQ
import Derived.Test.YtaonjhhpiihejaaSamT
set_option linter.unusedVariables false
set_option linter.unusedSimpArgs false
namespace Go.Proofs.Ytaonjhhpiihejaa
open Go.RowKit
namespace Sr
open Sm Um

theorem app_eq (a : List UInt8) (b : ByteArray) : (⟨a.toArray⟩ : ByteArray) ++ b = ⟨(a ++ b.data.toList).toArray⟩ := by
  apply ba_ext
  rw [ByteArray.data_append]
  simp

set_option maxHeartbeats 2000000 in
theorem shape_any (x : ByteArray) (v : Value) (xs : List Int) (w : World) (hv : Lst w v xs) (hl : xs.length ≤ 1073741824) :
    Calls Try.prog 24 #[.string x, v] w fun e w' => e = .returned (.tuple #[.string ⟨(shS (nz x.data.toList) xs).toArray⟩, .int .i64 (shE (nz x.data.toList) xs)]) ∧ Q w w' := by
  have hb := nz_bd x.data.toList
  have hzc := fun w => zero_any x w
  have hdc := fun d w h0 h9 => digit_any x d w h0 h9
  generalize nz x.data.toList = z at *
  by_cases hz : z = -1
  · have HS : Hid (shS z xs = []) := Lib.hid (by unfold shS; rw [if_pos hz])
    have HE : Hid (shE z xs = 7) := Lib.hid (by unfold shE; rw [if_pos hz])
    have h2 : z < 0 := by omega
    obtain ⟨a, c, rfl⟩ := hv.shape
    clear hz hb hdc
    go_enter Try.func24, Try.ntmps24
    go_wp2_with (go_at_call 12; refine (hzc _).mono ?_; rintro e w1 ⟨rfl, hq1⟩)
    go_ret2
    rw [HS.out, HE.out]
    exact ⟨rfl, hq1⟩
  · have hb2 : 48 ≤ z ∧ z ≤ 120812 ∧ (z + 9 < 55296 ∨ 57343 < z) := by omega
    have hb3 : 48 ≤ z ∧ z ≤ 120812 := ⟨hb2.1, hb2.2.1⟩
    have HB := Lib.hid hb2
    clear hb hb2
    cases hok : Dm.okB xs
    · have HS : Hid (shS z xs = []) := Lib.hid (by unfold shS; rw [if_neg hz, hok]; rfl)
      have HE : Hid (shE z xs = 1) := Lib.hid (by unfold shE; rw [if_neg hz, hok]; rfl)
      have hM := fun w (h : Lst w v xs) => Dr.may_any v xs w h (by omega)
      rw [hok] at hM
      have HM := Lib.hid hM
      have HV := Lib.hid hv
      obtain ⟨a, c, rfl⟩ := hv.shape
      clear hz hok hM hdc
      go_enter Try.func24, Try.ntmps24
      go_wp2_with (first | (go_at_call 12; refine (hzc _).mono ?_; rintro e w1 ⟨rfl, hq1⟩) | (go_at_call 41; refine (HM.out _ (HV.out.q hq1)).mono ?_; rintro e w' ⟨rfl, rfl⟩))
      go_ret2
      rw [HS.out, HE.out]
      exact ⟨rfl, hq1⟩
    · have HS : Hid (shS z xs = joinL (xs.map (z + ·))) := Lib.hid (by unfold shS; rw [if_neg hz, hok]; rfl)
      have HE : Hid (shE z xs = 0) := Lib.hid (by unfold shE; rw [if_neg hz, hok]; rfl)
      have hM := fun w (h : Lst w v xs) => Dr.may_any v xs w h (by omega)
      rw [hok] at hM
      have HM := Lib.hid hM
      have HV := Lib.hid hv
      have HD := Lib.hid ((Dm.okB_iff xs).1 hok)
      obtain ⟨n, hn⟩ : ∃ n, n = xs.length := ⟨_, rfl⟩
      have HN := Lib.hid hn
      obtain ⟨a, c, rfl, _, _⟩ := hv.form0 hn.symm
      rw [← hn] at hl
      have HDC := Lib.hid hdc
      clear hz hok hM hv hn hdc
      go_enter Try.func24, Try.ntmps24
      go_wp2_with (go_at_call 12; refine (hzc _).mono ?_; rintro e w1 ⟨rfl, hq1⟩)
      refine (HM.out _ (HV.out.q hq1)).mono ?_
      rintro e w' ⟨rfl, rfl⟩
      go_wp2_with fail
      go_loopw [7, 8] (fun s i wr => ∃ k : Nat, i = .int .i64 k ∧ k ≤ n ∧ s = .string ⟨(joinL ((xs.take k).map (z + ·))).toArray⟩ ∧ Q w1 wr) (fun _ i _ => n - (intOf i).toNat)
      case atStart => exact ⟨0, rfl, by omega, rfl, Q.refl _⟩
      case round =>
        obtain ⟨k, rfl, hk, rfl, hq⟩ := hrel
        have hjl := joinL_length ((xs.take k).map (z + ·))
        have hjk : ((xs.take k).map (z + ·)).length ≤ k := by rw [List.length_map]; exact List.length_take_le _ _
        have hsz : (⟨(joinL ((xs.take k).map (z + ·))).toArray⟩ : ByteArray).size ≤ 4294967296 := by
          rw [← size_list]
          show (joinL ((xs.take k).map (z + ·))).length ≤ _
          omega
        clear hjl hjk
        by_cases hlt : k < n
        · have hkl : k < xs.length := by have := HN.out; omega
          obtain ⟨g, off, cap, hvv, hg, _, _, hca⟩ := (HV.out.q hq1).cellOf HN.out.symm hlt
          cases hvv
          have c1 : wr.cell? ⟨g, off + k, none⟩ = some (.int .i64 (xs.getD k 0)) := (World.cell?_of_block (w := w1) (hq.block hg)).trans hca
          have hjt := shS_snoc z xs k hkl
          have hdg := getD_dig HD.out hkl
          generalize xs.getD k 0 = p at c1 hjt hdg
          rw [one_enc (vld_dig HB.out hdg)] at hjt
          have HJ : Hid ((⟨(joinL ((xs.take k).map (z + ·))).toArray⟩ : ByteArray) ++ encB (z + p) = ⟨(joinL ((xs.take (k + 1)).map (z + ·))).toArray⟩) := Lib.hid (by rw [app_eq, hjt])
          have hes := encB_size (z + p)
          have hcd := fun w => HDC.out p w hdg.1 hdg.2
          have HCD := Lib.hid hcd
          clear hjt hca hcd
          generalize (⟨(joinL ((xs.take k).map (z + ·))).toArray⟩ : ByteArray) = S at *
          generalize encB (z + p) = T at *
          go_wp2_with (go_at_call 19; refine (HCD.out _).mono ?_; rintro e w2 ⟨rfl, hq2⟩)
          exact ⟨⟨k + 1, by go_num, by omega, by rw [HJ.out], hq.trans hq2⟩, by simp [intOf]; omega⟩
        · have hke : xs.take k = xs := List.take_of_length_le (by have := HN.out; omega)
          rw [hke]
          clear hke
          go_wp2_with fail
          go_ret2
          rw [HS.out, HE.out]
          exact ⟨rfl, hq1.trans hq⟩

set_option maxHeartbeats 2000000 in
theorem read_any (x s : ByteArray) (w : World) (hs : s.size ≤ 1073741824) :
    Calls Try.prog 27 #[.string x, .string s] w fun e w' => ∃ v, e = .returned (.tuple #[v, .int .i64 (rdE (nz x.data.toList) (allL s.data.toList))]) ∧ Own w' w.heap.size v (rdL (nz x.data.toList) (allL s.data.toList)) ∧ Q w w' := by
  have hb := nz_bd x.data.toList
  have hzc := fun w => zero_any x w
  have hvc := fun c w => value_any x c w
  generalize nz x.data.toList = z at *
  by_cases hz : z = -1
  · have HS : Hid (rdL z (allL s.data.toList) = []) := Lib.hid (by unfold rdL; rw [if_pos hz])
    have HE : Hid (rdE z (allL s.data.toList) = 7) := Lib.hid (by unfold rdE; rw [if_pos hz])
    have h2 : z < 0 := by omega
    clear hz hb hvc
    go_enter Try.func27, Try.ntmps27
    go_wp2_with (go_at_call 12; refine (hzc _).mono ?_; rintro e w1 ⟨rfl, hq1⟩)
    go_ret2
    rw [HS.out, HE.out]
    exact ⟨_, rfl, Own.nil _ _, hq1⟩
  · have hb2 : 48 ≤ z ∧ z ≤ 120812 := by omega
    have hal := fun w => Ur.all_any s w hs
    have hml := marks_length s.data.toList
    rw [size_list] at hml
    have hcl : (allL s.data.toList).length ≤ 1073741824 := by unfold allL; simp; omega
    have hvy : ∀ p, z ≤ p ∧ p ≤ z + 9 → vv z p = p - z := fun p h => by unfold vv vl; rw [if_neg hz, if_pos h]
    have hvn : ∀ p, ¬ (z ≤ p ∧ p ≤ z + 9) → vv z p = -1 := fun p h => by unfold vv vl; rw [if_neg hz, if_neg h]
    clear hb hml
    generalize allL s.data.toList = cs at *
    obtain ⟨n, hn⟩ : ∃ n, n = cs.length := ⟨_, rfl⟩
    have HN := Lib.hid hn
    rw [← hn] at hcl
    have HZ := Lib.hid hz
    have HVY := Lib.hid hvy
    have HVN := Lib.hid hvn
    have HVC := Lib.hid hvc
    clear hn hz hvy hvn hvc
    go_enter Try.func27, Try.ntmps27
    go_wp2_with (go_at_call 12; refine (hzc _).mono ?_; rintro e w1 ⟨rfl, hq1⟩)
    refine (hal _).mono ?_
    rintro e w2 ⟨v, u, rfl, hv, hu, _, hq2⟩
    have HV := Lib.hid hv.lst
    obtain ⟨a, cp, rfl, _, _⟩ := hv.lst.form0 HN.out.symm
    have hq12 := hq1.trans hq2
    clear hv hq2 hal hu
    go_wp2_with fail
    go_loopw [9, 10] (fun u i wr => ∃ k : Nat, i = .int .i64 k ∧ k ≤ n ∧ Own wr w2.heap.size u ((cs.take k).map (· - z)) ∧ (∀ c ∈ cs.take k, z ≤ c ∧ c ≤ z + 9) ∧ Q w2 wr) (fun _ i _ => n - (intOf i).toNat)
    case atStart => exact ⟨0, rfl, by omega, Own.nil _ _, by simp, Q.refl _⟩
    case round =>
      obtain ⟨k, rfl, hk, ho, hin, hq⟩ := hrel
      have hqs := hq.le
      by_cases hlt : k < n
      · have hkl : k < cs.length := by have := HN.out; omega
        obtain ⟨g, off, cap, hvv, hg, _, _, hca⟩ := HV.out.cellOf HN.out.symm hlt
        cases hvv
        have c1 : wr.cell? ⟨g, off + k, none⟩ = some (.int .i64 (cs.getD k 0)) := (World.cell?_of_block (w := w2) (hq.block hg)).trans hca
        have hsn := rd_snoc z cs k hkl
        have hts := List.take_succ_eq_append_getElem hkl
        have hge : cs.getD k 0 = cs[k] := by rw [List.getD_eq_getElem?_getD, List.getElem?_eq_getElem hkl]; rfl
        have hmem : cs.getD k 0 ∈ cs := by rw [hge]; exact List.getElem_mem hkl
        rw [← hge] at hts
        generalize cs.getD k 0 = p at *
        have HSN := Lib.hid hsn
        have HTS := Lib.hid hts
        have HME := Lib.hid hmem
        have HIN := Lib.hid hin
        have hwl : ((cs.take k).map (· - z)).length < 1099511627776 := by rw [List.length_map, List.length_take]; omega
        have hcp := fun w => HVC.out p w
        clear hsn hts hmem hge hca hin
        by_cases hp : z ≤ p ∧ p ≤ z + 9
        · rw [HVY.out p hp] at hcp
          have HC := Lib.hid hcp
          have HP := Lib.hid hp
          have hp0 : 0 ≤ p - z := by omega
          clear hp hcp
          go_wp2_with fail
          refine (HC.out _).mono ?_
          rintro e w3 ⟨rfl, hq3⟩
          have ho3 := ho.q hq3
          have hq23 := hq.trans hq3
          have hqs3 := hq23.le
          go_wp2_with (at_builtin; refine push_int ho3 rfl _ _ rfl _ (by rfl) (by rfl) hwl hqs3 ?_)
          intro v' w4 ho4 hg4 hat4
          have HO4 : Hid (Own w4 w2.heap.size v' ((cs.take (k + 1)).map (· - z))) := Lib.hid (by rw [HSN.out]; first | exact ho4 | (rw [List.map_take]; exact ho4))
          have hq4 := hq23.grown hg4 (fun j h => (ho3.lt j h).1)
          clear ho4
          go_wp2_with fail
          refine ⟨⟨k + 1, by go_num, by omega, HO4.out, ?_, hq4⟩, by simp [intOf]; omega⟩
          intro c hc
          rw [HTS.out] at hc
          rcases List.mem_append.1 hc with hc | hc
          · exact HIN.out c hc
          · simp at hc; subst hc; exact HP.out
        · rw [HVN.out p hp] at hcp
          have HC := Lib.hid hcp
          have hrb : rdB z cs = false := by
            cases h : rdB z cs
            · rfl
            · exact absurd ((rdB_iff z cs).1 h p HME.out) hp
          have HE : Hid (rdE z cs = 2) := Lib.hid (by unfold rdE; rw [if_neg HZ.out, hrb]; rfl)
          have HL : Hid (rdL z cs = []) := Lib.hid (by unfold rdL; rw [if_neg HZ.out, hrb]; rfl)
          clear hp hrb hcp
          go_wp2_with fail
          refine (HC.out _).mono ?_
          rintro e w3 ⟨rfl, hq3⟩
          go_wp2_with fail
          go_ret2
          rw [HE.out, HL.out]
          exact ⟨_, rfl, Own.nil _ _, (hq12.trans hq).trans hq3⟩
      · have hke : cs.take k = cs := List.take_of_length_le (by have := HN.out; omega)
        rw [hke] at ho hin
        have hrb : rdB z cs = true := (rdB_iff z cs).2 hin
        have HE : Hid (rdE z cs = 0) := Lib.hid (by unfold rdE; rw [if_neg HZ.out, hrb]; rfl)
        have HL : Hid (rdL z cs = cs.map (· - z)) := Lib.hid (by unfold rdL; rw [if_neg HZ.out, hrb]; rfl)
        clear hke hin hrb
        go_wp2_with fail
        go_ret2
        rw [HE.out, HL.out]
        exact ⟨_, rfl, ho.mono hq12.le, hq12.trans hq⟩

theorem toL_eq (s : ByteArray) : s.toList = s.data.toList := ByteArray.toList_eq s
theorem same_names (va vb : Value) (w : World) (ha : SLst w va nmB) (hb : SLst w vb nmB) :
    Calls Try.prog 13 #[va, vb] w fun e w' => e = .returned (.bool true) ∧ Q w w' := by
  refine (Gr.sames_any va vb nmB nmB w ha hb (by decide) (by decide)).mono ?_
  rintro e w' ⟨rfl, hq⟩
  exact ⟨retB (decide_eq_true rfl), hq⟩

/-- A name that is made of a number, and its nought. -/
theorem made (n : Int) : ∃ (p : ByteArray) (z : Int), p = ⟨(nm n).toArray⟩ ∧ nz p.data.toList = z ∧ (48 ≤ z ∧ z ≤ 120812 ∧ (z + 9 < 55296 ∨ 57343 < z)) ∧ p.size ≤ 8 ∧ (p.data.toList, z) ∈ tab := by
  refine ⟨⟨(nm n).toArray⟩, nmZ n, rfl, nm_nz n, ?_, ?_, nm_mem n⟩
  · have := nmZ_bd n; exact ⟨this.1, this.2.1, this.2.2.1⟩
  · exact (nmZ_bd n).2.2.2

theorem lives_any (w : World) : Calls Try.prog 16 #[] w fun e w' => e = .returned (.bool true) ∧ Q w w' := by
  have hl := Lst.made w [1, 2] 2 rfl (by unfold maxLen; omega)
  have hsh := fun (w' : World) (h : Lst w' (.slice (some ⟨w.heap.size, 0, none⟩) 2 2) [1, 2]) => Sy.shape_any ⟨#[97, 114, 97, 98]⟩ _ [1, 2] w' (by decide) h (by decide)
  have h1 : shS (nz (⟨#[97, 114, 97, 98]⟩ : ByteArray).data.toList) [1, 2] = [217, 161, 217, 162] := by decide +kernel
  have h2 : shE (nz (⟨#[97, 114, 97, 98]⟩ : ByteArray).data.toList) [1, 2] = 0 := by decide +kernel
  rw [h1, h2] at hsh
  have HL := Lib.hid hl
  have HS := Lib.hid hsh
  clear hl hsh h1 h2
  go_enter Try.func16, Try.ntmps16
  go_wp2_with fail
  refine (HS.out _ HL.out).mono ?_
  rintro e w1 ⟨rfl, hq1⟩
  go_wp2_with fail
  go_ret
  exact ⟨rfl, ((Q.refl _).alloc _).trans hq1⟩

end Sr
end Go.Proofs.Ytaonjhhpiihejaa
