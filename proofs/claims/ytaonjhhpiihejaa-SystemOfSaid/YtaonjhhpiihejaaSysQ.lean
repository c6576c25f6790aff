/- What system's Shape, Read and Convert answer. -/
import Derived.Test.YtaonjhhpiihejaaRows
import Derived.Test.YtaonjhhpiihejaaInts
import Derived.Test.YtaonjhhpiihejaaEls
import Derived.Test.YtaonjhhpiihejaaUtfM
import Derived.Test.YtaonjhhpiihejaaUtfW
import Derived.Test.YtaonjhhpiihejaaDigM
import Derived.Test.YtaonjhhpiihejaaDigL
import Derived.Test.YtaonjhhpiihejaaDigW
import Derived.Test.YtaonjhhpiihejaaBld
import Derived.Test.YtaonjhhpiihejaaSysM
import Derived.Test.YtaonjhhpiihejaaSysN
import Derived.Test.YtaonjhhpiihejaaSysP
set_option linter.unusedVariables false
set_option linter.unusedSimpArgs false
namespace Go.Proofs.Ytaonjhhpiihejaa
open Go.RowKit
namespace Sy
open Sm Um

set_option maxHeartbeats 2000000 in
theorem shape_any (x : ByteArray) (v : Value) (xs : List Int) (w : World) (hx : x.size ≤ maxLen) (hv : Lst w v xs) (hl : xs.length ≤ 1073741824) :
    Calls Try.prog 23 #[.string x, v] w fun e w' => e = .returned (.tuple #[.string ⟨(shS (nz x.data.toList) xs).toArray⟩, .int .i64 (shE (nz x.data.toList) xs)]) ∧ Q w w' := by
  have hb := nz_bd x.data.toList
  by_cases hz : nz x.data.toList = -1
  · have HS : Hid (shS (nz x.data.toList) xs = []) := Lib.hid (by unfold shS; rw [if_pos hz])
    have HE : Hid (shE (nz x.data.toList) xs = 7) := Lib.hid (by unfold shE; rw [if_pos hz])
    have hc := fun w => zero_none x w hx hz
    obtain ⟨a, c, rfl⟩ := hv.shape
    clear hz hb
    go_enter Try.func23, Try.ntmps23
    go_wp2_with (go_at_call 11; refine (hc _).mono ?_; rintro e w1 ⟨rfl, hq1⟩)
    go_ret2
    rw [HS.out, HE.out]
    exact ⟨rfl, hq1⟩
  · have hc := fun w => zero_some x w hx hz
    have hb2 : 48 ≤ nz x.data.toList ∧ nz x.data.toList ≤ 120812 ∧ (nz x.data.toList + 9 < 55296 ∨ 57343 < nz x.data.toList) := by omega
    clear hb
    generalize nz x.data.toList = z at *
    cases hok : Dm.okB xs
    · have HS : Hid (shS z xs = []) := Lib.hid (by unfold shS; rw [if_neg hz, hok]; rfl)
      have HE : Hid (shE z xs = 1) := Lib.hid (by unfold shE; rw [if_neg hz, hok]; rfl)
      have hM := fun w (h : Lst w v xs) => Dw.may_any v xs w h (by omega)
      rw [hok] at hM
      have HM := Lib.hid hM
      have HV := Lib.hid hv
      obtain ⟨a, c, rfl⟩ := hv.shape
      clear hz hok hM
      go_enter Try.func23, Try.ntmps23
      go_wp2_with (first | (go_at_call 11; refine (hc _).mono ?_; rintro e w1 ⟨rfl, hq1⟩) | (go_at_call 38; refine (HM.out _ (HV.out.q hq1)).mono ?_; rintro e w' ⟨rfl, rfl⟩))
      go_ret2
      rw [HS.out, HE.out]
      exact ⟨rfl, hq1⟩
    · have HS : Hid (shS z xs = joinL (xs.map (z + ·))) := Lib.hid (by unfold shS; rw [if_neg hz, hok]; rfl)
      have HE : Hid (shE z xs = 0) := Lib.hid (by unfold shE; rw [if_neg hz, hok]; rfl)
      have hM := fun w (h : Lst w v xs) => Dw.may_any v xs w h (by omega)
      rw [hok] at hM
      have HM := Lib.hid hM
      have HV := Lib.hid hv
      have HD := Lib.hid ((Dm.okB_iff xs).1 hok)
      obtain ⟨n, hn⟩ : ∃ n, n = xs.length := ⟨_, rfl⟩
      have HN := Lib.hid hn
      obtain ⟨a, c, rfl, _, _⟩ := hv.form0 hn.symm
      rw [← hn] at hl
      have hb3 : 48 ≤ z ∧ z ≤ 120812 := ⟨hb2.1, hb2.2.1⟩
      have HB := Lib.hid hb2
      clear hz hok hM hv hn hb2
      go_enter Try.func23, Try.ntmps23
      go_wp2_with (go_at_call 11; refine (hc _).mono ?_; rintro e w1 ⟨rfl, hq1⟩)
      refine (HM.out _ (HV.out.q hq1)).mono ?_
      rintro e w' ⟨rfl, rfl⟩
      have hfr := Bl.Is.fresh w1
      go_wp2_with fail
      go_loopw [24] (fun i wr => ∃ k : Nat, i = .int .i64 k ∧ k ≤ n ∧ Bl.Is w1.heap.size w1.heap.size (Lib.byteCells (joinL ((xs.take k).map (z + ·)))) wr ∧ Q w1 wr) (fun i _ => n - (intOf i).toNat)
      case atStart => exact ⟨0, rfl, by omega, hfr, (Q.refl _).alloc _⟩
      case round =>
        obtain ⟨k, rfl, hk, hI, hq⟩ := hrel
        have hjl := joinL_length ((xs.take k).map (z + ·))
        have hjk : ((xs.take k).map (z + ·)).length ≤ k := by rw [List.length_map]; exact List.length_take_le _ _
        have hjb : (joinL ((xs.take k).map (z + ·))).length ≤ 4 * k := by omega
        have hqs := hq.le
        clear hjl hjk
        by_cases hlt : k < n
        · have hkl : k < xs.length := by have := HN.out; omega
          obtain ⟨g, off, cap, hvv, hg, _, _, hca⟩ := (HV.out.q hq1).cellOf HN.out.symm hlt
          cases hvv
          have c1 : wr.cell? ⟨g, off + k, none⟩ = some (.int .i64 (xs.getD k 0)) := (World.cell?_of_block (w := w1) (hq.block hg)).trans hca
          have hjt := shS_snoc z xs k hkl
          have hdg := getD_dig HD.out hkl
          generalize xs.getD k 0 = p at c1 hjt hdg
          rw [one_enc (vld_dig HB.out hdg)] at hjt
          have HJ := Lib.hid hjt
          have hes := encB_size (z + p)
          clear hjt hca hfr
          go_wp2_with (first
            | (go_at_call 35; refine (encode_any _ _).mono ?_; rintro e w' ⟨rfl, rfl⟩)
            | (go_at_call 39; refine (Bl.write_any _ _ _ _ _ hI (by rw [Bl.cells_length]; omega) hqs).mono ?_; rintro e w' ⟨rfl, hI2, hb2, _⟩))
          exact ⟨⟨k + 1, by go_num, by omega, by rw [HJ.out]; exact hI2.write, Below.trans hq hb2⟩, by simp [intOf]; omega⟩
        · have hke : xs.take k = xs := List.take_of_length_le (by have := HN.out; omega)
          rw [hke] at hI
          clear hke hjb
          go_wp2_with (go_at_call 40; refine (Bl.done_any _ _ _ _ hI hqs).mono ?_; rintro e w' ⟨rfl, hb2⟩)
          go_ret2
          rw [HS.out, HE.out]
          exact ⟨rfl, hq1.trans (Below.trans hq hb2)⟩

set_option maxHeartbeats 2000000 in
theorem read_any (x s : ByteArray) (w : World) (hx : x.size ≤ maxLen) (hs : s.size ≤ 1073741824) :
    Calls Try.prog 25 #[.string x, .string s] w fun e w' => ∃ v, e = .returned (.tuple #[v, .int .i64 (rdE (nz x.data.toList) (allL s.data.toList))]) ∧ Own w' w.heap.size v (rdL (nz x.data.toList) (allL s.data.toList)) ∧ Q w w' := by
  have hb := nz_bd x.data.toList
  by_cases hz : nz x.data.toList = -1
  · have HS : Hid (rdL (nz x.data.toList) (allL s.data.toList) = []) := Lib.hid (by unfold rdL; rw [if_pos hz])
    have HE : Hid (rdE (nz x.data.toList) (allL s.data.toList) = 7) := Lib.hid (by unfold rdE; rw [if_pos hz])
    have hc := fun w => zero_none x w hx hz
    clear hz hb
    go_enter Try.func25, Try.ntmps25
    go_wp2_with (go_at_call 11; refine (hc _).mono ?_; rintro e w1 ⟨rfl, hq1⟩)
    go_ret2
    rw [HS.out, HE.out]
    exact ⟨_, rfl, Own.nil _ _, hq1⟩
  · have hc := fun w => zero_some x w hx hz
    have hb2 : 48 ≤ nz x.data.toList ∧ nz x.data.toList ≤ 120812 := by omega
    have hal := fun w => all_any s w hs
    have hml := marks_length s.data.toList
    rw [size_list] at hml
    have hcl : (allL s.data.toList).length ≤ 1073741824 := by unfold allL; simp; omega
    have hcb : ∀ c ∈ allL s.data.toList, 0 ≤ c ∧ c ≤ 1114111 := fun c hc => by
      have := (vld_iff c).1 (allL_vld _ c hc)
      omega
    clear hb hml
    generalize nz x.data.toList = z at *
    generalize allL s.data.toList = cs at *
    obtain ⟨n, hn⟩ : ∃ n, n = cs.length := ⟨_, rfl⟩
    have HN := Lib.hid hn
    have HC := Lib.hid hcb
    rw [← hn] at hcl
    have HZ := Lib.hid hz
    clear hn hcb hz
    go_enter Try.func25, Try.ntmps25
    go_wp2_with (go_at_call 11; refine (hc _).mono ?_; rintro e w1 ⟨rfl, hq1⟩)
    refine (hal _).mono ?_
    rintro e w2 ⟨v, rfl, hv, hq2⟩
    have HV := Lib.hid hv.lst
    obtain ⟨a, cp, rfl, _, _⟩ := hv.lst.form0 HN.out.symm
    have hq12 := hq1.trans hq2
    clear hv hq2 hal
    go_wp2_with fail
    go_loopw [8, 24] (fun u i wr => ∃ k : Nat, i = .int .i64 k ∧ k ≤ n ∧ Own wr w2.heap.size u ((cs.take k).map (· - z)) ∧ (∀ c ∈ cs.take k, z ≤ c ∧ c ≤ z + 9) ∧ Q w2 wr) (fun _ i _ => n - (intOf i).toNat)
    case atStart => exact ⟨0, rfl, by omega, Own.nil _ _, by simp, Q.refl _⟩
    case round =>
      obtain ⟨k, rfl, hk, ho, hin, hq⟩ := hrel
      have hqs := hq.le
      by_cases hlt : k < n
      · have hkl : k < cs.length := by have := HN.out; omega
        obtain ⟨g, off, cap, hvv, hg, _, _, hca⟩ := HV.out.cellOf HN.out.symm hlt
        cases hvv
        have c1 : wr.cell? ⟨g, off + k, none⟩ = some (.int .i64 (cs.getD k 0)) := (World.cell?_of_block (w := w2) (hq.block hg)).trans hca
        have hsn := rd_snoc z cs k hkl
        have hts := List.take_succ_eq_append_getElem hkl
        have hge : cs.getD k 0 = cs[k] := by rw [List.getD_eq_getElem?_getD, List.getElem?_eq_getElem hkl]; rfl
        have hmem : cs.getD k 0 ∈ cs := by rw [hge]; exact List.getElem_mem hkl
        rw [← hge] at hts
        have hpb := HC.out _ hmem
        generalize cs.getD k 0 = p at *
        have HSN := Lib.hid hsn
        have HTS := Lib.hid hts
        have HME := Lib.hid hmem
        have HIN := Lib.hid hin
        have hwl : ((cs.take k).map (· - z)).length < 1099511627776 := by rw [List.length_map, List.length_take]; omega
        clear hsn hts hmem hge hca hin
        by_cases hp : z ≤ p ∧ p ≤ z + 9
        · have hw := fun w => which_yes z p w ⟨by omega, by omega⟩ hp.1 hp.2
          have HP := Lib.hid hp
          clear hp
          go_wp2_with (first
            | (go_at_call 37; refine (hw _).mono ?_; rintro e w' ⟨rfl, rfl⟩)
            | (at_builtin; refine push_int ho rfl _ _ rfl _ (by rfl) (by rfl) hwl hqs ?_))
          intro v' w4 ho4 hg4 hat4
          have HO4 : Hid (Own w4 w2.heap.size v' ((cs.take (k + 1)).map (· - z))) := Lib.hid (by rw [HSN.out, List.map_take]; exact ho4)
          have hq4 := hq.grown hg4 (fun j h => (ho.lt j h).1)
          clear ho4
          go_wp2_with fail
          refine ⟨⟨k + 1, by go_num, by omega, HO4.out, ?_, hq4⟩, by simp [intOf]; omega⟩
          intro c hc
          rw [HTS.out] at hc
          rcases List.mem_append.1 hc with hc | hc
          · exact HIN.out c hc
          · simp at hc; subst hc; exact HP.out
        · have hw := fun w => which_no z p w ⟨by omega, by omega⟩ hp
          have hrb : rdB z cs = false := by
            cases h : rdB z cs
            · rfl
            · exact absurd ((rdB_iff z cs).1 h p HME.out) hp
          have HE : Hid (rdE z cs = 2) := Lib.hid (by unfold rdE; rw [if_neg HZ.out, hrb]; rfl)
          have HL : Hid (rdL z cs = []) := Lib.hid (by unfold rdL; rw [if_neg HZ.out, hrb]; rfl)
          clear hp hrb
          go_wp2_with (go_at_call 37; refine (hw _).mono ?_; rintro e w' ⟨rfl, rfl⟩)
          go_ret2
          rw [HE.out, HL.out]
          exact ⟨_, rfl, Own.nil _ _, hq12.trans hq⟩
      · have hke : cs.take k = cs := List.take_of_length_le (by have := HN.out; omega)
        rw [hke] at ho hin
        have hrb : rdB z cs = true := (rdB_iff z cs).2 hin
        have HE : Hid (rdE z cs = 0) := Lib.hid (by unfold rdE; rw [if_neg HZ.out, hrb]; rfl)
        have HL : Hid (rdL z cs = cs.map (· - z)) := Lib.hid (by unfold rdL; rw [if_neg HZ.out, hrb]; rfl)
        clear hke hin hrb
        go_wp2_with fail
        go_ret2
        rw [HE.out, HL.out]
        exact ⟨_, rfl, ho.mono hq12.le, hq12.trans hq⟩

set_option maxHeartbeats 2000000 in
theorem convert_any (x y s : ByteArray) (w : World) (hx : x.size ≤ maxLen) (hy : y.size ≤ maxLen) (hs : s.size ≤ 1073741824) :
    Calls Try.prog 28 #[.string x, .string y, .string s] w fun e w' => e = .returned (.tuple #[.string ⟨(cvS (nz x.data.toList) (nz y.data.toList) (allL s.data.toList)).toArray⟩, .int .i64 (cvE (nz x.data.toList) (nz y.data.toList) (allL s.data.toList))]) ∧ Q w w' := by
  have hrd := fun w => read_any x s w hx hs
  have hml := marks_length s.data.toList
  rw [size_list] at hml
  have hcl : (allL s.data.toList).length ≤ 1073741824 := by unfold allL; simp; omega
  have hrl := rdL_len (nz x.data.toList) (allL s.data.toList)
  have hro := rdL_ok (nz x.data.toList) (allL s.data.toList)
  by_cases hz : nz y.data.toList = -1
  · have HS : Hid (cvS (nz x.data.toList) (nz y.data.toList) (allL s.data.toList) = []) := Lib.hid (by unfold cvS; rw [if_pos hz])
    have HE : Hid (cvE (nz x.data.toList) (nz y.data.toList) (allL s.data.toList) = 7) := Lib.hid (by unfold cvE; rw [if_pos hz])
    have hc := fun w => zero_none y w hy hz
    clear hz hml hrl hro hcl hrd
    go_enter Try.func28, Try.ntmps28
    go_wp2_with (go_at_call 11; refine (hc _).mono ?_; rintro e w1 ⟨rfl, hq1⟩)
    go_ret2
    rw [HS.out, HE.out]
    exact ⟨rfl, hq1⟩
  · have hc := fun w => zero_some y w hy hz
    have hsh := fun (v : Value) (w : World) (h : Lst w v (rdL (nz x.data.toList) (allL s.data.toList))) => shape_any y v _ w hy h (by omega)
    clear hml
    generalize nz x.data.toList = f at *
    generalize nz y.data.toList = t at *
    generalize allL s.data.toList = cs at *
    have hE : cvE f t cs = rdE f cs := by unfold cvE; rw [if_neg hz]
    by_cases h0 : rdE f cs = 0
    · have HS : Hid (cvS f t cs = shS t (rdL f cs)) := Lib.hid (by unfold cvS shS; rw [if_neg hz, if_pos h0, if_neg hz, if_pos ((Dm.okB_iff _).2 hro)])
      have HE : Hid (cvE f t cs = 0) := Lib.hid (by rw [hE, h0])
      have HT : Hid (shE t (rdL f cs) = 0) := Lib.hid (by unfold shE; rw [if_neg hz, if_pos ((Dm.okB_iff _).2 hro)])
      rw [h0] at hrd
      have HR := Lib.hid hrd
      rw [HT.out] at hsh
      have HSH := Lib.hid hsh
      clear hz hE h0 hrd hsh hro hrl hcl
      generalize rdL f cs = ds at *
      go_enter Try.func28, Try.ntmps28
      go_wp2_with (go_at_call 11; refine (hc _).mono ?_; rintro e w1 ⟨rfl, hq1⟩)
      refine (HR.out _).mono ?_
      rintro e w2 ⟨v, rfl, hv, hq2⟩
      have HV := Lib.hid hv.lst
      obtain ⟨a, cp, rfl⟩ := hv.shape
      clear hv
      go_wp2_with fail
      refine (HSH.out _ _ HV.out).mono ?_
      rintro e w3 ⟨rfl, hq3⟩
      go_wp2_with fail
      go_ret2
      rw [HS.out, HE.out]
      exact ⟨rfl, (hq1.trans hq2).trans hq3⟩
    · have HS : Hid (cvS f t cs = []) := Lib.hid (by unfold cvS; rw [if_neg hz, if_neg h0])
      have HE := Lib.hid hE
      have hbd : rdE f cs = 2 ∨ rdE f cs = 7 := by
        unfold rdE at h0 ⊢
        split
        · exact .inr rfl
        · split
          · rename_i h1 h2; rw [if_neg h1, if_pos h2] at h0; exact absurd rfl h0
          · exact .inl rfl
      have HR := Lib.hid hrd
      clear hz hE hrd hsh hro hrl hcl h0
      generalize rdE f cs = e0 at *
      rcases hbd with rfl | rfl
      all_goals
        go_enter Try.func28, Try.ntmps28
        go_wp2_with (go_at_call 11; refine (hc _).mono ?_; rintro e w1 ⟨rfl, hq1⟩)
        refine (HR.out _).mono ?_
        rintro e w2 ⟨v, rfl, hv, hq2⟩
        obtain ⟨a, cp, rfl⟩ := hv.shape
        clear hv
        go_wp2_with fail
        go_ret2
        rw [HS.out, HE.out]
        exact ⟨rfl, hq1.trans hq2⟩

end Sy
end Go.Proofs.Ytaonjhhpiihejaa
