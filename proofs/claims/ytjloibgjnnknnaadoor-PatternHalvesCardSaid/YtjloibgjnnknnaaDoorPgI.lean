/- Pieces' texts. -/
import Derived.Test.YtjloibgjnnknnaaDoorRows
import Derived.Test.YtjloibgjnnknnaaDoorInts
import Derived.Test.YtjloibgjnnknnaaDoorUtfM
import Derived.Test.YtjloibgjnnknnaaDoorBld
import Derived.Test.YtjloibgjnnknnaaDoorEls
import Derived.Test.YtjloibgjnnknnaaDoorSto
import Derived.Test.YtjloibgjnnknnaaDoorPcs
import Derived.Test.YtjloibgjnnknnaaDoorPatM
import Derived.Test.YtjloibgjnnknnaaDoorPgA
import Derived.Test.YtjloibgjnnknnaaDoorPgC
set_option linter.unusedVariables false
set_option linter.unusedSimpArgs false
namespace Go.Proofs.YtjloibgjnnknnaaDoor
open Go.RowKit
namespace Pg
open Pt Um

theorem fm_snoc {α : Type} (f : α → List UInt8) (l : List α) (k : Nat) (x : α) (hk : l[k]? = some x) : (l.take (k + 1)).flatMap f = (l.take k).flatMap f ++ f x := by
  have hk' := (List.getElem?_eq_some_iff.1 hk).1
  have e := (List.getElem?_eq_some_iff.1 hk).2
  rw [List.take_succ_eq_append_getElem hk', List.flatMap_append, e]
  simp
theorem fm_le {α : Type} (f : α → List UInt8) (l : List α) (k : Nat) : ((l.take k).flatMap f).length ≤ (l.flatMap f).length := by
  conv => rhs; rw [← List.take_append_drop k l, List.flatMap_append, List.length_append]
  omega
/-- A piece's text. -/
def rsP (c p m : ByteArray) (x : Pc.E) : List UInt8 := if x.1 = 0 then x.2 else if x.1 = 1 then c.data.toList else if x.1 = 2 then p.data.toList else if x.1 = 3 then m.data.toList else []

set_option maxRecDepth 100000 in
set_option maxHeartbeats 2000000 in
theorem resolveP_any (v : Value) (l : List Pc.E) (c p m : ByteArray) (w : World) (hv : Pc.LstP w v l) (hl : l.length ≤ 1000000) (hz : (l.flatMap (rsP c p m)).length ≤ 1000000) :
    Calls Tryd.prog 9 #[v, .string c, .string p, .string m] w fun e w' => e = .returned (.string ⟨(l.flatMap (rsP c p m)).toArray⟩) ∧ Q w w' := by
  obtain ⟨n, hn⟩ : ∃ n, n = l.length := ⟨_, rfl⟩
  have HN := Lib.hid hn
  have HV := Lib.hid hv
  obtain ⟨a, cp, rfl, hc1, hc2⟩ := hv.form0 hn.symm
  rw [← hn] at hl
  obtain ⟨T, hT⟩ : ∃ T : Nat → List UInt8, T = fun k => (l.take k).flatMap (rsP c p m) := ⟨_, rfl⟩
  have HT1 := Lib.hid (show l.flatMap (rsP c p m) = T n by rw [hT, hn]; simp)
  have HTS := Lib.hid (show ∀ k x, l[k]? = some x → T (k + 1) = T k ++ rsP c p m x from fun k x hk => by rw [hT]; exact fm_snoc _ _ _ _ hk)
  have HTL := Lib.hid (show ∀ k, (T k).length ≤ 1000000 from fun k => by rw [hT]; exact Nat.le_trans (fm_le _ _ _) hz)
  have HB0 := Lib.hid (show Bl.Is w.heap.size w.heap.size (Lib.byteCells (T 0)) (w.alloc (.cells #[.pointer none, .slice none 0 0] 55)) by
    rw [show T 0 = [] by rw [hT]; rfl]; exact Bl.Is.fresh w)
  rw [HT1.out]
  clear hn hv hT hz
  go_enter Tryd.func9, Tryd.ntmps9
  go_wp2_with fail
  go_loopw [14] (fun i wr => ∃ k : Nat, i = .int .i64 k ∧ k ≤ n ∧ Bl.Is w.heap.size w.heap.size (Lib.byteCells (T k)) wr ∧ Q w wr) (fun i _ => n - (intOf i).toNat)
  case atStart => exact ⟨0, rfl, by omega, HB0.out, (Q.refl _).alloc _⟩
  case round =>
    obtain ⟨k, rfl, hk, hI, hq⟩ := hrel
    have hqs := hq.le
    by_cases hlt : k < n
    · have hlti : (k : Int) < (n : Int) := by omega
      have hkl : k < l.length := by have := HN.out; omega
      obtain ⟨g, off, cap, hvv, hg, _, _, c1, c2⟩ := (HV.out.q hq).cellOf HN.out.symm hlt
      cases hvv
      have hx : l[k]? = some (l.getD k (0, [])) := by rw [List.getD_eq_getElem?_getD, List.getElem?_eq_getElem hkl]; rfl
      have hts := HTS.out k _ hx
      have htl := HTL.out (k + 1)
      obtain ⟨x, hx⟩ : ∃ x, x = l.getD k (0, []) := ⟨_, rfl⟩
      rw [← hx] at c1 c2 hts
      obtain ⟨xk, xt⟩ := x
      unfold Pc.txt at c2
      have hsx : xt = (⟨xt.toArray⟩ : ByteArray).data.toList := by simp
      obtain ⟨X, hX⟩ : ∃ X : ByteArray, X = ⟨xt.toArray⟩ := ⟨_, rfl⟩
      rw [← hX] at c2 hsx
      clear hx hX
      have hqa := hq.alloc (.cells #[.int .i64 xk, .string X] 56)
      have hIa := hI.q ((Q.refl wr).alloc (.cells #[.int .i64 xk, .string X] 56))
      have hqsa := hqa.le
      rw [hts, List.length_append] at htl
      have HTS1 := Lib.hid hts
      have HTL1 := Lib.hid htl
      clear hts htl
      have main : ∀ (Y : ByteArray), rsP c p m (xk, xt) = Y.data.toList → Hid (T (k + 1) = T k ++ Y.data.toList) ∧ (T k).length + Y.size ≤ 1000000 := fun Y hY => by
        have h1 := HTS1.out
        have h2 := HTL1.out
        rw [hY] at h1 h2
        rw [size_list] at h2
        exact ⟨Lib.hid h1, h2⟩
      by_cases h0 : xk = 0
      · subst h0
        obtain ⟨HM, hml⟩ := main X (by rw [← hsx]; rfl)
        clear main
        go_wp2_with fail
        refine (Bl.write_any _ _ _ _ _ hIa (by rw [Bl.cells_length]; omega) hqsa).mono ?_
        rintro e w4 ⟨rfl, hI2, hb2, _⟩
        go_wp2_with fail
        exact ⟨⟨k + 1, by go_num, by omega, by rw [HM.out]; exact hI2.write, Below.trans hqa hb2⟩, by simp [intOf]; omega⟩
      · have h0b : (xk == 0) = false := beq_eq_false_iff_ne.2 h0
        by_cases h1 : xk = 1
        · subst h1
          obtain ⟨HM, hml⟩ := main c rfl
          clear main
          go_wp2_with fail
          refine (Bl.write_any _ _ _ _ _ hIa (by rw [Bl.cells_length]; omega) hqsa).mono ?_
          rintro e w4 ⟨rfl, hI2, hb2, _⟩
          go_wp2_with fail
          exact ⟨⟨k + 1, by go_num, by omega, by rw [HM.out]; exact hI2.write, Below.trans hqa hb2⟩, by simp [intOf]; omega⟩
        · have h1b : (xk == 1) = false := beq_eq_false_iff_ne.2 h1
          by_cases h2 : xk = 2
          · subst h2
            obtain ⟨HM, hml⟩ := main p rfl
            clear main
            go_wp2_with fail
            refine (Bl.write_any _ _ _ _ _ hIa (by rw [Bl.cells_length]; omega) hqsa).mono ?_
            rintro e w4 ⟨rfl, hI2, hb2, _⟩
            go_wp2_with fail
            exact ⟨⟨k + 1, by go_num, by omega, by rw [HM.out]; exact hI2.write, Below.trans hqa hb2⟩, by simp [intOf]; omega⟩
          · have h2b : (xk == 2) = false := beq_eq_false_iff_ne.2 h2
            by_cases h3 : xk = 3
            · subst h3
              obtain ⟨HM, hml⟩ := main m rfl
              clear main
              go_wp2_with fail
              refine (Bl.write_any _ _ _ _ _ hIa (by rw [Bl.cells_length]; omega) hqsa).mono ?_
              rintro e w4 ⟨rfl, hI2, hb2, _⟩
              go_wp2_with fail
              exact ⟨⟨k + 1, by go_num, by omega, by rw [HM.out]; exact hI2.write, Below.trans hqa hb2⟩, by simp [intOf]; omega⟩
            · have h3b : (xk == 3) = false := beq_eq_false_iff_ne.2 h3
              have HM := Lib.hid (show T (k + 1) = T k by
                rw [HTS1.out]; unfold rsP
                rw [if_neg h0, if_neg h1, if_neg h2, if_neg h3, List.append_nil])
              clear main
              go_wp2_with fail
              exact ⟨⟨k + 1, by go_num, by omega, by rw [HM.out]; exact hIa, hqa⟩, by simp [intOf]; omega⟩
    · have hnlt : ¬ (k : Int) < (n : Int) := by omega
      obtain rfl : k = n := by omega
      go_wp2_with fail
      refine (Bl.done_any _ _ _ _ hI hqs).mono ?_
      rintro e w' ⟨rfl, hb2⟩
      go_wp2_with fail
      go_ret
      exact ⟨rfl, Below.trans hq hb2⟩
end Pg
end Go.Proofs.YtjloibgjnnknnaaDoor
