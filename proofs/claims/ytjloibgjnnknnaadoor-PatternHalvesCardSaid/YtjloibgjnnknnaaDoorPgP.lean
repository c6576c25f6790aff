/- A literal's text as it stands in a pattern's text; pieces as they stand there. -/
import Derived.Test.YtjloibgjnnknnaaDoorRows
import Derived.Test.YtjloibgjnnknnaaDoorInts
import Derived.Test.YtjloibgjnnknnaaDoorUtfM
import Derived.Test.YtjloibgjnnknnaaDoorUtfW
import Derived.Test.YtjloibgjnnknnaaDoorBld
import Derived.Test.YtjloibgjnnknnaaDoorPcs
import Derived.Test.YtjloibgjnnknnaaDoorPatM
import Derived.Test.YtjloibgjnnknnaaDoorPatN
import Derived.Test.YtjloibgjnnknnaaDoorPgA
import Derived.Test.YtjloibgjnnknnaaDoorPgC
import Derived.Test.YtjloibgjnnknnaaDoorPgI
import Derived.Test.YtjloibgjnnknnaaDoorPgN
import Derived.Test.YtjloibgjnnknnaaDoorPgO
set_option linter.unusedVariables false
set_option linter.unusedSimpArgs false
namespace Go.Proofs.YtjloibgjnnknnaaDoor
open Go.RowKit
namespace Pg
open Pt Um

def nsp (c : Int) : Bool := !spc c
theorem fl_nil : fl [] = [] := rfl
theorem prS_sp (sp : List Int) (r : List Int) (h : ∀ c ∈ sp, spc c = true) : ∀ run, prS run (sp ++ r) = prS (run ++ sp) r := by
  induction sp with
  | nil => intro run; simp
  | cons c t ih =>
    intro run
    rw [List.cons_append]
    conv => lhs; unfold prS
    rw [if_pos (h c List.mem_cons_self), ih (fun d hd => h d (List.mem_cons_of_mem _ hd))]
    simp
theorem prS_pl (pl : List Int) (r : List Int) (h : ∀ c ∈ pl, spc c = false) : prS [] (pl ++ r) = pl ++ prS [] r := by
  induction pl with
  | nil => simp
  | cons c t ih =>
    rw [List.cons_append]
    conv => lhs; unfold prS
    rw [if_neg (by rw [h c List.mem_cons_self]; simp), fl_nil, ih (fun d hd => h d (List.mem_cons_of_mem _ hd))]
    simp
theorem tw_mem {α : Type} {p : α → Bool} {l : List α} : ∀ x ∈ l.takeWhile p, p x = true := by
  induction l with
  | nil => intro x hx; simp at hx
  | cons y r ih =>
    intro x hx
    rw [List.takeWhile_cons] at hx
    split at hx
    · rename_i h
      rcases List.mem_cons.1 hx with rfl | hx
      · exact h
      · exact ih x hx
    · simp at hx
theorem prS_step (cs : List Int) : prS [] cs = fl (cs.takeWhile spc) ++ ((cs.dropWhile spc).takeWhile nsp) ++ prS [] ((cs.dropWhile spc).dropWhile nsp) := by
  conv => lhs; rw [← List.takeWhile_append_dropWhile (p := spc) (l := cs)]
  rw [prS_sp _ _ tw_mem, List.nil_append]
  have hpl := prS_pl ((cs.dropWhile spc).takeWhile nsp) ((cs.dropWhile spc).dropWhile nsp) (fun c hc => by have := tw_mem c hc; simpa [nsp] using this)
  rw [List.takeWhile_append_dropWhile] at hpl
  rw [List.append_assoc, ← hpl]
  cases hd : cs.dropWhile spc with
  | nil => simp [prS, fl_nil]
  | cons c r =>
    have hc := dw_head _ _ hd
    conv => lhs; unfold prS
    conv => rhs; unfold prS
    rw [if_neg (by rw [hc]; simp), if_neg (by rw [hc]; simp), fl_nil]
    simp
def strOf : Value → Nat
  | .string s => s.size
  | _ => 0
theorem isE {s : ByteArray} {l : List UInt8} (h : s.data.toList = l) : s.toList.isEmpty = l.isEmpty := by rw [ByteArray.toList_eq, h]
theorem dbl_len (l : List Int) : (dbl l).length ≤ 2 * l.length := by
  induction l with
  | nil => simp [dbl]
  | cons c r ih => rw [dbl_cons, List.length_append, List.length_cons]; split <;> simp <;> omega
theorem dbl_vl {l : List Int} (h : Vl l) : Vl (dbl l) := by
  intro c hc
  unfold dbl at hc
  obtain ⟨d, hd, hc⟩ := List.mem_flatMap.1 hc
  split at hc
  · rename_i h9
    have hv := h d hd
    rw [h9] at hv
    simp at hc
    rw [hc]; exact hv
  · simp at hc
    rw [hc]; exact h d hd
theorem fl_len (l : List Int) : (fl l).length ≤ 2 * l.length + 2 := by
  unfold fl
  have := dbl_len l
  split <;> simp <;> omega
theorem prS_len (cs : List Int) : ∀ run, (prS run cs).length ≤ 2 * (run.length + cs.length) + 2 * cs.length + 2 := by
  induction cs with
  | nil => intro run; unfold prS; have := fl_len run; simp; omega
  | cons c r ih =>
    intro run
    unfold prS
    split
    · have := ih (run ++ [c]); simp at this ⊢; omega
    · have h1 := ih []
      have h2 := fl_len run
      simp at h1 ⊢; omega

set_option maxHeartbeats 4000000 in
set_option maxRecDepth 100000 in
theorem escaped_any (s : ByteArray) (cs : List Int) (hs : s.data.toList = joinL cs) (hv : Vl cs) (hl : cs.length ≤ 10000) (w : World) :
    Calls Tryd.prog 38 #[.string s] w fun e w' => e = .returned (.string ⟨(joinL (prS [] cs)).toArray⟩) ∧ Q w w' := by
  obtain ⟨PR, hPR⟩ : ∃ PR, PR = prS [] cs := ⟨_, rfl⟩
  have HPR := Lib.hid hPR
  rw [← hPR]
  have hpl := prS_len cs []
  rw [← hPR] at hpl
  have HPL := Lib.hid (show (joinL PR).length ≤ 1000000 by have := joinL_length PR; simp at hpl; omega)
  have HS := Lib.hid hs
  have HV := Lib.hid hv
  clear hPR hpl hs hv
  have HB0 := Lib.hid (show Bl.Is w.heap.size w.heap.size (Lib.byteCells (joinL [])) (w.alloc (.cells #[.pointer none, .slice none 0 0] 55)) from Bl.Is.fresh w)
  go_enter Tryd.func38, Tryd.ntmps38
  go_wp2_with fail
  go_loopw [0] (fun x wr => ∃ (S : ByteArray) (ds out : List Int), x = .string S ∧ Hid (S.data.toList = joinL ds) ∧ Hid (Vl ds) ∧ ds.length ≤ 10000 ∧ Bl.Is w.heap.size w.heap.size (Lib.byteCells (joinL out)) wr ∧ Hid (out ++ prS [] ds = PR) ∧ Q w wr) (fun x _ => strOf x)
  case atStart => exact ⟨s, cs, [], rfl, HS, HV, hl, HB0.out, Lib.hid (by rw [HPR.out]; rfl), (Q.refl _).alloc _⟩
  case round =>
    obtain ⟨S, ds, out, rfl, HSD, HVD, hdl, hI, HO, hq⟩ := hrel
    have hqs := hq.le
    have he := isE HSD.out
    by_cases hd0 : ds = []
    · have he2 : S.toList.isEmpty = true := by rw [he, hd0]; rfl
      have HF := Lib.hid (show out = PR by rw [← HO.out, hd0]; simp [prS, fl_nil])
      clear he
      rw [HF.out] at hI
      go_wp2_with fail
      refine (Bl.done_any _ _ _ _ hI hqs).mono ?_
      rintro e w2 ⟨rfl, hb2⟩
      go_wp2_with fail
      go_ret
      exact ⟨rfl, Below.trans hq hb2⟩
    · have he2 : S.toList.isEmpty = false := by
        rw [he]
        cases hj : joinL ds with
        | nil => have := joinL_lenb ds HVD.out; rw [hj] at this; simp at this; exact absurd this hd0
        | cons a b => rfl
      clear he
      have hvs : Vl (ds.takeWhile spc) := fun c hc => HVD.out c (List.takeWhile_sublist _ |>.subset hc)
      have hvr : Vl (ds.dropWhile spc) := fun c hc => HVD.out c (List.dropWhile_sublist _ |>.subset hc)
      have hvp : Vl ((ds.dropWhile spc).takeWhile nsp) := fun c hc => hvr c (List.takeWhile_sublist _ |>.subset hc)
      have hv2 : Vl ((ds.dropWhile spc).dropWhile nsp) := fun c hc => hvr c (List.dropWhile_sublist _ |>.subset hc)
      have hl1 := congrArg List.length (List.takeWhile_append_dropWhile (p := spc) (l := ds))
      have hl2 := congrArg List.length (List.takeWhile_append_dropWhile (p := nsp) (l := ds.dropWhile spc))
      rw [List.length_append] at hl1 hl2
      have hj1 : joinL ds = joinL (ds.takeWhile spc) ++ joinL (ds.dropWhile spc) := by rw [← joinL_app, List.takeWhile_append_dropWhile]
      have hj2 : joinL (ds.dropWhile spc) = joinL ((ds.dropWhile spc).takeWhile nsp) ++ joinL ((ds.dropWhile spc).dropWhile nsp) := by rw [← joinL_app, List.takeWhile_append_dropWhile]
      have hless : (joinL ((ds.dropWhile spc).dropWhile nsp)).length < (joinL ds).length := by
        have h1 := joinL_lenb _ hvs
        have h2 := joinL_lenb _ hvp
        have h3 := congrArg List.length hj1
        have h4 := congrArg List.length hj2
        rw [List.length_append] at h3 h4
        have h5 : 0 < (ds.takeWhile spc).length + ((ds.dropWhile spc).takeWhile nsp).length := by
          cases hdr : ds with
          | nil => exact absurd hdr hd0
          | cons a b =>
            by_cases ha : spc a = true
            · simp [List.takeWhile_cons, ha]; omega
            · have ha2 : spc a = false := by simpa using ha
              simp [List.takeWhile_cons, List.dropWhile_cons, ha2, nsp]
        omega
      have HSTEP := Lib.hid (prS_step ds)
      have HT1 := Lib.hid (fun w => trimS_any S ds HSD.out HVD.out w)
      have HT2 := Lib.hid (fun (R : ByteArray) (hR : R.data.toList = joinL (ds.dropWhile spc)) w => trimP_any R (ds.dropWhile spc) hR hvr w)
      have HQT := Lib.hid (fun (T : ByteArray) (hT : T.data.toList = joinL (ds.takeWhile spc)) w => (by
        have hz : T.size ≤ 1000000 := by rw [← size_list, hT]; have := joinL_length (ds.takeWhile spc); omega
        have := quotation_any T w hz
        rw [hT, qtB_join _ hvs] at this
        exact this : Calls Tryd.prog 56 #[.string T] w fun e w' => e = .returned (.string ⟨(joinL (fl (ds.takeWhile spc))).toArray⟩) ∧ Q w w'))
      have hz0 : S.size = (joinL ds).length := by rw [← size_list, HSD.out]
      have HJ1 := Lib.hid hj1
      have HJ2 := Lib.hid hj2
      have HV2 := Lib.hid hv2
      rw [← hz0] at hless
      have hlenJ1 := congrArg List.length hj1
      have hlenJ2 := congrArg List.length hj2
      rw [List.length_append, ← hz0] at hlenJ1
      rw [List.length_append] at hlenJ2
      have hdsl : S.size ≤ 40000 := by rw [hz0]; have := joinL_length ds; omega
      obtain ⟨R, hR⟩ : ∃ R : ByteArray, R = ⟨(joinL (ds.dropWhile spc)).toArray⟩ := ⟨_, rfl⟩
      have hRd : R.data.toList = joinL (ds.dropWhile spc) := by rw [hR]
      have hRz : R.size = (joinL (ds.dropWhile spc)).length := by rw [← size_list, hRd]
      obtain ⟨S2, hS2⟩ : ∃ S2 : ByteArray, S2 = ⟨(joinL ((ds.dropWhile spc).dropWhile nsp)).toArray⟩ := ⟨_, rfl⟩
      have hSd : S2.data.toList = joinL ((ds.dropWhile spc).dropWhile nsp) := by rw [hS2]
      have hSz : S2.size = (joinL ((ds.dropWhile spc).dropWhile nsp)).length := by rw [← size_list, hSd]
      have hT2 := HT2.out R hRd
      rw [show (⟨(joinL ((ds.dropWhile spc).dropWhile fun c => !spc c)).toArray⟩ : ByteArray) = S2 from hS2.symm] at hT2
      have hT1 := HT1.out
      rw [← hR] at hT1
      have HE1 := Lib.hid (show ∀ n : Nat, n = S.size - R.size → (S.extract 0 n).data.toList = joinL (ds.takeWhile spc) from fun n hn => by
        rw [extract_data, List.drop_zero, HSD.out, HJ1.out, Nat.sub_zero, hn]
        rw [show S.size - R.size = (joinL (ds.takeWhile spc)).length by omega, List.take_left])
      have HE2 := Lib.hid (show ∀ n : Nat, n = R.size - S2.size → (R.extract 0 n).data.toList = joinL ((ds.dropWhile spc).takeWhile nsp) from fun n hn => by
        rw [extract_data, List.drop_zero, hRd, HJ2.out, Nat.sub_zero, hn]
        rw [show R.size - S2.size = (joinL ((ds.dropWhile spc).takeWhile nsp)).length by omega, List.take_left])
      have hRS : R.size ≤ S.size := by omega
      have hSR : S2.size ≤ R.size := by omega
      have hSS : S2.size < S.size := by omega
      have hd2l : ((ds.dropWhile spc).dropWhile nsp).length ≤ 10000 := by omega
      have HSd := Lib.hid hSd
      have HA1 := Lib.hid hT1
      have HA2 := Lib.hid hT2
      clear hR hRd hRz hS2 hSd hSz hT1 hT2 hj1 hj2 hlenJ1 hlenJ2 hl1 hl2 hz0 hless hvs hvr hvp hv2 HT1 HT2
      go_wp2_with fail
      refine (HA1.out _).mono ?_
      rintro e w2 ⟨rfl, hq2⟩
      have hI2 := hI.q hq2
      have hq22 := hq.trans hq2
      have hRSi : (R.size : Int) ≤ (S.size : Int) := by omega
      have hSRi : (S2.size : Int) ≤ (R.size : Int) := by omega
      go_wp2_with fail
      have HQ1 := Lib.hid (HQT.out (S.extract 0 (S.size - R.size)) (HE1.out _ rfl))
      refine (HQ1.out _).mono ?_
      rintro e w3 ⟨rfl, hq3⟩
      have hI3 := hI2.q hq3
      have hq33 := hq22.trans hq3
      obtain ⟨F1, hF1⟩ : ∃ F1 : List Int, F1 = fl (ds.takeWhile spc) := ⟨_, rfl⟩
      have hfl : (joinL F1).length ≤ 400000 := by
        have h1 := joinL_length F1
        have h2 := fl_len (ds.takeWhile spc)
        have h3 : (ds.takeWhile spc).length ≤ ds.length := (List.takeWhile_sublist _).length_le
        rw [← hF1] at h2
        omega
      have hos : (joinL out).length ≤ 1000000 := by
        have h1 := congrArg (fun l => (joinL l).length) HO.out
        simp only [joinL_app, List.length_append] at h1
        have h2 := HPL.out
        omega
      have hzF : (⟨(joinL F1).toArray⟩ : ByteArray).size = (joinL F1).length := by simp only [ByteArray.size, List.size_toArray]
      obtain ⟨FB, hFB⟩ : ∃ FB : ByteArray, FB = ⟨(joinL F1).toArray⟩ := ⟨_, rfl⟩
      have HFD := Lib.hid (show FB.data.toList = joinL F1 by rw [hFB])
      rw [← hF1, ← hFB]
      rw [← hFB] at hzF
      have HF1 := Lib.hid hF1
      clear hF1 hFB hq2 hq3 hI2
      have hqs3 := hq33.le
      go_wp2_with fail
      refine (Bl.write_any _ _ _ FB _ hI3 (by rw [Bl.cells_length]; omega) hqs3).mono ?_
      rintro e w4 ⟨rfl, hI4, hb4, _⟩
      have hI4 := hI4.write
      rw [HFD.out, ← joinL_app] at hI4
      have hq4 : Q w w4 := Below.trans hq33 hb4
      go_wp2_with fail
      refine (HA2.out _).mono ?_
      rintro e w5 ⟨rfl, hq5⟩
      have hI5 := hI4.q hq5
      have hq55 := hq4.trans hq5
      have hqs5 := hq55.le
      have HE2D := Lib.hid (HE2.out (R.size - S2.size) rfl)
      have hez : (R.extract 0 (R.size - S2.size)).size ≤ R.size := by rw [ByteArray.size_extract]; omega
      have hos2 : (joinL (out ++ F1)).length ≤ 2000000 := by rw [joinL_app, List.length_append]; omega
      clear hq4 hI4
      go_wp2_with fail
      refine (Bl.write_any _ _ _ (R.extract 0 (R.size - S2.size)) _ hI5 (by rw [Bl.cells_length]; omega) hqs5).mono ?_
      rintro e w6 ⟨rfl, hI6, hb6, _⟩
      have hI6 := hI6.write
      rw [HE2D.out, ← joinL_app] at hI6
      go_wp2_with fail
      exact ⟨⟨S2, (ds.dropWhile spc).dropWhile nsp, out ++ F1 ++ (ds.dropWhile spc).takeWhile nsp, rfl, HSd, HV2, hd2l, hI6, Lib.hid (by
        rw [← HO.out, HSTEP.out, HF1.out]; simp), Below.trans hq55 hb6⟩, hSS⟩
end Pg
end Go.Proofs.YtjloibgjnnknnaaDoor
