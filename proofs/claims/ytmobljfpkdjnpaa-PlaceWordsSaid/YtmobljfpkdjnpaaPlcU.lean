/- What a map answers of words, and of other clusters in some's place. -/
import Derived.Test.YtmobljfpkdjnpaaRows
import Derived.Test.YtmobljfpkdjnpaaInts
import Derived.Test.YtmobljfpkdjnpaaEls
import Derived.Test.YtmobljfpkdjnpaaPlcM
import Derived.Test.YtmobljfpkdjnpaaPlcW
import Derived.Test.YtmobljfpkdjnpaaPlcC
import Derived.Test.YtmobljfpkdjnpaaPlcV
set_option linter.unusedVariables false
set_option linter.unusedSimpArgs false
namespace Go.Proofs.Ytmobljfpkdjnpaa
open Go.RowKit Um Cm Gm Pm

/-- Where a word ends. -/
def wdZ (s : ByteArray) (i : Int) (r : Bool) : Nat := if r = true then wdR (blk s) (nC s) (clN i (nC s)) else wdL (blk s) (clN i (nC s))
theorem wdZ_le (s : ByteArray) (i : Int) (r : Bool) : wdZ s i r ≤ nC s := by
  unfold wdZ
  have h := clN_le i (nC s)
  split
  · exact wdR_le _ _ _ h
  · exact Nat.le_trans (wdL_le _ _) h
set_option maxHeartbeats 800000 in
theorem mword_any (b : Nat) (s : ByteArray) (i : Int) (r : Bool) (w : World) (h : Mp w b s) (hs : s.size ≤ 1073741824) :
    Calls Try.prog 21 #[.pointer (some ⟨b, 0, none⟩), .int .i64 i, .bool r] w fun e w' => e = .returned (.int .i64 (wdZ s i r : Nat)) ∧ Q w w' := by
  have HL := Lib.hid (fun w h => mlen_any b s w h)
  have HM := Lib.hid h
  have hn := nC_le s
  obtain ⟨c, hc⟩ : ∃ c, c = clN i (nC s) := ⟨_, rfl⟩
  have hcn : c ≤ nC s := by rw [hc]; exact clN_le _ _
  have hmin : min (max i 0) (nC s : Int) = (c : Int) := by unfold clN at hc; omega
  cases r
  · have hW : wdZ s i false = wdL (blk s) c := by rw [hc]; rfl
    have h1 := skL_le (blk s) c
    have HR1 := Lib.hid (fun w h => mleft_blank b s c w h hcn hs)
    have HR2 := Lib.hid (fun w h => mleft_other b s (skL (blk s) c) w h (by omega) hs)
    rw [hW]
    unfold wdL
    generalize skL (fun k => !blk s k) (skL (blk s) c) = z at HR2 ⊢
    generalize skL (blk s) c = y at HR1 HR2
    generalize nC s = n at *
    clear h hc hW h1
    go_enter Try.func21, Try.ntmps21
    go_wp2_with fail
    refine (HL.out _ HM.out).mono ?_
    rintro e w1 ⟨rfl, rfl⟩
    go_wp2_with fail
    refine (HR1.out _ HM.out).mono ?_
    rintro e w1 ⟨rfl, hq1⟩
    go_wp2_with fail
    refine (HR2.out _ (HM.out.q hq1)).mono ?_
    rintro e w2 ⟨rfl, hq2⟩
    go_wp2_with fail
    go_ret
    exact ⟨rfl, hq1.trans hq2⟩
  · have hW : wdZ s i true = wdR (blk s) (nC s) c := by rw [hc]; rfl
    have h1 := skR_le (blk s) (nC s - c) c
    have HR1 := Lib.hid (fun w h => mright_blank b s c w h hcn hs)
    have HR2 := Lib.hid (fun w h => mright_other b s (skR (blk s) (nC s - c) c) w h (by omega) hs)
    rw [hW]
    unfold wdR
    generalize skR (fun k => !blk s k) (nC s - skR (blk s) (nC s - c) c) (skR (blk s) (nC s - c) c) = z at HR2 ⊢
    generalize skR (blk s) (nC s - c) c = y at HR1 HR2
    generalize nC s = n at *
    clear h hc hW h1
    go_enter Try.func21, Try.ntmps21
    go_wp2_with fail
    refine (HL.out _ HM.out).mono ?_
    rintro e w1 ⟨rfl, rfl⟩
    go_wp2_with fail
    refine (HR1.out _ HM.out).mono ?_
    rintro e w1 ⟨rfl, hq1⟩
    go_wp2_with fail
    refine (HR2.out _ (HM.out.q hq1)).mono ?_
    rintro e w2 ⟨rfl, hq2⟩
    go_wp2_with fail
    go_ret
    exact ⟨rfl, hq1.trans hq2⟩

/-- The text in which t stands where clusters p up to q stood. -/
def spl (s t : ByteArray) (p q : Nat) : ByteArray := ⟨(cat (cutL s 0 p ++ [t] ++ cutL s q (nC s))).toArray⟩
theorem spl_list (s t : ByteArray) (p q : Nat) : (spl s t p q).data.toList = cat (cutL s 0 p) ++ t.data.toList ++ cat (cutL s q (nC s)) := by
  unfold spl
  show (cat _).toArray.toList = _
  rw [List.toList_toArray, cat_append, cat_append]
  simp [cat]
theorem spl_size (s t : ByteArray) (p q : Nat) (hpq : p ≤ q) (hq : q ≤ nC s) : (spl s t p q).size ≤ s.size + t.size + s.size := by
  rw [← size_list, spl_list, List.length_append, List.length_append, size_list]
  have h1 := cat_cut_le s 0 p (Nat.zero_le _) (by omega)
  have h2 := cat_cut_le s q (nC s) hq (Nat.le_refl _)
  omega
set_option maxHeartbeats 1600000 in
theorem mspl_in (b : Nat) (s t : ByteArray) (p q : Nat) (w : World) (h : Mp w b s) (hpq : p ≤ q) (hq : q ≤ nC s) (hs : s.size ≤ 1000000) (ht : t.size ≤ 1000000) :
    Calls Try.prog 24 #[.pointer (some ⟨b, 0, none⟩), .int .i64 p, .int .i64 q, .string t] w fun e w' => ∃ c, e = .returned (.tuple #[.pointer (some ⟨c, 0, none⟩), .bool true]) ∧ Mp w' c (spl s t p q) ∧ Q w w' := by
  have HL := Lib.hid (fun w h => mlen_any b s w h)
  have HM := Lib.hid h
  have hn := nC_le s
  have HC1 := Lib.hid (fun w h => mcut_in b s p q w h hpq hq (by omega))
  have HC2 := Lib.hid (fun w h => mcut_in b s 0 p w h (Nat.zero_le _) (by omega) (by omega))
  have HC3 := Lib.hid (fun w h => mcut_in b s q (nC s) w h hq (Nat.le_refl _) (by omega))
  have l1 := cutL_length s 0 p (Nat.zero_le _) (by omega)
  have l2 := cutL_length s q (nC s) hq (Nat.le_refl _)
  have hsz := spl_size s t p q hpq hq
  have hsl : (cat (cutL s 0 p ++ [t] ++ cutL s q (nC s))).length = (spl s t p q).size := by
    rw [← size_list, spl]
  have HJ := Lib.hid (fun v w h => sjoin_any v (cutL s 0 p ++ [t] ++ cutL s q (nC s)) w h (by rw [List.length_append, List.length_append, l1, l2]; simp; omega) (by rw [hsl]; omega))
  have HN := Lib.hid (fun w => mnew_any (spl s t p q) w (by omega))
  have e1 : (⟨(cat (cutL s 0 p ++ [t] ++ cutL s q (nC s))).toArray⟩ : ByteArray) = spl s t p q := rfl
  rw [e1] at HJ
  generalize spl s t p q = z at *
  generalize cutL s 0 p = A at *
  generalize cutL s q (nC s) = C at *
  have l3 : (A ++ [t]).length + C.length < 1099511627776 := by rw [List.length_append, l1, l2]; simp; omega
  generalize nC s = n at *
  have L1 := Lib.hid l1
  clear h l2 hsz hsl e1 l1
  go_enter Try.func24, Try.ntmps24
  go_wp2_with fail
  refine (HC1.out _ HM.out).mono ?_
  rintro e w1 ⟨a1, rfl, hL1, rfl⟩
  go_wp2_with fail
  refine (HC2.out _ HM.out).mono ?_
  rintro e w1 ⟨a2, rfl, hL2, rfl⟩
  go_wp2_with fail
  refine (HL.out _ HM.out).mono ?_
  rintro e w1 ⟨rfl, rfl⟩
  go_wp2_with fail
  refine (HC3.out _ HM.out).mono ?_
  rintro e w1 ⟨a3, rfl, hL3, rfl⟩
  go_wp2_with (at_builtin; refine gfull elemS hL2 L1.out rfl _ _ rfl t rfl (by rfl) (by rfl) (by omega) ?_)
  intro v' w4 hown4 hq4
  have hL34 := hL3.q hq4
  have hqs4 := hq4.le
  go_wp2_with (at_builtin; refine gpushl elemS oneS hown4 hL34 rfl _ _ rfl (by rfl) (by rfl) l3 hqs4 ?_)
  intro v5 w5 hown5 hg5 _
  have hq5 : Q w w5 := hq4.grown hg5 (fun k hk => (hown4.lt k hk).1)
  go_wp2_with fail
  have hl5 : SLst w5 v5 (A ++ [t] ++ C) := by rw [List.append_assoc]; exact hown5.lst
  refine (HJ.out _ _ hl5).mono ?_
  rintro e w6 ⟨rfl, hq6⟩
  go_wp2_with fail
  refine (HN.out _).mono ?_
  rintro e w7 ⟨c, rfl, hm7, hq7⟩
  go_wp2_with fail
  go_ret2
  exact ⟨c, rfl, hm7, (hq5.trans hq6).trans hq7⟩
set_option maxHeartbeats 800000 in
theorem mspl_out (b : Nat) (s t : ByteArray) (i j : Int) (w : World) (h : Mp w b s) (hin : ¬ (0 ≤ i ∧ i ≤ j ∧ j ≤ (nC s : Int))) :
    Calls Try.prog 24 #[.pointer (some ⟨b, 0, none⟩), .int .i64 i, .int .i64 j, .string t] w fun e w' => e = .returned (.tuple #[.pointer none, .bool false]) ∧ w = w' := by
  have HC := Lib.hid (mcut_out b s i j w h hin)
  clear hin
  go_enter Try.func24, Try.ntmps24
  go_wp2_with fail
  refine HC.out.mono ?_
  rintro e w1 ⟨rfl, rfl⟩
  go_wp2_with fail
  go_ret2
  exact ⟨rfl, rfl⟩

end Go.Proofs.Ytmobljfpkdjnpaa
