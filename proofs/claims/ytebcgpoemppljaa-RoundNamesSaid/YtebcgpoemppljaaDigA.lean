/- What package digit's Text and Parse come to, by a walk through each. -/
import Derived.Test.YtebcgpoemppljaaRows
import Derived.Test.YtebcgpoemppljaaDigL
import Derived.Test.YtebcgpoemppljaaInts
import Derived.Test.YtebcgpoemppljaaSto
import Derived.Test.YtebcgpoemppljaaStoB
import Derived.Test.YtebcgpoemppljaaDigW
import Derived.Deep.QuietTactic
import Derived.Deep.RegionWith
import Derived.BigQuiet
set_option linter.unusedVariables false
set_option linter.unusedSimpArgs false
namespace Go.Proofs.Ytebcgpoemppljaa
open Go.RowKit
namespace Dm
/-- Digits' text; a text's digits. -/
def txtL (xs : List Int) : List Int := xs.map fun d => 48 + d
def txtB (xs : List Int) : ByteArray := strOfNums (txtL xs)
def okS (s : ByteArray) : Bool := s.data.toList.all fun b => decide (48 ≤ b.toNat ∧ b.toNat ≤ 57)
def dgs (s : ByteArray) : List Int := s.data.toList.map fun b => (b.toNat : Int) - 48
theorem dgs_len (s : ByteArray) : (dgs s).length = s.size := by unfold dgs; rw [List.length_map, Array.length_toList]; rfl
theorem byte_of (d : Int) (h : 0 ≤ d ∧ d ≤ 9) : (UInt8.ofNat (48 + d).toNat).toNat = (48 + d).toNat := by
  rw [UInt8.toNat_ofNat']
  omega
theorem okS_txt (xs : List Int) (h : okD xs) : okS (txtB xs) = true := by
  unfold okS txtB
  rw [strOfNums_data, List.all_eq_true]
  intro b hb
  obtain ⟨n, hn, rfl⟩ := List.mem_map.1 hb
  obtain ⟨d, hd, rfl⟩ := List.mem_map.1 hn
  have h1 := h d hd
  rw [byte_of d h1]
  exact decide_eq_true (by omega)
theorem dgs_txt (xs : List Int) (h : okD xs) : dgs (txtB xs) = xs := by
  unfold dgs txtB txtL
  rw [strOfNums_data, List.map_map, List.map_map]
  conv => rhs; rw [← List.map_id xs]
  apply List.map_congr_left
  intro d hd
  have h1 := h d hd
  show (((UInt8.ofNat (48 + d).toNat).toNat : Nat) : Int) - 48 = d
  rw [byte_of d h1]; omega
theorem txt_dgs (s : ByteArray) (h : okS s = true) : txtB (dgs s) = s := by
  have e : (txtB (dgs s)).data.toList = s.data.toList := by
    unfold dgs txtB txtL
    rw [strOfNums_data, List.map_map, List.map_map]
    conv => rhs; rw [← List.map_id s.data.toList]
    apply List.map_congr_left
    intro b hb
    have h1 := of_decide_eq_true (List.all_eq_true.1 h b hb)
    show UInt8.ofNat (48 + ((b.toNat : Int) - 48)).toNat = b
    rw [show (48 + ((b.toNat : Int) - 48)).toNat = b.toNat from by omega]
    exact UInt8.ofNat_toNat
  have e2 := Array.toList_inj.1 e
  generalize txtB (dgs s) = t at *
  cases t; cases s; simp only at e2; rw [e2]
theorem txt_size (xs : List Int) : (txtB xs).size = xs.length := by unfold txtB txtL; rw [strOfNums_size, List.length_map]
theorem okD_dgs (s : ByteArray) (h : okS s = true) : okD (dgs s) := by
  intro d hd
  obtain ⟨b, hb, rfl⟩ := List.mem_map.1 hd
  have h1 := of_decide_eq_true (List.all_eq_true.1 h b hb)
  omega
theorem txtL_snoc (xs : List Int) (k : Nat) (hk : k < xs.length) : txtL (xs.take (k + 1)) = txtL (xs.take k) ++ [48 + xs.getD k 0] := by
  unfold txtL
  rw [List.take_succ_eq_append_getElem hk, List.map_append, List.getD_eq_getElem?_getD, List.getElem?_eq_getElem hk]; rfl
theorem txtL_len (xs : List Int) (k : Nat) (hk : k ≤ xs.length) : (txtL (xs.take k)).length = k := by
  unfold txtL; rw [List.length_map, List.length_take]; omega
def okF (s : ByteArray) (k : Nat) : Bool := (s.data.toList.drop k).all fun b => decide (48 ≤ b.toNat ∧ b.toNat ≤ 57)
theorem okF_zero (s : ByteArray) : okF s 0 = okS s := rfl
theorem at_list (s : ByteArray) (k : Nat) (h : k < s.size) : s.data.toList.drop k = s[k]'h :: s.data.toList.drop (k + 1) := by
  rw [List.drop_eq_getElem_cons (show k < s.data.toList.length from by rw [Array.length_toList]; exact h)]
  rw [Array.getElem_toList]; rfl
theorem okS_bad (s : ByteArray) (k : Nat) (h : k < s.size) (hb : ¬ (48 ≤ (s[k]'h).toNat ∧ (s[k]'h).toNat ≤ 57)) : okF s k = false := by
  unfold okF
  rw [at_list s k h, List.all_cons, decide_eq_false hb]; rfl
theorem okS_on (s : ByteArray) (k : Nat) (h : k < s.size) (hb : 48 ≤ (s[k]'h).toNat ∧ (s[k]'h).toNat ≤ 57) : okF s k = okF s (k + 1) := by
  unfold okF
  rw [at_list s k h, List.all_cons, decide_eq_true hb]; rfl
theorem okS_end (s : ByteArray) (k : Nat) (h : s.size ≤ k) : okF s k = true := by
  unfold okF
  rw [List.drop_eq_nil_of_le (by rw [Array.length_toList]; exact h)]; rfl
theorem dgs_step (s : ByteArray) (k : Nat) (h : k < s.size) : (dgs s).take (k + 1) = (dgs s).take k ++ [((s[k]'h).toNat : Int) - 48] := by
  have hl : k < (dgs s).length := by rw [dgs_len]; exact h
  rw [List.take_succ_eq_append_getElem hl]
  have e : (dgs s)[k]'hl = ((s.data.toList[k]'(by rw [Array.length_toList]; exact h)).toNat : Int) - 48 := List.getElem_map _
  rw [e, Array.getElem_toList]; rfl
end Dm
namespace Dw
theorem u8i (a : UInt8) : 0 ≤ (a.toNat : Int) ∧ (a.toNat : Int) ≤ 255 := by have := a.toNat_lt; omega
end Dw
end Go.Proofs.Ytebcgpoemppljaa
