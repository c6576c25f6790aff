/- What package digit's Text and Parse come to, by a walk through each. -/
import Derived.Test.YtagpofhencpliaaRows
import Derived.Test.YtagpofhencpliaaDigL
import Derived.Test.YtagpofhencpliaaInts
import Derived.Test.YtagpofhencpliaaSto
import Derived.Test.YtagpofhencpliaaStoB
import Derived.Test.YtagpofhencpliaaDigW
import Derived.Deep.QuietTactic
import Derived.Deep.RegionWith
import Derived.BigQuiet
set_option linter.unusedVariables false
set_option linter.unusedSimpArgs false
namespace Go.Proofs.Ytagpofhencpliaa
open Go.RowKit
namespace Dm
/-- Digits' text; a text's digits. -/
def txtL (xs : List Int) : List Int := xs.map fun d => 48 + d
def txtB (xs : List Int) : ByteArray := strOfNums (txtL xs)
def okS (s : ByteArray) : Bool := s.data.toList.all fun b => decide (48 ≤ b.toNat ∧ b.toNat ≤ 57)
def dgs (s : ByteArray) : List Int := s.data.toList.map fun b => (b.toNat : Int) - 48
theorem dgs_len (s : ByteArray) : (dgs s).length = s.size := by unfold dgs; rw [List.length_map, Array.length_toList]; rfl
theorem byte_of (d : Int) (h : 0 ≤ d ∧ d ≤ 9) : (UInt8.ofNat (48 + d).toNat).toNat = (48 + d).toNat := by
  rw [UInt8.toNat_ofNat']
  omega
theorem okS_txt (xs : List Int) (h : okD xs) : okS (txtB xs) = true := by
  unfold okS txtB
  rw [strOfNums_data, List.all_eq_true]
  intro b hb
  obtain ⟨n, hn, rfl⟩ := List.mem_map.1 hb
  obtain ⟨d, hd, rfl⟩ := List.mem_map.1 hn
  have h1 := h d hd
  rw [byte_of d h1]
  exact decide_eq_true (by omega)
theorem dgs_txt (xs : List Int) (h : okD xs) : dgs (txtB xs) = xs := by
  unfold dgs txtB txtL
  rw [strOfNums_data, List.map_map, List.map_map]
  conv => rhs; rw [← List.map_id xs]
  apply List.map_congr_left
  intro d hd
  have h1 := h d hd
  show (((UInt8.ofNat (48 + d).toNat).toNat : Nat) : Int) - 48 = d
  rw [byte_of d h1]; omega
theorem txt_dgs (s : ByteArray) (h : okS s = true) : txtB (dgs s) = s := by
  have e : (txtB (dgs s)).data.toList = s.data.toList := by
    unfold dgs txtB txtL
    rw [strOfNums_data, List.map_map, List.map_map]
    conv => rhs; rw [← List.map_id s.data.toList]
    apply List.map_congr_left
    intro b hb
    have h1 := of_decide_eq_true (List.all_eq_true.1 h b hb)
    show UInt8.ofNat (48 + ((b.toNat : Int) - 48)).toNat = b
    rw [show (48 + ((b.toNat : Int) - 48)).toNat = b.toNat from by omega]
    exact UInt8.ofNat_toNat
  have e2 := Array.toList_inj.1 e
  generalize txtB (dgs s) = t at *
  cases t; cases s; simp only at e2; rw [e2]
theorem txt_size (xs : List Int) : (txtB xs).size = xs.length := by unfold txtB txtL; rw [strOfNums_size, List.length_map]
theorem okD_dgs (s : ByteArray) (h : okS s = true) : okD (dgs s) := by
  intro d hd
  obtain ⟨b, hb, rfl⟩ := List.mem_map.1 hd
  have h1 := of_decide_eq_true (List.all_eq_true.1 h b hb)
  omega
theorem txtL_snoc (xs : List Int) (k : Nat) (hk : k < xs.length) : txtL (xs.take (k + 1)) = txtL (xs.take k) ++ [48 + xs.getD k 0] := by
  unfold txtL
  rw [List.take_succ_eq_append_getElem hk, List.map_append, List.getD_eq_getElem?_getD, List.getElem?_eq_getElem hk]; rfl
theorem txtL_len (xs : List Int) (k : Nat) (hk : k ≤ xs.length) : (txtL (xs.take k)).length = k := by
  unfold txtL; rw [List.length_map, List.length_take]; omega
def okF (s : ByteArray) (k : Nat) : Bool := (s.data.toList.drop k).all fun b => decide (48 ≤ b.toNat ∧ b.toNat ≤ 57)
theorem okF_zero (s : ByteArray) : okF s 0 = okS s := rfl
theorem at_list (s : ByteArray) (k : Nat) (h : k < s.size) : s.data.toList.drop k = s[k]'h :: s.data.toList.drop (k + 1) := by
  rw [List.drop_eq_getElem_cons (show k < s.data.toList.length from by rw [Array.length_toList]; exact h)]
  rw [Array.getElem_toList]; rfl
theorem okS_bad (s : ByteArray) (k : Nat) (h : k < s.size) (hb : ¬ (48 ≤ (s[k]'h).toNat ∧ (s[k]'h).toNat ≤ 57)) : okF s k = false := by
  unfold okF
  rw [at_list s k h, List.all_cons, decide_eq_false hb]; rfl
theorem okS_on (s : ByteArray) (k : Nat) (h : k < s.size) (hb : 48 ≤ (s[k]'h).toNat ∧ (s[k]'h).toNat ≤ 57) : okF s k = okF s (k + 1) := by
  unfold okF
  rw [at_list s k h, List.all_cons, decide_eq_true hb]; rfl
theorem okS_end (s : ByteArray) (k : Nat) (h : s.size ≤ k) : okF s k = true := by
  unfold okF
  rw [List.drop_eq_nil_of_le (by rw [Array.length_toList]; exact h)]; rfl
theorem dgs_step (s : ByteArray) (k : Nat) (h : k < s.size) : (dgs s).take (k + 1) = (dgs s).take k ++ [((s[k]'h).toNat : Int) - 48] := by
  have hl : k < (dgs s).length := by rw [dgs_len]; exact h
  rw [List.take_succ_eq_append_getElem hl]
  have e : (dgs s)[k]'hl = ((s.data.toList[k]'(by rw [Array.length_toList]; exact h)).toNat : Int) - 48 := List.getElem_map _
  rw [e, Array.getElem_toList]; rfl
end Dm
namespace Dw
theorem u8i (a : UInt8) : 0 ≤ (a.toNat : Int) ∧ (a.toNat : Int) ≤ 255 := by have := a.toNat_lt; omega
set_option maxHeartbeats 800000 in
theorem text_bad (va : Value) (xs : List Int) (w : World) (hv : Lst w va xs) (hl : xs.length < 1099511627776) (hb : Dm.okB xs = false) :
    Calls Try.prog 46 #[va] w fun e w' => e = .returned (.string ⟨#[]⟩) ∧ w = w' := by
  have h := may_any va xs w hv hl
  rw [hb] at h
  have H := Lib.hid h
  clear h hb hv
  go_enter Try.func46, Try.ntmps46
  go_wp2_with fail
  refine H.out.mono ?_
  rintro e w1 ⟨rfl, rfl⟩
  go_wp2_with fail
  go_ret
  exact ⟨rfl, rfl⟩

set_option maxHeartbeats 1600000 in
theorem text_any (va : Value) (xs : List Int) (w : World) (hv : Lst w va xs) (hl : xs.length < 1000000) (hx : Dm.okD xs) :
    Calls Try.prog 46 #[va] w fun e w' => e = .returned (.string (Dm.txtB xs)) ∧ Q w w' := by
  have h := may_any va xs w hv (by omega)
  rw [(Dm.okB_iff xs).2 hx] at h
  have H := Lib.hid h
  obtain ⟨n, hn⟩ : ∃ n, n = xs.length := ⟨_, rfl⟩
  obtain ⟨a, c, rfl, hnc, hcm⟩ := hv.form0 hn.symm
  have HV := Lib.hid (fun k (hk : k < n) => hv.cellOf (n := n) (k := k) hn.symm hk)
  have HSN := Lib.hid (fun k (hk : k < n) => Dm.txtL_snoc xs k (by omega))
  have HTL := Lib.hid (fun k (hk : k ≤ n) => Dm.txtL_len xs k (by omega))
  have HTA := Lib.hid (show Dm.txtB xs = strOfNums (Dm.txtL (xs.take n)) from by rw [hn, List.take_length]; rfl)
  have HD := Lib.hid (fun k (hk : k < n) => (by rw [List.getD_eq_getElem?_getD, List.getElem?_eq_getElem (by omega)]; exact hx _ (List.getElem_mem _) : 0 ≤ xs.getD k 0 ∧ xs.getD k 0 ≤ 9))
  rw [← hn] at hl
  unfold maxLen at hcm
  clear h hv hn hx
  go_enter Try.func46, Try.ntmps46
  go_wp2_with fail
  refine H.out.mono ?_
  rintro e w1 ⟨rfl, rfl⟩
  go_wp2_with (at_make; refine make_bytes rfl _ _ rfl n _ (by rfl) (by rfl) rfl (by omega) (Nat.le_refl _) ?_)
  intro w2 ho2 hq2
  have HO2 := Lib.hid ho2
  have HQ2 := Lib.hid hq2
  obtain ⟨g, hg⟩ : ∃ g, g = w.heap.size := ⟨_, rfl⟩
  have hgB : w.heap.size ≤ g := by omega
  rw [← hg] at HO2 ⊢
  clear ho2 hq2 hg
  go_wp2_with fail
  go_loopw [13] (fun t wr => ∃ k : Nat, t = .int .i64 k ∧ k ≤ n ∧ BOwn wr g (.slice (some ⟨g, 0, none⟩) n n) (Dm.txtL (xs.take k) ++ List.replicate (n - k) 0) ∧ Q w wr) (fun t _ => n - (intOf t).toNat)
  case atStart => exact ⟨0, rfl, by omega, HO2.out, HQ2.out⟩
  case round =>
    obtain ⟨k, rfl, hk, ho, hq⟩ := hrel
    have HO := Lib.hid ho
    clear ho
    have hlen : (Dm.txtL (xs.take k) ++ List.replicate (n - k) 0).length = n := by rw [List.length_append, HTL.out k hk, List.length_replicate]; omega
    by_cases hlt : k < n
    · obtain ⟨go, off, cap, hvv, hgo, _, _, c0⟩ := HV.out k hlt
      cases hvv
      have c1 := (World.cell?_of_block (w := w) (hq.block hgo) (a := ⟨go, off + k, none⟩)).trans c0
      have c2 := GOwn.cellAt HO.out hlen (k := k) (x := 0) (by rw [List.getElem?_append_right (by rw [HTL.out k hk]; omega), HTL.out k hk, List.getElem?_replicate, if_pos (by omega)])
      have f2 := GOwn.freeAt HO.out hlen k
      have hd := HD.out k hlt
      have hsn := HSN.out k hlt
      have hos := fun e => GOwn.stored HO.out hlen k e
      generalize xs.getD k 0 = d at *
      have hos2 := hos (48 + d)
      rw [Dm.set_zeros _ n k _ (HTL.out k hk) hlt, ← hsn] at hos2
      have HOS := Lib.hid hos2
      have HQS := Lib.hid (fun u => hq.setCell (ad := ⟨g, k, none⟩) hgB u)
      obtain ⟨hd1, hd2⟩ := hd
      clear hos hos2 hsn hlen c0 hq
      go_wp2_with fail
      exact ⟨⟨k + 1, by go_num, by omega, HOS.out, HQS.out _⟩, by simp [intOf]; omega⟩
    · have hkn : k = n := by omega
      have ho := HO.out
      rw [hkn, Nat.sub_self, List.replicate_zero, List.append_nil] at ho
      have hcv := conv_own ho (HTL.out n (Nat.le_refl _))
      rw [← HTA.out] at hcv
      have HQ := Lib.hid hq
      clear ho hkn hlen hq
      go_wp2_with fail
      go_ret
      exact ⟨rfl, HQ.out⟩

end Dw
end Go.Proofs.Ytagpofhencpliaa
