/- The document's own answers on systems of digits: Names, noughts, Zero, Digit, Value, Of, Name. -/
import Derived.Test.YtaonjhhpiihejaaRows
import Derived.Test.YtaonjhhpiihejaaInts
import Derived.Test.YtaonjhhpiihejaaEls
import Derived.Test.YtaonjhhpiihejaaUtfM
import Derived.Test.YtaonjhhpiihejaaUtfG
import Derived.Test.YtaonjhhpiihejaaUtfR
import Derived.Test.YtaonjhhpiihejaaSysM
import Derived.Deep.QuietTactic
import Derived.BigQuiet
set_option linter.unusedVariables false
set_option linter.unusedSimpArgs false
namespace Go.Proofs.Ytaonjhhpiihejaa
open Go.RowKit
namespace Sr
open Sm Um

theorem nm_at : ∀ i, i < 20 → nz (nmL.getD i []) = zrs.getD i 0 ∧ (nmL.getD i [], zrs.getD i 0) ∈ tab := by decide +kernel
theorem names_any (w : World) :
    Calls Try.prog 15 #[] w fun e w' => ∃ g, e = .returned (.slice (some ⟨g, 0, none⟩) 20 20) ∧ g < w'.heap.size ∧ (∀ k, k < 20 → w'.cell? ⟨g, k, none⟩ = some (.string ⟨(nmL.getD k []).toArray⟩)) ∧ SLst w' (.slice (some ⟨g, 0, none⟩) 20 20) nmB ∧ Q w w' := by
  have hl := GLst.made Value.string 9 w nmB 20 rfl (by unfold maxLen; omega)
  have he : (nmB.map Value.string).toArray = #[.string ⟨(nmL.getD 0 []).toArray⟩, .string ⟨(nmL.getD 1 []).toArray⟩, .string ⟨(nmL.getD 2 []).toArray⟩, .string ⟨(nmL.getD 3 []).toArray⟩, .string ⟨(nmL.getD 4 []).toArray⟩, .string ⟨(nmL.getD 5 []).toArray⟩, .string ⟨(nmL.getD 6 []).toArray⟩, .string ⟨(nmL.getD 7 []).toArray⟩, .string ⟨(nmL.getD 8 []).toArray⟩, .string ⟨(nmL.getD 9 []).toArray⟩, .string ⟨(nmL.getD 10 []).toArray⟩, .string ⟨(nmL.getD 11 []).toArray⟩, .string ⟨(nmL.getD 12 []).toArray⟩, .string ⟨(nmL.getD 13 []).toArray⟩, .string ⟨(nmL.getD 14 []).toArray⟩, .string ⟨(nmL.getD 15 []).toArray⟩, .string ⟨(nmL.getD 16 []).toArray⟩, .string ⟨(nmL.getD 17 []).toArray⟩, .string ⟨(nmL.getD 18 []).toArray⟩, .string ⟨(nmL.getD 19 []).toArray⟩] := rfl
  rw [he] at hl
  clear he
  have hc : ∀ k, k < 20 → ∀ w', SLst w' (.slice (some ⟨w.heap.size, 0, none⟩) 20 20) nmB → w'.cell? ⟨w.heap.size, k, none⟩ = some (.string ⟨(nmL.getD k []).toArray⟩) := by
    intro k hk w' h
    obtain ⟨g, off, cap, hv, _, _, _, hc⟩ := GLst.cellOf h (n := 20) rfl (nmB_at k hk)
    cases hv
    rw [Nat.zero_add] at hc
    exact hc
  have HC := Lib.hid hc
  have HL := Lib.hid hl
  clear hc hl
  go_enter Try.func15, Try.ntmps15
  go_wp2_with fail
  go_ret
  exact ⟨_, rfl, by simp, fun k hk => HC.out k hk _ HL.out, HL.out, (Q.refl _).alloc _⟩

theorem noughts_any (w : World) :
    Calls Try.prog 33 #[] w fun e w' => ∃ g, e = .returned (.slice (some ⟨g, 0, none⟩) 20 20) ∧ (∀ k, k < 20 → w'.cell? ⟨g, k, none⟩ = some (.int .i64 (zrs.getD k 0))) ∧ Q w w' := by
  have hl := Lst.made w zrs 20 rfl (by unfold maxLen; omega)
  have hc : ∀ k, k < 20 → ∀ w', Lst w' (.slice (some ⟨w.heap.size, 0, none⟩) 20 20) zrs → w'.cell? ⟨w.heap.size, k, none⟩ = some (.int .i64 (zrs.getD k 0)) := by
    intro k hk w' h
    obtain ⟨g, off, cap, hv, _, _, _, hc⟩ := h.cellOf (n := 20) rfl hk
    cases hv
    rw [Nat.zero_add] at hc
    exact hc
  have HC := Lib.hid hc
  have HL := Lib.hid hl
  clear hc hl
  go_enter Try.func33, Try.ntmps33
  go_wp2_with fail
  go_ret
  exact ⟨_, rfl, fun k hk => HC.out k hk _ HL.out, (Q.refl _).alloc _⟩

set_option maxHeartbeats 1600000 in
theorem zero_any (x : ByteArray) (w : World) :
    Calls Try.prog 12 #[.string x] w fun e w' => e = .returned (.int .i64 (nz x.data.toList)) ∧ Q w w' := by
  obtain ⟨y, hy⟩ : ∃ y, y = x.data.toList := ⟨_, rfl⟩
  have HY := Lib.hid hy
  have hm1 : ∀ k : Nat, k < 20 → (⟨(nmL.getD k []).toArray⟩ : ByteArray) = x → nz x.data.toList = zrs.getD k 0 := by
    intro k hk h
    rw [← h]; exact (nm_at k hk).1
  have hm2 : (∀ k : Nat, k < 20 → (⟨(nmL.getD k []).toArray⟩ : ByteArray) ≠ x) → nz x.data.toList = -1 := by
    intro h
    rcases nz_cases x.data.toList with ⟨h1, _⟩ | h1
    · exact h1
    · exfalso
      have hmem : x.data.toList ∈ nmL := List.mem_map.2 ⟨_, h1, rfl⟩
      obtain ⟨k, hk, he⟩ := List.mem_iff_getElem.1 hmem
      rw [nmL_len] at hk
      refine h k hk ?_
      rw [List.getD_eq_getElem?_getD, List.getElem?_eq_getElem (by rw [nmL_len]; exact hk)]
      apply ba_ext
      show nmL[k] = _
      exact he
  have HM1 := Lib.hid hm1
  have HM2 := Lib.hid hm2
  clear hm1 hm2 hy
  generalize nz x.data.toList = z at *
  go_enter Try.func12, Try.ntmps12
  go_wp2_with fail
  refine (names_any _).mono ?_
  rintro e w1 ⟨g, rfl, hg, hcell, hsl, hq1⟩
  have HCE := Lib.hid hcell
  clear hcell hsl
  go_wp2_with fail
  go_loopw [4] (fun i wr => ∃ k : Nat, i = .int .i64 k ∧ k ≤ 20 ∧ (∀ j : Nat, j < k → (⟨(nmL.getD j []).toArray⟩ : ByteArray) ≠ x) ∧ Q w1 wr) (fun i _ => 20 - (intOf i).toNat)
  case atStart => exact ⟨0, rfl, by omega, fun j hj => absurd hj (Nat.not_lt_zero j), Q.refl _⟩
  case round =>
    obtain ⟨k, rfl, hk, hno, hq⟩ := hrel
    by_cases hlt : k < 20
    · have c1 : wr.cell? ⟨g, k, none⟩ = some (.string ⟨(nmL.getD k []).toArray⟩) := (World.cell?_of_block (w := w1) (hq.block hg)).trans (HCE.out k hlt)
      have hz1 := HM1.out k hlt
      have hn1 : (⟨(nmL.getD k []).toArray⟩ : ByteArray) ≠ x → ∀ j : Nat, j < k + 1 → (⟨(nmL.getD j []).toArray⟩ : ByteArray) ≠ x := by
        intro h j hj
        by_cases hjk : j = k
        · subst hjk; exact h
        · exact hno j (by omega)
      generalize (⟨(nmL.getD k []).toArray⟩ : ByteArray) = p at c1 hz1 hn1
      have HN := Lib.hid hn1
      clear hno hn1
      by_cases hp : p = x
      · have HZ := Lib.hid (hz1 hp)
        subst hp
        clear hz1
        go_wp2_with fail
        refine (noughts_any _).mono ?_
        rintro e w2 ⟨g2, rfl, hc2, hq2⟩
        have c2 := hc2 k hlt
        rw [← HZ.out] at c2
        clear hc2
        go_wp2_with fail
        go_ret
        exact ⟨rfl, (hq1.trans hq).trans hq2⟩
      · have ht := str_ne hp
        have HN2 := Lib.hid (HN.out hp)
        clear hz1 hp
        go_wp2_with fail
        exact ⟨⟨k + 1, by go_num, by omega, HN2.out, hq⟩, by simp [intOf]; omega⟩
    · have hke : k = 20 := by omega
      subst hke
      have HZ := Lib.hid (HM2.out hno)
      clear hno
      go_wp2_with fail
      go_ret
      rw [HZ.out]
      exact ⟨rfl, hq1.trans hq⟩

theorem digit_any (x : ByteArray) (d : Int) (w : World) (h0 : 0 ≤ d) (h9 : d ≤ 9) :
    Calls Try.prog 19 #[.string x, .int .i64 d] w fun e w' => e = .returned (.string (encB (nz x.data.toList + d))) ∧ Q w w' := by
  have hb := nz_bd x.data.toList
  have hb2 : -1 ≤ nz x.data.toList ∧ nz x.data.toList ≤ 120812 := by omega
  have hz := fun w => zero_any x w
  clear hb
  generalize nz x.data.toList = z at *
  go_enter Try.func19, Try.ntmps19
  go_wp2_with (go_at_call 12; refine (hz _).mono ?_; rintro e w1 ⟨rfl, hq1⟩)
  refine (Ur.encode_any _ _).mono ?_
  rintro e w2 ⟨rfl, hq2⟩
  go_wp2_with fail
  go_ret
  exact ⟨rfl, hq1.trans hq2⟩

set_option maxHeartbeats 1000000 in
theorem value_any (x : ByteArray) (c : Int) (w : World) :
    Calls Try.prog 21 #[.string x, .int .i64 c] w fun e w' => e = .returned (.int .i64 (vv (nz x.data.toList) c)) ∧ Q w w' := by
  have hb := nz_bd x.data.toList
  have hz := fun w => zero_any x w
  generalize nz x.data.toList = z at *
  by_cases h1 : z = -1
  · have HV : Hid (vv z c = -1) := Lib.hid (by unfold vv; rw [if_pos h1])
    have h2 : z < 0 := by omega
    clear hb h1
    go_enter Try.func21, Try.ntmps21
    go_wp2_with (go_at_call 12; refine (hz _).mono ?_; rintro e w1 ⟨rfl, hq1⟩)
    go_ret
    rw [HV.out]
    exact ⟨rfl, hq1⟩
  · have hb2 : 48 ≤ z ∧ z ≤ 120812 := by omega
    have hv : vv z c = vl z c := by unfold vv; rw [if_neg h1]
    clear hb h1
    by_cases h3 : c < z
    · have HV : Hid (vv z c = -1) := Lib.hid (by rw [hv]; unfold vl; rw [if_neg (by omega)])
      clear hv
      go_enter Try.func21, Try.ntmps21
      go_wp2_with (go_at_call 12; refine (hz _).mono ?_; rintro e w1 ⟨rfl, hq1⟩)
      go_ret
      rw [HV.out]
      exact ⟨rfl, hq1⟩
    · by_cases h4 : c ≤ z + 9
      · have HV : Hid (vv z c = c - z) := Lib.hid (by rw [hv]; unfold vl; rw [if_pos (by omega)])
        clear hv
        go_enter Try.func21, Try.ntmps21
        go_wp2_with (go_at_call 12; refine (hz _).mono ?_; rintro e w1 ⟨rfl, hq1⟩)
        go_ret
        rw [HV.out]
        exact ⟨rfl, hq1⟩
      · have HV : Hid (vv z c = -1) := Lib.hid (by rw [hv]; unfold vl; rw [if_neg (by omega)])
        clear hv
        go_enter Try.func21, Try.ntmps21
        go_wp2_with (go_at_call 12; refine (hz _).mono ?_; rintro e w1 ⟨rfl, hq1⟩)
        go_ret
        rw [HV.out]
        exact ⟨rfl, hq1⟩

theorem name_any (n : Int) (w : World) (h0 : -9223372036854775808 ≤ n) (h1 : n ≤ 9223372036854775807) :
    Calls Try.prog 10 #[.int .i64 n] w fun e w' => e = .returned (.string ⟨(nm n).toArray⟩) ∧ Q w w' := by
  have hi := idx_lt n
  have hA := fun w => Ur.around_any n 20 w h0 h1 (by omega) (by omega)
  rw [idx_int] at hA
  have hn : nm n = nmL.getD (idx n) [] := rfl
  rw [hn]
  clear hn
  generalize idx n = k at *
  have HA := Lib.hid hA
  clear hA
  go_enter Try.func10, Try.ntmps10
  go_wp2_with fail
  refine (names_any _).mono ?_
  rintro e w1 ⟨g, rfl, hg, hcell, hsl, hq1⟩
  have c1 := hcell k hi
  clear hcell hsl
  obtain ⟨p, hp⟩ : ∃ p, p = (⟨(nmL.getD k []).toArray⟩ : ByteArray) := ⟨_, rfl⟩
  rw [← hp] at c1
  have HP := Lib.hid hp
  clear hp
  go_wp2_with fail
  refine (HA.out _).mono ?_
  rintro e w2 ⟨rfl, rfl⟩
  go_wp2_with fail
  go_ret
  rw [← HP.out]
  exact ⟨rfl, hq1⟩

theorem of_step (c : Int) (k : Nat) (hk : k < 20) (h : vv (nz (nmL.getD k [])) c = -1) : ¬ (zrs.getD k 0 ≤ c ∧ c ≤ zrs.getD k 0 + 9) := by
  obtain ⟨h1, h2⟩ := nm_at k hk
  have hb := tab_bd _ h2
  rw [h1] at h
  simp only at hb
  unfold vv at h
  rw [if_neg (by omega)] at h
  unfold vl at h
  split at h <;> omega
theorem of_found (c : Int) (k : Nat) (hk : k < 20) (h : vv (nz (nmL.getD k [])) c ≠ -1) : ofC c = (nmL.getD k [], vv (nz (nmL.getD k [])) c) ∧ 0 ≤ vv (nz (nmL.getD k [])) c ∧ vv (nz (nmL.getD k [])) c ≤ 9 := by
  obtain ⟨h1, h2⟩ := nm_at k hk
  have hb := tab_bd _ h2
  rw [h1] at h ⊢
  simp only at hb
  unfold vv at h ⊢
  rw [if_neg (by omega)] at h ⊢
  unfold vl at h ⊢
  split at h
  · rename_i hc
    rw [if_pos hc]
    exact ⟨ofC_mem h2 hc.1 hc.2, by omega, by omega⟩
  · exact absurd rfl h
theorem of_end (c : Int) (h : ∀ k : Nat, k < 20 → ¬ (zrs.getD k 0 ≤ c ∧ c ≤ zrs.getD k 0 + 9)) : ofC c = ([], -1) := by
  refine ofC_none fun p hp => ?_
  obtain ⟨k, hk, he⟩ := List.mem_iff_getElem.1 hp
  rw [tab_len] at hk
  have h1 := h k hk
  have : zrs.getD k 0 = p.2 := by
    unfold zrs
    rw [List.getD_eq_getElem?_getD, List.getElem?_map, List.getElem?_eq_getElem (by rw [tab_len]; exact hk), he]; rfl
  rw [this] at h1
  exact h1

set_option maxHeartbeats 1600000 in
theorem of_any (c : Int) (w : World) :
    Calls Try.prog 31 #[.int .i64 c] w fun e w' => e = .returned (.tuple #[.string ⟨(ofC c).1.toArray⟩, .int .i64 (ofC c).2]) ∧ Q w w' := by
  have HO := Lib.hid (of_step c)
  have HF := Lib.hid (of_found c)
  have HE := Lib.hid (of_end c)
  generalize ofC c = oc at *
  go_enter Try.func31, Try.ntmps31
  go_wp2_with fail
  refine (names_any _).mono ?_
  rintro e w1 ⟨g, rfl, hg, hcell, hsl, hq1⟩
  have HCE := Lib.hid hcell
  clear hcell hsl
  go_wp2_with fail
  go_loopw [5] (fun i wr => ∃ k : Nat, i = .int .i64 k ∧ k ≤ 20 ∧ (∀ j : Nat, j < k → ¬ (zrs.getD j 0 ≤ c ∧ c ≤ zrs.getD j 0 + 9)) ∧ Q w1 wr) (fun i _ => 20 - (intOf i).toNat)
  case atStart => exact ⟨0, rfl, by omega, fun j hj => absurd hj (Nat.not_lt_zero j), Q.refl _⟩
  case round =>
    obtain ⟨k, rfl, hk, hno, hq⟩ := hrel
    have HNO := Lib.hid hno
    clear hno
    by_cases hlt : k < 20
    · have c1 : wr.cell? ⟨g, k, none⟩ = some (.string ⟨(nmL.getD k []).toArray⟩) := (World.cell?_of_block (w := w1) (hq.block hg)).trans (HCE.out k hlt)
      have c1k : ∀ w', Q wr w' → w'.cell? ⟨g, k, none⟩ = some (.string ⟨(nmL.getD k []).toArray⟩) := fun w' q => (World.cell?_of_block (w := wr) (q.block (Nat.lt_of_lt_of_le hg hq.le))).trans c1
      have hst := HO.out k hlt
      have hfo := HF.out k hlt
      have hV := fun w => value_any ⟨(nmL.getD k []).toArray⟩ c w
      simp only [List.toList_toArray] at hV
      generalize nmL.getD k [] = p at *
      generalize vv (nz p) c = u at *
      by_cases hu : u = -1
      · have HS := Lib.hid (hst hu)
        subst hu
        clear hst hfo c1k
        go_wp2_with fail
        refine (hV _).mono ?_
        rintro e w2 ⟨rfl, hq2⟩
        go_wp2_with fail
        refine ⟨⟨k + 1, by go_num, by omega, fun j hj => ?_, hq.trans hq2⟩, by simp [intOf]; omega⟩
        by_cases hjk : j = k
        · subst hjk; exact HS.out
        · exact HNO.out j (by omega)
      · obtain ⟨he, h0, h9⟩ := hfo hu
        have HEE := Lib.hid he
        clear hst hfo hu he
        go_wp2_with fail
        refine (hV _).mono ?_
        rintro e w2 ⟨rfl, hq2⟩
        have c2 := c1k w2 hq2
        go_wp2_with fail
        go_ret2
        rw [HEE.out]
        exact ⟨rfl, (hq1.trans hq).trans hq2⟩
    · have hke : k = 20 := by omega
      subst hke
      have HZ := Lib.hid (HE.out HNO.out)
      go_wp2_with fail
      go_ret2
      rw [HZ.out]
      exact ⟨rfl, hq1.trans hq⟩

end Sr
end Go.Proofs.Ytaonjhhpiihejaa
