/- What the document's own Times, Shift, Parse and Text of digits come to, by a walk through each. -/
import Derived.Test.YtagpofhencpliaaRows
import Derived.Test.YtagpofhencpliaaDigL
import Derived.Test.YtagpofhencpliaaInts
import Derived.Test.YtagpofhencpliaaSto
import Derived.Test.YtagpofhencpliaaStoB
import Derived.Test.YtagpofhencpliaaDigA
import Derived.Test.YtagpofhencpliaaDigR
import Derived.Test.YtagpofhencpliaaUtfR
import Derived.Deep.QuietTactic
import Derived.Deep.RegionWith
import Derived.BigQuiet
set_option linter.unusedVariables false
set_option linter.unusedSimpArgs false
namespace Go.Proofs.Ytagpofhencpliaa
open Go.RowKit
namespace Dr

set_option maxHeartbeats 1600000 in
theorem shift_any (va : Value) (xs : List Int) (k : Int) (w : World) (hv : Lst w va xs) (hl : xs.length < 1000000) (hk : -1000 ≤ k ∧ k ≤ 1000) :
    Calls Try.prog 59 #[va, .int .i64 k] w fun e w' => ∃ u, e = .returned u ∧ Own w' w.heap.size u (Dm.shl xs k) ∧ Q w w' := by
  obtain ⟨n, hn⟩ : ∃ n, n = xs.length := ⟨_, rfl⟩
  obtain ⟨a, c, rfl, hnc, hcm⟩ := hv.form0 hn.symm
  have hol := Own.nil w w.heap.size
  unfold maxLen at hcm
  obtain ⟨hk1, hk2⟩ := hk
  by_cases h0 : k < 0
  · have hsn := Dm.shl_neg xs k h0
    rw [← hn] at hsn
    obtain ⟨m, hm⟩ : ∃ m, m = ((n : Int) + k).toNat := ⟨_, rfl⟩
    rw [← hm] at hsn
    have ht := hv.take m (by omega)
    rw [← hsn] at ht
    have HTK := Lib.hid ht
    have HW := Lib.hid (show ([] : List Int).length + (Dm.shl xs k).length < 1099511627776 from by rw [hsn, List.length_take]; show 0 + _ < _; omega)
    rw [← hn] at hl
    clear hsn ht hv hn
    rcases (show (0 ≤ (n : Int) + k ∧ (n : Int) + k = (m : Int)) ∨ ((n : Int) + k < 0 ∧ m = 0) from by omega) with ⟨h1, h2⟩ | ⟨h1, h2⟩
    · have hmc : (m : Int) ≤ (c : Int) := by omega
      clear hm
      go_enter Try.func59, Try.ntmps59
      go_wp2_with (at_builtin; refine push_list hol HTK.out rfl _ _ rfl (by rfl) (by rfl) HW.out (Nat.le_refl _) ?_)
      intro u w2 hu hg2 hat2
      go_wp2_with fail
      go_ret
      exact ⟨_, rfl, hu, (Q.refl w).grown hg2 (fun k hk => by cases hk)⟩
    · subst h2
      clear hm
      go_enter Try.func59, Try.ntmps59
      go_wp2_with (at_builtin; refine push_list hol HTK.out rfl _ _ rfl (by rfl) (by rfl) HW.out (Nat.le_refl _) ?_)
      intro u w2 hu hg2 hat2
      go_wp2_with fail
      go_ret
      exact ⟨_, rfl, hu, (Q.refl w).grown hg2 (fun k hk => by cases hk)⟩
  · obtain ⟨m, rfl⟩ : ∃ m : Nat, k = m := ⟨k.toNat, by omega⟩
    have HSP := Lib.hid (Dm.shl_pos xs m)
    have HV := Lib.hid hv
    have HW := Lib.hid (show ([] : List Int).length + xs.length < 1099511627776 from by show 0 + _ < _; omega)
    have HXL := Lib.hid hn
    rw [← hn] at hl
    clear hv hn
    go_enter Try.func59, Try.ntmps59
    go_wp2_with (at_builtin; refine push_list hol HV.out rfl _ _ rfl (by rfl) (by rfl) HW.out (Nat.le_refl _) ?_)
    intro u w2 hu hg2 hat2
    have hu : Own w2 w.heap.size u xs := hu
    have HQ2 := Lib.hid ((Q.refl w).grown hg2 (fun k hk => by cases hk))
    have HU := Lib.hid hu
    clear hu hg2 hat2
    go_wp2_with fail
    go_loopw [5, 6] (fun u t wr => ∃ j : Nat, t = .int .i64 j ∧ j ≤ m ∧ Own wr w.heap.size u (xs ++ List.replicate j 0) ∧ Q w wr) (fun _ t _ => m - (intOf t).toNat)
    case atStart => exact ⟨0, rfl, by omega, by rw [List.replicate_zero, List.append_nil]; exact HU.out, HQ2.out⟩
    case round =>
      obtain ⟨j, rfl, hj, ho, hq⟩ := hrel
      by_cases hlt : j < m
      · have hB := hq.le
        have hwl : (xs ++ List.replicate j 0).length < 1099511627776 := by rw [List.length_append, List.length_replicate, ← HXL.out]; omega
        have HRS := Lib.hid (show (xs ++ (List.replicate j 0 ++ [(0 : Int)])) = xs ++ List.replicate (j + 1) 0 from by rw [← List.replicate_succ'])
        have HWL := Lib.hid hwl
        clear hwl
        go_wp2_with (at_builtin; refine push_int ho rfl _ _ rfl _ (by rfl) (by rfl) HWL.out hB ?_)
        intro v2 w3 ho2 hg3 hat3
        rw [HRS.out] at ho2
        have HO2 := Lib.hid ho2
        have HQ3 := Lib.hid (hq.grown hg3 (fun g h => (ho.lt g h).1))
        clear ho ho2 hg3 hat3
        go_wp2_with fail
        exact ⟨⟨j + 1, by go_num, by omega, HO2.out, HQ3.out⟩, by simp [intOf]; omega⟩
      · have hjm : j = m := by omega
        rw [hjm, ← HSP.out] at ho
        have HO := Lib.hid ho
        have HQ := Lib.hid hq
        clear ho hq hjm
        go_wp2_with fail
        go_ret
        exact ⟨_, rfl, HO.out, HQ.out⟩

theorem str_snoc (A : List Int) (x : Int) : strOfNums (A ++ [x]) = strOfNums A ++ strOfNums [x] := by
  have e : (strOfNums (A ++ [x])).data.toList = (strOfNums A ++ strOfNums [x]).data.toList := by
    rw [strOfNums_data, ByteArray.data_append, Array.toList_append, strOfNums_data, strOfNums_data, List.map_append]
  have e2 := Array.toList_inj.1 e
  generalize strOfNums (A ++ [x]) = t at *
  generalize strOfNums A ++ strOfNums [x] = u at *
  cases t; cases u; simp only at e2; rw [e2]

set_option maxHeartbeats 1600000 in
theorem text_any (v : Value) (xs : List Int) (w : World) (hv : Lst w v xs) (hl : xs.length < 1000000) :
    Calls Try.prog 47 #[v] w fun e w' => (Dm.okB xs = true → e = .returned (.string (Dm.txtB xs))) ∧ (Dm.okB xs = false → e = .returned (.string ⟨#[]⟩)) ∧ Q w w' := by
  obtain ⟨n, hn⟩ : ∃ n, n = xs.length := ⟨_, rfl⟩
  obtain ⟨a, c, rfl, hnc, hcm⟩ := hv.form0 hn.symm
  obtain ⟨r, hr⟩ : ∃ r, r = Dm.okB xs := ⟨_, rfl⟩
  rw [← hr]
  have HB := Lib.hid (Dm.okB_bad xs)
  have HO := Lib.hid (Dm.okB_on xs)
  have HE := Lib.hid (Dm.okB_end xs)
  have HR := Lib.hid hr
  have HSN := Lib.hid (fun k (hk : k < n) => Dm.txtL_snoc xs k (by omega))
  have HTL := Lib.hid (fun k (hk : k ≤ n) => Dm.txtL_len xs k (by omega))
  have HTA := Lib.hid (show Dm.txtB xs = strOfNums (Dm.txtL (xs.take n)) from by rw [hn, List.take_length]; rfl)
  rw [← hn] at hl HB HO HE
  have HV := Lib.hid (fun k h => hv.cellOf (n := n) (k := k) hn.symm h)
  unfold maxLen at hcm
  clear hv hn hr
  go_enter Try.func47, Try.ntmps47
  go_wp2_with fail
  go_loopw [3, 4] (fun u i wr => ∃ (k : Nat) (t : ByteArray), u = .string t ∧ t = strOfNums (Dm.txtL (xs.take k)) ∧ i = .int .i64 k ∧ k ≤ n ∧ Dm.okB (xs.drop k) = r ∧ Q w wr) (fun _ i _ => n - (intOf i).toNat)
  case atStart => exact ⟨0, _, rfl, rfl, rfl, by omega, by rw [HR.out]; rfl, Q.refl _⟩
  case round =>
    obtain ⟨k, t, rfl, ht, rfl, hk, hc, hq⟩ := hrel
    have HC := Lib.hid hc
    have HT := Lib.hid ht
    have hts : t.size = k := by rw [ht, strOfNums_size, HTL.out k hk]
    have HQ := Lib.hid hq
    clear hc ht
    by_cases hlt : k < n
    · obtain ⟨g, off, cap, hvv, hg, _, _, c0⟩ := HV.out k hlt
      cases hvv
      have c1 := (World.cell?_of_block (w := w) (hq.block hg) (a := ⟨g, off + k, none⟩)).trans c0
      have hb := HB.out k hlt
      have ho := HO.out k hlt
      have hsn := HSN.out k hlt
      obtain ⟨y, hy⟩ : ∃ y, y = xs.getD k 0 := ⟨_, rfl⟩
      rw [← hy] at c1 hb ho hsn
      have HB1 := Lib.hid hb
      have HO1 := Lib.hid ho
      have HSN1 := Lib.hid hsn
      clear hb ho hsn hy c0 hq
      by_cases h1 : y < 0
      · have HF : Hid (r = false) := Lib.hid (by rw [← HC.out]; exact HB1.out (by omega))
        go_wp2_with fail
        go_ret
        rw [HF.out]
        exact ⟨fun h => Bool.noConfusion h, fun _ => rfl, HQ.out⟩
      · by_cases h2 : 9 < y
        · have HF : Hid (r = false) := Lib.hid (by rw [← HC.out]; exact HB1.out (by omega))
          go_wp2_with fail
          go_ret
          rw [HF.out]
          exact ⟨fun h => Bool.noConfusion h, fun _ => rfl, HQ.out⟩
        · have HN := Lib.hid ((HO1.out (by omega)).symm.trans HC.out)
          have hcv := Ur.convN wr [48 + y] 1 rfl
          simp only [List.map_cons, List.map_nil] at hcv
          have hss : (strOfNums [48 + y]).size = 1 := strOfNums_size _
          have HTT := Lib.hid (show t ++ strOfNums [48 + y] = strOfNums (Dm.txtL (xs.take (k + 1))) from by rw [HSN1.out, str_snoc, HT.out])
          generalize strOfNums [48 + y] = z at *
          go_wp2_with fail
          exact ⟨⟨k + 1, _, rfl, HTT.out, by go_num, by omega, HN.out, HQ.out.alloc _⟩, by simp [intOf]; omega⟩
    · have hkn : k = n := by omega
      have HF : Hid (r = true) := Lib.hid (by rw [← HC.out]; exact HE.out k (by omega))
      have HT2 := Lib.hid (show t = Dm.txtB xs from by rw [HTA.out, HT.out, hkn])
      clear hkn hts hq
      go_wp2_with fail
      go_ret
      rw [HF.out, HT2.out]
      exact ⟨fun _ => rfl, fun h => Bool.noConfusion h, HQ.out⟩
end Dr
end Go.Proofs.Ytagpofhencpliaa
