/- What the document's own Times, Shift, Parse and Text of digits come to, by a walk through each. -/
import Derived.Test.YtebcgpoemppljaaRows
import Derived.Test.YtebcgpoemppljaaDigL
import Derived.Test.YtebcgpoemppljaaInts
import Derived.Test.YtebcgpoemppljaaSto
import Derived.Test.YtebcgpoemppljaaStoB
import Derived.Test.YtebcgpoemppljaaDigA
import Derived.Test.YtebcgpoemppljaaDigR
import Derived.Test.YtebcgpoemppljaaUtfR
import Derived.Deep.QuietTactic
import Derived.Deep.RegionWith
import Derived.BigQuiet
set_option linter.unusedVariables false
set_option linter.unusedSimpArgs false
namespace Go.Proofs.Ytebcgpoemppljaa
open Go.RowKit
namespace Dr

set_option maxHeartbeats 1600000 in
theorem times_any (va : Value) (xs : List Int) (y : Nat) (w : World) (hv : Lst w va xs) (hl : xs.length < 1000000) (hx : Dm.okD xs) (hy : y ≤ 1000) :
    Calls Try.prog 45 #[va, .int .i64 y] w fun e w' => ∃ u, e = .returned u ∧ Own w' w.heap.size u (Dm.dg (Dm.num xs * y)) ∧ Q w w' := by
  have HA := Lib.hid (fun k w' (q : Q w w') (hk : k < 1000000) => digit_any va xs k w' (hv.q q) (by omega) (by omega))
  have HBX := Lib.hid (Dm.dgt_bd xs hx)
  have HSX := Lib.hid (Dm.last_step xs)
  have HZX := Lib.hid (Dm.last_zero xs)
  have HLX := Lib.hid (Dm.last_all xs)
  have HF := Lib.hid front_any
  have HT := Lib.hid trim_any
  obtain ⟨n, hn⟩ : ∃ n, n = xs.length := ⟨_, rfl⟩
  obtain ⟨a, c, rfl, hnc, hcm⟩ := hv.form0 hn.symm
  rw [← hn] at hl HLX
  unfold maxLen at hcm
  clear hv hn hx
  go_enter Try.func45, Try.ntmps45
  go_wp2_with fail
  go_loopw [5, 6, 7] (fun u t i wr => ∃ (k v : Nat) (acc : List Int), i = .int .i64 k ∧ t = .int .i64 v ∧ v ≤ 1000 ∧ k ≤ n ∧ acc.length = k ∧ Dm.okD acc ∧ Lst wr u acc ∧ Dm.num acc + v * 10 ^ k = y * Dm.num (Dm.lastN k xs) ∧ Q w wr) (fun _ _ i _ => n - (intOf i).toNat)
  case atStart => exact ⟨0, 0, [], rfl, rfl, by omega, by omega, rfl, Dm.okD_nil, .nil _ _ _ (by unfold maxLen; omega) (fun _ => rfl), by rw [HZX.out]; rfl, Q.refl _⟩
  case round =>
    obtain ⟨k, v, acc, rfl, rfl, hv1, hk, hal, hok, hla, hsum, hq⟩ := hrel
    have HAL := Lib.hid hal
    have HOK := Lib.hid hok
    have HLA := Lib.hid hla
    have HSUM := Lib.hid hsum
    have HQ := Lib.hid hq
    clear hal hok hla hsum hq
    by_cases hlt : k < n
    · have ha := HA.out k wr HQ.out (by omega)
      have hbx := HBX.out k
      have hsx := HSX.out k
      generalize Dm.dgt xs k = x at *
      obtain ⟨p, rfl⟩ : ∃ p : Nat, x = p := ⟨x.toNat, by omega⟩
      have GA := Lib.hid ha
      have hp9 : p ≤ 9 := by omega
      have hm1 : p * y ≤ 9 * 1000 := Nat.mul_le_mul hp9 hy
      have hm0 : ((p * y : Nat) : Int) = (p : Int) * (y : Int) := by simp
      obtain ⟨s, hs⟩ : ∃ s : Nat, s = p * y + v := ⟨_, rfl⟩
      have hst := Dm.mul_step (Dm.num (Dm.lastN k xs)) (10 ^ k) (Dm.num acc) p y v HSUM.out
      rw [← hs] at hst
      rw [Int.toNat_natCast] at hsx
      rw [← hsx] at hst
      have hs1 : s ≤ 10000 := by omega
      have hsI : (p : Int) * (y : Int) + (v : Int) = (s : Int) := by omega
      have hq1 : 0 ≤ (p : Int) * (y : Int) := by omega
      have hq2 : (p : Int) * (y : Int) ≤ 9000 := by omega
      have HST := Lib.hid (show Dm.num (((s : Int) % 10) :: acc) + s / 10 * 10 ^ (k + 1) = y * Dm.num (Dm.lastN (k + 1) xs) from by
        rw [Dm.num_cons, HAL.out, show ((s : Int) % 10).toNat = s % 10 from by omega, Nat.pow_succ]; exact hst)
      have HOK2 := Lib.hid (show Dm.okD (((s : Int) % 10) :: acc) from Dm.okD_cons.2 ⟨by omega, HOK.out⟩)
      have HAL2 := Lib.hid (show (((s : Int) % 10) :: acc).length = k + 1 from by rw [List.length_cons, HAL.out])
      have HFF := Lib.hid (fun d u h => HF.out d u acc wr h (by rw [HAL.out]; omega))
      clear ha hbx hsx hst hs hm0 hm1
      go_wp2_with fail
      refine GA.out.mono ?_
      rintro e w3 ⟨rfl, rfl⟩
      go_wp2_with fail
      refine (HFF.out _ _ HLA.out).mono ?_
      rintro e w3 ⟨u3, rfl, ho3, hq3⟩
      have HO3 := Lib.hid ho3.lst
      have HQ3 := Lib.hid (HQ.out.trans hq3)
      clear ho3 hq3
      go_wp2_with fail
      exact ⟨⟨k + 1, s / 10, _, by go_num, by go_num, by omega, by omega, HAL2.out, HOK2.out, HO3.out, HST.out, HQ3.out⟩, by simp [intOf]; omega⟩
    · have hkn : k = n := by omega
      have hsum := HSUM.out
      rw [hkn, HLX.out n (Nat.le_refl _), Nat.mul_comm y] at hsum
      have hal := HAL.out
      rw [hkn] at hal
      rw [← hal] at hsum
      have HSUM2 := Lib.hid hsum
      have HAL2 := Lib.hid hal
      clear hsum hal hkn
      go_wp2_with fail
      go_loopw [5, 6] (fun u t wr => ∃ (v : Nat) (acc : List Int), t = .int .i64 v ∧ v ≤ 1000 ∧ acc.length + v ≤ n + 1000 ∧ Dm.okD acc ∧ Lst wr u acc ∧ Dm.num acc + v * 10 ^ acc.length = Dm.num xs * y ∧ Q w wr) (fun _ t _ => (intOf t).toNat)
      case atStart => exact ⟨v, acc, rfl, hv1, by rw [HAL2.out]; omega, HOK.out, HLA.out, HSUM2.out, HQ.out⟩
      case round =>
        clear HSUM HOK HLA HQ HAL HSUM2 HAL2
        obtain ⟨z, bs, rfl, hz, hln, hok, hla, hsum, hq⟩ := hrel
        have HOK := Lib.hid hok
        have HLA := Lib.hid hla
        have HSUM := Lib.hid hsum
        have HQ := Lib.hid hq
        clear hok hla hsum hq
        by_cases hz0 : 0 < z
        · have HST := Lib.hid (show Dm.num (((z : Int) % 10) :: bs) + z / 10 * 10 ^ (((z : Int) % 10) :: bs).length = Dm.num xs * y from by
            rw [Dm.num_cons, List.length_cons, show ((z : Int) % 10).toNat = z % 10 from by omega, Nat.pow_succ, Dm.over_step]; exact HSUM.out)
          have HOK2 := Lib.hid (show Dm.okD (((z : Int) % 10) :: bs) from Dm.okD_cons.2 ⟨by omega, HOK.out⟩)
          have HLN2 := Lib.hid (show (((z : Int) % 10) :: bs).length + z / 10 ≤ n + 1000 from by rw [List.length_cons]; omega)
          have HFF := Lib.hid (fun d u h => HF.out d u bs wr h (by omega))
          go_wp2_with fail
          refine (HFF.out _ _ HLA.out).mono ?_
          rintro e w3 ⟨u3, rfl, ho3, hq3⟩
          have HO3 := Lib.hid ho3.lst
          have HQ3 := Lib.hid (HQ.out.trans hq3)
          clear ho3 hq3
          go_wp2_with fail
          exact ⟨⟨z / 10, _, by go_num, by omega, HLN2.out, HOK2.out, HO3.out, HST.out, HQ3.out⟩, by simp [intOf]; omega⟩
        · have hz1 : z = 0 := by omega
          subst hz1
          have HTN := Lib.hid (Dm.trim_num (l := bs) (n := Dm.num xs * y) HOK.out (by have := HSUM.out; omega))
          have HT3 := Lib.hid (fun u h => HT.out u bs wr h (by omega))
          go_wp2_with fail
          refine (HT3.out _ HLA.out).mono ?_
          rintro e w4 ⟨u4, rfl, ho4, hq4⟩
          rw [HTN.out] at ho4
          have HO4 := Lib.hid (ho4.mono HQ.out.le)
          have HQ4 := Lib.hid (HQ.out.trans hq4)
          clear ho4 hq4
          go_wp2_with fail
          go_ret
          exact ⟨_, rfl, HO4.out, HQ4.out⟩

set_option maxHeartbeats 1600000 in
theorem shift_any (va : Value) (xs : List Int) (k : Int) (w : World) (hv : Lst w va xs) (hl : xs.length < 1000000) (hk : -1000 ≤ k ∧ k ≤ 1000) :
    Calls Try.prog 42 #[va, .int .i64 k] w fun e w' => ∃ u, e = .returned u ∧ Own w' w.heap.size u (Dm.shl xs k) ∧ Q w w' := by
  obtain ⟨n, hn⟩ : ∃ n, n = xs.length := ⟨_, rfl⟩
  obtain ⟨a, c, rfl, hnc, hcm⟩ := hv.form0 hn.symm
  have hol := Own.nil w w.heap.size
  unfold maxLen at hcm
  obtain ⟨hk1, hk2⟩ := hk
  by_cases h0 : k < 0
  · have hsn := Dm.shl_neg xs k h0
    rw [← hn] at hsn
    obtain ⟨m, hm⟩ : ∃ m, m = ((n : Int) + k).toNat := ⟨_, rfl⟩
    rw [← hm] at hsn
    have ht := hv.take m (by omega)
    rw [← hsn] at ht
    have HTK := Lib.hid ht
    have HW := Lib.hid (show ([] : List Int).length + (Dm.shl xs k).length < 1099511627776 from by rw [hsn, List.length_take]; show 0 + _ < _; omega)
    rw [← hn] at hl
    clear hsn ht hv hn
    rcases (show (0 ≤ (n : Int) + k ∧ (n : Int) + k = (m : Int)) ∨ ((n : Int) + k < 0 ∧ m = 0) from by omega) with ⟨h1, h2⟩ | ⟨h1, h2⟩
    · have hmc : (m : Int) ≤ (c : Int) := by omega
      clear hm
      go_enter Try.func42, Try.ntmps42
      go_wp2_with (at_builtin; refine push_list hol HTK.out rfl _ _ rfl (by rfl) (by rfl) HW.out (Nat.le_refl _) ?_)
      intro u w2 hu hg2 hat2
      go_wp2_with fail
      go_ret
      exact ⟨_, rfl, hu, (Q.refl w).grown hg2 (fun k hk => by cases hk)⟩
    · subst h2
      clear hm
      go_enter Try.func42, Try.ntmps42
      go_wp2_with (at_builtin; refine push_list hol HTK.out rfl _ _ rfl (by rfl) (by rfl) HW.out (Nat.le_refl _) ?_)
      intro u w2 hu hg2 hat2
      go_wp2_with fail
      go_ret
      exact ⟨_, rfl, hu, (Q.refl w).grown hg2 (fun k hk => by cases hk)⟩
  · obtain ⟨m, rfl⟩ : ∃ m : Nat, k = m := ⟨k.toNat, by omega⟩
    have HSP := Lib.hid (Dm.shl_pos xs m)
    have HV := Lib.hid hv
    have HW := Lib.hid (show ([] : List Int).length + xs.length < 1099511627776 from by show 0 + _ < _; omega)
    have HXL := Lib.hid hn
    rw [← hn] at hl
    clear hv hn
    go_enter Try.func42, Try.ntmps42
    go_wp2_with (at_builtin; refine push_list hol HV.out rfl _ _ rfl (by rfl) (by rfl) HW.out (Nat.le_refl _) ?_)
    intro u w2 hu hg2 hat2
    have hu : Own w2 w.heap.size u xs := hu
    have HQ2 := Lib.hid ((Q.refl w).grown hg2 (fun k hk => by cases hk))
    have HU := Lib.hid hu
    clear hu hg2 hat2
    go_wp2_with fail
    go_loopw [5, 6] (fun u t wr => ∃ j : Nat, t = .int .i64 j ∧ j ≤ m ∧ Own wr w.heap.size u (xs ++ List.replicate j 0) ∧ Q w wr) (fun _ t _ => m - (intOf t).toNat)
    case atStart => exact ⟨0, rfl, by omega, by rw [List.replicate_zero, List.append_nil]; exact HU.out, HQ2.out⟩
    case round =>
      obtain ⟨j, rfl, hj, ho, hq⟩ := hrel
      by_cases hlt : j < m
      · have hB := hq.le
        have hwl : (xs ++ List.replicate j 0).length < 1099511627776 := by rw [List.length_append, List.length_replicate, ← HXL.out]; omega
        have HRS := Lib.hid (show (xs ++ (List.replicate j 0 ++ [(0 : Int)])) = xs ++ List.replicate (j + 1) 0 from by rw [← List.replicate_succ'])
        have HWL := Lib.hid hwl
        clear hwl
        go_wp2_with (at_builtin; refine push_int ho rfl _ _ rfl _ (by rfl) (by rfl) HWL.out hB ?_)
        intro v2 w3 ho2 hg3 hat3
        rw [HRS.out] at ho2
        have HO2 := Lib.hid ho2
        have HQ3 := Lib.hid (hq.grown hg3 (fun g h => (ho.lt g h).1))
        clear ho ho2 hg3 hat3
        go_wp2_with fail
        exact ⟨⟨j + 1, by go_num, by omega, HO2.out, HQ3.out⟩, by simp [intOf]; omega⟩
      · have hjm : j = m := by omega
        rw [hjm, ← HSP.out] at ho
        have HO := Lib.hid ho
        have HQ := Lib.hid hq
        clear ho hq hjm
        go_wp2_with fail
        go_ret
        exact ⟨_, rfl, HO.out, HQ.out⟩

theorem str_snoc (A : List Int) (x : Int) : strOfNums (A ++ [x]) = strOfNums A ++ strOfNums [x] := by
  have e : (strOfNums (A ++ [x])).data.toList = (strOfNums A ++ strOfNums [x]).data.toList := by
    rw [strOfNums_data, ByteArray.data_append, Array.toList_append, strOfNums_data, strOfNums_data, List.map_append]
  have e2 := Array.toList_inj.1 e
  generalize strOfNums (A ++ [x]) = t at *
  generalize strOfNums A ++ strOfNums [x] = u at *
  cases t; cases u; simp only at e2; rw [e2]

end Dr
end Go.Proofs.Ytebcgpoemppljaa
