/- What the document's own Times, Shift, Parse and Text of digits come to, by a walk through each. (and more) -/
import Derived.Test.YteljedefbomlgaaR00
import Derived.Test.YteljedefbomlgaaR03
import Derived.Test.YteljedefbomlgaaR01
import Derived.Test.YteljedefbomlgaaR02
import Derived.Test.YteljedefbomlgaaRows
import Derived.Test.YteljedefbomlgaaR05
import Derived.Deep.QuietTactic
import Derived.Deep.RegionWith
import Derived.BigQuiet
set_option linter.unusedVariables false
set_option linter.unusedSimpArgs false
namespace Go.Proofs.Yteljedefbomlgaa
open Go.RowKit
namespace Dr
set_option maxHeartbeats 1600000 in
theorem times_any (va : Value) (xs : List Int) (y : Nat) (w : World) (hv : Lst w va xs) (hl : xs.length < 1000000) (hx : Dm.okD xs) (hy : y ≤ 1000) :
    Calls Try.prog 79 #[va, .int .i64 y] w fun e w' => ∃ u, e = .returned u ∧ Own w' w.heap.size u (Dm.dg (Dm.num xs * y)) ∧ Q w w' := by
  have HA := Lib.hid (fun k w' (q : Q w w') (hk : k < 1000000) => digit_any va xs k w' (hv.q q) (by omega) (by omega))
  have HBX := Lib.hid (Dm.dgt_bd xs hx)
  have HSX := Lib.hid (Dm.last_step xs)
  have HZX := Lib.hid (Dm.last_zero xs)
  have HLX := Lib.hid (Dm.last_all xs)
  have HF := Lib.hid front_any
  have HT := Lib.hid trim_any
  obtain ⟨n, hn⟩ : ∃ n, n = xs.length := ⟨_, rfl⟩
  obtain ⟨a, c, rfl, hnc, hcm⟩ := hv.form0 hn.symm
  rw [← hn] at hl HLX
  unfold maxLen at hcm
  clear hv hn hx
  go_enter Try.func79, Try.ntmps79
  go_wp2_with fail
  go_loopw [5, 6, 7] (fun u t i wr => ∃ (k v : Nat) (acc : List Int), i = .int .i64 k ∧ t = .int .i64 v ∧ v ≤ 1000 ∧ k ≤ n ∧ acc.length = k ∧ Dm.okD acc ∧ Lst wr u acc ∧ Dm.num acc + v * 10 ^ k = y * Dm.num (Dm.lastN k xs) ∧ Q w wr) (fun _ _ i _ => n - (intOf i).toNat)
  case atStart => exact ⟨0, 0, [], rfl, rfl, by omega, by omega, rfl, Dm.okD_nil, .nil _ _ _ (by unfold maxLen; omega) (fun _ => rfl), by rw [HZX.out]; rfl, Q.refl _⟩
  case round =>
    obtain ⟨k, v, acc, rfl, rfl, hv1, hk, hal, hok, hla, hsum, hq⟩ := hrel
    have HAL := Lib.hid hal
    have HOK := Lib.hid hok
    have HLA := Lib.hid hla
    have HSUM := Lib.hid hsum
    have HQ := Lib.hid hq
    clear hal hok hla hsum hq
    by_cases hlt : k < n
    · have ha := HA.out k wr HQ.out (by omega)
      have hbx := HBX.out k
      have hsx := HSX.out k
      generalize Dm.dgt xs k = x at *
      obtain ⟨p, rfl⟩ : ∃ p : Nat, x = p := ⟨x.toNat, by omega⟩
      have GA := Lib.hid ha
      have hp9 : p ≤ 9 := by omega
      have hm1 : p * y ≤ 9 * 1000 := Nat.mul_le_mul hp9 hy
      have hm0 : ((p * y : Nat) : Int) = (p : Int) * (y : Int) := by simp
      obtain ⟨s, hs⟩ : ∃ s : Nat, s = p * y + v := ⟨_, rfl⟩
      have hst := Dm.mul_step (Dm.num (Dm.lastN k xs)) (10 ^ k) (Dm.num acc) p y v HSUM.out
      rw [← hs] at hst
      rw [Int.toNat_natCast] at hsx
      rw [← hsx] at hst
      have hs1 : s ≤ 10000 := by omega
      have hsI : (p : Int) * (y : Int) + (v : Int) = (s : Int) := by omega
      have hq1 : 0 ≤ (p : Int) * (y : Int) := by omega
      have hq2 : (p : Int) * (y : Int) ≤ 9000 := by omega
      have HST := Lib.hid (show Dm.num (((s : Int) % 10) :: acc) + s / 10 * 10 ^ (k + 1) = y * Dm.num (Dm.lastN (k + 1) xs) from by
        rw [Dm.num_cons, HAL.out, show ((s : Int) % 10).toNat = s % 10 from by omega, Nat.pow_succ]; exact hst)
      have HOK2 := Lib.hid (show Dm.okD (((s : Int) % 10) :: acc) from Dm.okD_cons.2 ⟨by omega, HOK.out⟩)
      have HAL2 := Lib.hid (show (((s : Int) % 10) :: acc).length = k + 1 from by rw [List.length_cons, HAL.out])
      have HFF := Lib.hid (fun d u h => HF.out d u acc wr h (by rw [HAL.out]; omega))
      clear ha hbx hsx hst hs hm0 hm1
      go_wp2_with fail
      refine GA.out.mono ?_
      rintro e w3 ⟨rfl, rfl⟩
      go_wp2_with fail
      refine (HFF.out _ _ HLA.out).mono ?_
      rintro e w3 ⟨u3, rfl, ho3, hq3⟩
      have HO3 := Lib.hid ho3.lst
      have HQ3 := Lib.hid (HQ.out.trans hq3)
      clear ho3 hq3
      go_wp2_with fail
      exact ⟨⟨k + 1, s / 10, _, by go_num, by go_num, by omega, by omega, HAL2.out, HOK2.out, HO3.out, HST.out, HQ3.out⟩, by simp [intOf]; omega⟩
    · have hkn : k = n := by omega
      have hsum := HSUM.out
      rw [hkn, HLX.out n (Nat.le_refl _), Nat.mul_comm y] at hsum
      have hal := HAL.out
      rw [hkn] at hal
      rw [← hal] at hsum
      have HSUM2 := Lib.hid hsum
      have HAL2 := Lib.hid hal
      clear hsum hal hkn
      go_wp2_with fail
      go_loopw [5, 6] (fun u t wr => ∃ (v : Nat) (acc : List Int), t = .int .i64 v ∧ v ≤ 1000 ∧ acc.length + v ≤ n + 1000 ∧ Dm.okD acc ∧ Lst wr u acc ∧ Dm.num acc + v * 10 ^ acc.length = Dm.num xs * y ∧ Q w wr) (fun _ t _ => (intOf t).toNat)
      case atStart => exact ⟨v, acc, rfl, hv1, by rw [HAL2.out]; omega, HOK.out, HLA.out, HSUM2.out, HQ.out⟩
      case round =>
        clear HSUM HOK HLA HQ HAL HSUM2 HAL2
        obtain ⟨z, bs, rfl, hz, hln, hok, hla, hsum, hq⟩ := hrel
        have HOK := Lib.hid hok
        have HLA := Lib.hid hla
        have HSUM := Lib.hid hsum
        have HQ := Lib.hid hq
        clear hok hla hsum hq
        by_cases hz0 : 0 < z
        · have HST := Lib.hid (show Dm.num (((z : Int) % 10) :: bs) + z / 10 * 10 ^ (((z : Int) % 10) :: bs).length = Dm.num xs * y from by
            rw [Dm.num_cons, List.length_cons, show ((z : Int) % 10).toNat = z % 10 from by omega, Nat.pow_succ, Dm.over_step]; exact HSUM.out)
          have HOK2 := Lib.hid (show Dm.okD (((z : Int) % 10) :: bs) from Dm.okD_cons.2 ⟨by omega, HOK.out⟩)
          have HLN2 := Lib.hid (show (((z : Int) % 10) :: bs).length + z / 10 ≤ n + 1000 from by rw [List.length_cons]; omega)
          have HFF := Lib.hid (fun d u h => HF.out d u bs wr h (by omega))
          go_wp2_with fail
          refine (HFF.out _ _ HLA.out).mono ?_
          rintro e w3 ⟨u3, rfl, ho3, hq3⟩
          have HO3 := Lib.hid ho3.lst
          have HQ3 := Lib.hid (HQ.out.trans hq3)
          clear ho3 hq3
          go_wp2_with fail
          exact ⟨⟨z / 10, _, by go_num, by omega, HLN2.out, HOK2.out, HO3.out, HST.out, HQ3.out⟩, by simp [intOf]; omega⟩
        · have hz1 : z = 0 := by omega
          subst hz1
          have HTN := Lib.hid (Dm.trim_num (l := bs) (n := Dm.num xs * y) HOK.out (by have := HSUM.out; omega))
          have HT3 := Lib.hid (fun u h => HT.out u bs wr h (by omega))
          go_wp2_with fail
          refine (HT3.out _ HLA.out).mono ?_
          rintro e w4 ⟨u4, rfl, ho4, hq4⟩
          rw [HTN.out] at ho4
          have HO4 := Lib.hid (ho4.mono HQ.out.le)
          have HQ4 := Lib.hid (HQ.out.trans hq4)
          clear ho4 hq4
          go_wp2_with fail
          go_ret
          exact ⟨_, rfl, HO4.out, HQ4.out⟩
set_option maxHeartbeats 1600000 in
theorem shift_any (va : Value) (xs : List Int) (k : Int) (w : World) (hv : Lst w va xs) (hl : xs.length < 1000000) (hk : -1000 ≤ k ∧ k ≤ 1000) :
    Calls Try.prog 53 #[va, .int .i64 k] w fun e w' => ∃ u, e = .returned u ∧ Own w' w.heap.size u (Dm.shl xs k) ∧ Q w w' := by
  obtain ⟨n, hn⟩ : ∃ n, n = xs.length := ⟨_, rfl⟩
  obtain ⟨a, c, rfl, hnc, hcm⟩ := hv.form0 hn.symm
  have hol := Own.nil w w.heap.size
  unfold maxLen at hcm
  obtain ⟨hk1, hk2⟩ := hk
  by_cases h0 : k < 0
  · have hsn := Dm.shl_neg xs k h0
    rw [← hn] at hsn
    obtain ⟨m, hm⟩ : ∃ m, m = ((n : Int) + k).toNat := ⟨_, rfl⟩
    rw [← hm] at hsn
    have ht := hv.take m (by omega)
    rw [← hsn] at ht
    have HTK := Lib.hid ht
    have HW := Lib.hid (show ([] : List Int).length + (Dm.shl xs k).length < 1099511627776 from by rw [hsn, List.length_take]; show 0 + _ < _; omega)
    rw [← hn] at hl
    clear hsn ht hv hn
    rcases (show (0 ≤ (n : Int) + k ∧ (n : Int) + k = (m : Int)) ∨ ((n : Int) + k < 0 ∧ m = 0) from by omega) with ⟨h1, h2⟩ | ⟨h1, h2⟩
    · have hmc : (m : Int) ≤ (c : Int) := by omega
      clear hm
      go_enter Try.func53, Try.ntmps53
      go_wp2_with (at_builtin; refine push_list hol HTK.out rfl _ _ rfl (by rfl) (by rfl) HW.out (Nat.le_refl _) ?_)
      intro u w2 hu hg2 hat2
      go_wp2_with fail
      go_ret
      exact ⟨_, rfl, hu, (Q.refl w).grown hg2 (fun k hk => by cases hk)⟩
    · subst h2
      clear hm
      go_enter Try.func53, Try.ntmps53
      go_wp2_with (at_builtin; refine push_list hol HTK.out rfl _ _ rfl (by rfl) (by rfl) HW.out (Nat.le_refl _) ?_)
      intro u w2 hu hg2 hat2
      go_wp2_with fail
      go_ret
      exact ⟨_, rfl, hu, (Q.refl w).grown hg2 (fun k hk => by cases hk)⟩
  · obtain ⟨m, rfl⟩ : ∃ m : Nat, k = m := ⟨k.toNat, by omega⟩
    have HSP := Lib.hid (Dm.shl_pos xs m)
    have HV := Lib.hid hv
    have HW := Lib.hid (show ([] : List Int).length + xs.length < 1099511627776 from by show 0 + _ < _; omega)
    have HXL := Lib.hid hn
    rw [← hn] at hl
    clear hv hn
    go_enter Try.func53, Try.ntmps53
    go_wp2_with (at_builtin; refine push_list hol HV.out rfl _ _ rfl (by rfl) (by rfl) HW.out (Nat.le_refl _) ?_)
    intro u w2 hu hg2 hat2
    have hu : Own w2 w.heap.size u xs := hu
    have HQ2 := Lib.hid ((Q.refl w).grown hg2 (fun k hk => by cases hk))
    have HU := Lib.hid hu
    clear hu hg2 hat2
    go_wp2_with fail
    go_loopw [5, 6] (fun u t wr => ∃ j : Nat, t = .int .i64 j ∧ j ≤ m ∧ Own wr w.heap.size u (xs ++ List.replicate j 0) ∧ Q w wr) (fun _ t _ => m - (intOf t).toNat)
    case atStart => exact ⟨0, rfl, by omega, by rw [List.replicate_zero, List.append_nil]; exact HU.out, HQ2.out⟩
    case round =>
      obtain ⟨j, rfl, hj, ho, hq⟩ := hrel
      by_cases hlt : j < m
      · have hB := hq.le
        have hwl : (xs ++ List.replicate j 0).length < 1099511627776 := by rw [List.length_append, List.length_replicate, ← HXL.out]; omega
        have HRS := Lib.hid (show (xs ++ (List.replicate j 0 ++ [(0 : Int)])) = xs ++ List.replicate (j + 1) 0 from by rw [← List.replicate_succ'])
        have HWL := Lib.hid hwl
        clear hwl
        go_wp2_with (at_builtin; refine push_int ho rfl _ _ rfl _ (by rfl) (by rfl) HWL.out hB ?_)
        intro v2 w3 ho2 hg3 hat3
        rw [HRS.out] at ho2
        have HO2 := Lib.hid ho2
        have HQ3 := Lib.hid (hq.grown hg3 (fun g h => (ho.lt g h).1))
        clear ho ho2 hg3 hat3
        go_wp2_with fail
        exact ⟨⟨j + 1, by go_num, by omega, HO2.out, HQ3.out⟩, by simp [intOf]; omega⟩
      · have hjm : j = m := by omega
        rw [hjm, ← HSP.out] at ho
        have HO := Lib.hid ho
        have HQ := Lib.hid hq
        clear ho hq hjm
        go_wp2_with fail
        go_ret
        exact ⟨_, rfl, HO.out, HQ.out⟩
theorem str_snoc (A : List Int) (x : Int) : strOfNums (A ++ [x]) = strOfNums A ++ strOfNums [x] := by
  have e : (strOfNums (A ++ [x])).data.toList = (strOfNums A ++ strOfNums [x]).data.toList := by
    rw [strOfNums_data, ByteArray.data_append, Array.toList_append, strOfNums_data, strOfNums_data, List.map_append]
  have e2 := Array.toList_inj.1 e
  generalize strOfNums (A ++ [x]) = t at *
  generalize strOfNums A ++ strOfNums [x] = u at *
  cases t; cases u; simp only at e2; rw [e2]
set_option maxHeartbeats 1600000 in
theorem text_any (v : Value) (xs : List Int) (w : World) (hv : Lst w v xs) (hl : xs.length < 1000000) :
    Calls Try.prog 62 #[v] w fun e w' => (Dm.okB xs = true → e = .returned (.string (Dm.txtB xs))) ∧ (Dm.okB xs = false → e = .returned (.string ⟨#[]⟩)) ∧ Q w w' := by
  obtain ⟨n, hn⟩ : ∃ n, n = xs.length := ⟨_, rfl⟩
  obtain ⟨a, c, rfl, hnc, hcm⟩ := hv.form0 hn.symm
  obtain ⟨r, hr⟩ : ∃ r, r = Dm.okB xs := ⟨_, rfl⟩
  rw [← hr]
  have HB := Lib.hid (Dm.okB_bad xs)
  have HO := Lib.hid (Dm.okB_on xs)
  have HE := Lib.hid (Dm.okB_end xs)
  have HR := Lib.hid hr
  have HSN := Lib.hid (fun k (hk : k < n) => Dm.txtL_snoc xs k (by omega))
  have HTL := Lib.hid (fun k (hk : k ≤ n) => Dm.txtL_len xs k (by omega))
  have HTA := Lib.hid (show Dm.txtB xs = strOfNums (Dm.txtL (xs.take n)) from by rw [hn, List.take_length]; rfl)
  rw [← hn] at hl HB HO HE
  have HV := Lib.hid (fun k h => hv.cellOf (n := n) (k := k) hn.symm h)
  unfold maxLen at hcm
  clear hv hn hr
  go_enter Try.func62, Try.ntmps62
  go_wp2_with fail
  go_loopw [3, 4] (fun u i wr => ∃ (k : Nat) (t : ByteArray), u = .string t ∧ t = strOfNums (Dm.txtL (xs.take k)) ∧ i = .int .i64 k ∧ k ≤ n ∧ Dm.okB (xs.drop k) = r ∧ Q w wr) (fun _ i _ => n - (intOf i).toNat)
  case atStart => exact ⟨0, _, rfl, rfl, rfl, by omega, by rw [HR.out]; rfl, Q.refl _⟩
  case round =>
    obtain ⟨k, t, rfl, ht, rfl, hk, hc, hq⟩ := hrel
    have HC := Lib.hid hc
    have HT := Lib.hid ht
    have hts : t.size = k := by rw [ht, strOfNums_size, HTL.out k hk]
    have HQ := Lib.hid hq
    clear hc ht
    by_cases hlt : k < n
    · obtain ⟨g, off, cap, hvv, hg, _, _, c0⟩ := HV.out k hlt
      cases hvv
      have c1 := (World.cell?_of_block (w := w) (hq.block hg) (a := ⟨g, off + k, none⟩)).trans c0
      have hb := HB.out k hlt
      have ho := HO.out k hlt
      have hsn := HSN.out k hlt
      obtain ⟨y, hy⟩ : ∃ y, y = xs.getD k 0 := ⟨_, rfl⟩
      rw [← hy] at c1 hb ho hsn
      have HB1 := Lib.hid hb
      have HO1 := Lib.hid ho
      have HSN1 := Lib.hid hsn
      clear hb ho hsn hy c0 hq
      by_cases h1 : y < 0
      · have HF : Hid (r = false) := Lib.hid (by rw [← HC.out]; exact HB1.out (by omega))
        go_wp2_with fail
        go_ret
        rw [HF.out]
        exact ⟨fun h => Bool.noConfusion h, fun _ => rfl, HQ.out⟩
      · by_cases h2 : 9 < y
        · have HF : Hid (r = false) := Lib.hid (by rw [← HC.out]; exact HB1.out (by omega))
          go_wp2_with fail
          go_ret
          rw [HF.out]
          exact ⟨fun h => Bool.noConfusion h, fun _ => rfl, HQ.out⟩
        · have HN := Lib.hid ((HO1.out (by omega)).symm.trans HC.out)
          have hcv := Ur.convN wr [48 + y] 1 rfl
          simp only [List.map_cons, List.map_nil] at hcv
          have hss : (strOfNums [48 + y]).size = 1 := strOfNums_size _
          have HTT := Lib.hid (show t ++ strOfNums [48 + y] = strOfNums (Dm.txtL (xs.take (k + 1))) from by rw [HSN1.out, str_snoc, HT.out])
          generalize strOfNums [48 + y] = z at *
          go_wp2_with fail
          exact ⟨⟨k + 1, _, rfl, HTT.out, by go_num, by omega, HN.out, HQ.out.alloc _⟩, by simp [intOf]; omega⟩
    · have hkn : k = n := by omega
      have HF : Hid (r = true) := Lib.hid (by rw [← HC.out]; exact HE.out k (by omega))
      have HT2 := Lib.hid (show t = Dm.txtB xs from by rw [HTA.out, HT.out, hkn])
      clear hkn hts hq
      go_wp2_with fail
      go_ret
      rw [HF.out, HT2.out]
      exact ⟨fun _ => rfl, fun h => Bool.noConfusion h, HQ.out⟩
end Dr
end Go.Proofs.Yteljedefbomlgaa
namespace Go.Proofs.Yteljedefbomlgaa
open Go.RowKit
namespace Dm
def dotB : ByteArray := ⟨#[46]⟩
def minB : ByteArray := ⟨#[45]⟩
def ptx (T : ByteArray) (s : Nat) : ByteArray := if s = 0 then T else T.extract 0 (T.size - s) ++ dotB ++ T.extract (T.size - s) T.size
def wid (L : List Int) (s : Nat) : List Int := List.replicate (s + 1 - L.length) 0 ++ L
def prt (g : Bool) (L : List Int) (s : Nat) : ByteArray := if g = true then minB ++ ptx (txtB (wid L s)) s else ptx (txtB (wid L s)) s
theorem wid_len (L : List Int) (s : Nat) : (wid L s).length = max (s + 1) L.length := by
  unfold wid
  rw [List.length_append, List.length_replicate]; omega
theorem wid_num (L : List Int) (s : Nat) : num (wid L s) = num L := by
  unfold wid
  rw [← num_trim, trim_rep, num_trim]
theorem wid_ok (L : List Int) (s : Nat) (h : okD L) : okD (wid L s) := by
  unfold wid
  rw [okD_append]
  refine ⟨fun d hd => ?_, h⟩
  have := List.eq_of_mem_replicate hd
  omega
theorem txtB_cons (d : Int) (X : List Int) : txtB (d :: X) = strOfNums [48 + d] ++ txtB X := by
  unfold txtB
  have e : (strOfNums (txtL (d :: X))).data.toList = (strOfNums [48 + d] ++ strOfNums (txtL X)).data.toList := by
    rw [strOfNums_data, ByteArray.data_append, Array.toList_append, strOfNums_data, strOfNums_data, ← List.map_append]
    rfl
  have e2 := Array.toList_inj.1 e
  generalize strOfNums (txtL (d :: X)) = t at *
  generalize strOfNums [48 + d] ++ strOfNums (txtL X) = u at *
  cases t; cases u; simp only at e2; rw [e2]
theorem txt_nought (j : Nat) (L : List Int) : (⟨#[48]⟩ : ByteArray) ++ txtB (List.replicate j 0 ++ L) = txtB (List.replicate (j + 1) 0 ++ L) := by
  rw [List.replicate_succ, List.cons_append, txtB_cons]
  have : strOfNums [48 + 0] = ⟨#[48]⟩ := by decide +kernel
  rw [this]
def scan : List UInt8 → List Int → Bool → Nat → Nat → Option (List Int × Bool × Nat × Nat)
  | [], ds, pt, sc, ah => some (ds, pt, sc, ah)
  | c :: r, ds, pt, sc, ah =>
    if c.toNat = 46 ∧ pt = false then scan r ds true sc ah
    else if 48 ≤ c.toNat ∧ c.toNat ≤ 57 then (if pt = true then scan r (ds ++ [(c.toNat : Int) - 48]) pt (sc + 1) ah else scan r (ds ++ [(c.toNat : Int) - 48]) pt sc (ah + 1))
    else none
def sgn (l : List UInt8) : Bool := decide ((l.take 1) = [45])
def bod (l : List UInt8) : List UInt8 := if sgn l = true then l.drop 1 else l
def prs (l : List UInt8) : Bool × List Int × Nat × Int :=
  match scan (bod l) [] false 0 0 with
  | none => (false, [], 0, 2)
  | some (ds, pt, sc, ah) => if ah = 0 ∨ (pt = true ∧ sc = 0) then (false, [], 0, 2) else if 1000 < sc then (false, [], 0, 3) else (sgn l, ds, sc, 0)
theorem byte_nat (d : Int) (h : 0 ≤ d ∧ d ≤ 9) : (UInt8.ofNat (48 + d).toNat).toNat = (48 + d).toNat := byte_of d h
theorem scan_digits (X : List Int) (h : okD X) (r : List UInt8) (ds : List Int) (pt : Bool) (sc ah : Nat) :
    scan ((txtL X).map (fun n => UInt8.ofNat n.toNat) ++ r) ds pt sc ah = scan r (ds ++ X) pt (if pt = true then sc + X.length else sc) (if pt = true then ah else ah + X.length) := by
  induction X generalizing ds sc ah with
  | nil => cases pt <;> simp [txtL]
  | cons d X ih =>
    obtain ⟨hd, hX⟩ := okD_cons.1 h
    have hb := byte_nat d hd
    have e : (txtL (d :: X)).map (fun n => UInt8.ofNat n.toNat) ++ r = UInt8.ofNat (48 + d).toNat :: ((txtL X).map (fun n => UInt8.ofNat n.toNat) ++ r) := rfl
    rw [e, scan, if_neg (by rw [hb]; omega), if_pos (by rw [hb]; omega), hb]
    have e2 : ((48 + d).toNat : Int) - 48 = d := by omega
    rw [e2]
    cases pt
    · rw [if_neg (by decide), ih hX]
      simp only [Bool.false_eq_true, if_false, List.append_assoc, List.singleton_append, List.length_cons]
      rw [show ah + 1 + X.length = ah + (X.length + 1) from by omega]
    · rw [if_pos rfl, ih hX]
      simp only [if_true, List.append_assoc, List.singleton_append, List.length_cons]
      rw [show sc + 1 + X.length = sc + (X.length + 1) from by omega]
theorem txt_list (X : List Int) : (txtB X).data.toList = (txtL X).map (fun n => UInt8.ofNat n.toNat) := strOfNums_data _
theorem ext_list (T : ByteArray) (a b : Nat) : (T.extract a b).data.toList = (T.data.toList.take b).drop a := by
  simp [ByteArray.data_extract, Array.toList_extract, List.extract_eq_take_drop, List.drop_take]
theorem ptx_list (X : List Int) (s : Nat) (hs : s ≠ 0) (hl : s ≤ X.length) : (ptx (txtB X) s).data.toList = (txtL (X.take (X.length - s))).map (fun n => UInt8.ofNat n.toNat) ++ (46 :: (txtL (X.drop (X.length - s))).map (fun n => UInt8.ofNat n.toNat)) := by
  unfold ptx
  rw [if_neg hs, ByteArray.data_append, ByteArray.data_append, Array.toList_append, Array.toList_append, ext_list, ext_list, txt_size, txt_list]
  have hlen : ((txtL X).map (fun n => UInt8.ofNat n.toNat)).length = X.length := by simp [txtL]
  rw [List.drop_zero, List.take_of_length_le (Nat.le_of_eq hlen)]
  unfold txtL
  rw [← List.map_take, ← List.map_take, ← List.map_drop, ← List.map_drop, List.append_assoc]
  rfl
theorem head_digit (X : List Int) (h : okD X) (r : List UInt8) (hx : X ≠ []) : sgn ((txtL X).map (fun n => UInt8.ofNat n.toNat) ++ r) = false := by
  cases X with
  | nil => exact absurd rfl hx
  | cons d X =>
    obtain ⟨hd, _⟩ := okD_cons.1 h
    have hb := byte_nat d hd
    unfold sgn
    have e : ((txtL (d :: X)).map (fun n => UInt8.ofNat n.toNat) ++ r).take 1 = [UInt8.ofNat (48 + d).toNat] := rfl
    rw [e]
    refine decide_eq_false fun h => ?_
    have h2 : UInt8.ofNat (48 + d).toNat = 45 := by simpa using h
    rw [h2] at hb
    have : (45 : UInt8).toNat = 45 := rfl
    omega
theorem prs_ptx (X : List Int) (s : Nat) (h : okD X) (hl : s < X.length) (hs : s ≤ 1000) : sgn (ptx (txtB X) s).data.toList = false ∧ scan (ptx (txtB X) s).data.toList [] false 0 0 = some (X, decide (s ≠ 0), s, X.length - s) := by
  by_cases h0 : s = 0
  · subst h0
    have e : (ptx (txtB X) 0).data.toList = (txtL X).map (fun n => UInt8.ofNat n.toNat) ++ [] := by
      unfold ptx
      rw [if_pos rfl, txt_list, List.append_nil]
    rw [e]
    refine ⟨head_digit X h [] (by rintro rfl; simp at hl), ?_⟩
    rw [scan_digits X h]
    simp [scan]
  · rw [ptx_list X s h0 (by omega)]
    have h1 : okD (X.take (X.length - s)) := okD_take h _
    have h2 : okD (X.drop (X.length - s)) := okD_drop h _
    have e1 : (X.take (X.length - s)).length = X.length - s := by rw [List.length_take]; omega
    have e2 : (X.drop (X.length - s)).length = s := by rw [List.length_drop]; omega
    refine ⟨head_digit _ h1 _ (by intro hn; rw [hn] at e1; simp at e1; omega), ?_⟩
    rw [scan_digits _ h1, scan, if_pos ⟨rfl, rfl⟩]
    have := scan_digits _ h2 [] ([] ++ X.take (X.length - s)) true 0 (0 + (X.take (X.length - s)).length)
    rw [List.append_nil] at this
    simp only [Bool.false_eq_true, if_false] 
    rw [this]
    simp only [if_true, scan, List.nil_append, e1, e2, List.take_append_drop]
    simp [h0]
theorem prs_prt (g : Bool) (L : List Int) (s : Nat) (h : okD L) (hs : s ≤ 1000) : prs (prt g L s).data.toList = (g, wid L s, s, 0) := by
  have hw := wid_len L s
  have hx := prs_ptx (wid L s) s (wid_ok L s h) (by omega) hs
  obtain ⟨h1, h2⟩ := hx
  have hb : bod (prt g L s).data.toList = (ptx (txtB (wid L s)) s).data.toList ∧ sgn (prt g L s).data.toList = g := by
    unfold prt
    cases g
    · rw [if_neg (by decide)]
      unfold bod
      rw [h1]
      exact ⟨if_neg (by decide), rfl⟩
    · rw [if_pos rfl, ByteArray.data_append, Array.toList_append]
      have e : minB.data.toList = [45] := rfl
      rw [e]
      have e2 : sgn ([45] ++ (ptx (txtB (wid L s)) s).data.toList) = true := by unfold sgn; simp
      unfold bod
      rw [e2]
      exact ⟨if_pos rfl, rfl⟩
  unfold prs
  rw [hb.1, hb.2, h2]
  show (if (wid L s).length - s = 0 ∨ (decide (s ≠ 0) = true ∧ s = 0) then _ else _) = _
  rw [if_neg (by simp; omega), if_neg (by omega)]
theorem prt_size (g : Bool) (L : List Int) (s : Nat) : (prt g L s).size ≤ max (s + 1) L.length + 2 := by
  have hw := wid_len L s
  have ht : (ptx (txtB (wid L s)) s).size ≤ max (s + 1) L.length + 1 := by
    unfold ptx
    have := txt_size (wid L s)
    split
    · omega
    · rw [ByteArray.size_append, ByteArray.size_append, ByteArray.size_extract, ByteArray.size_extract]
      have : dotB.size = 1 := rfl
      omega
  unfold prt
  split
  · rw [ByteArray.size_append]
    have : minB.size = 1 := rfl
    omega
  · omega
end Dm
end Go.Proofs.Yteljedefbomlgaa
namespace Go.Proofs.Yteljedefbomlgaa
open Go.RowKit
namespace Dw
set_option maxHeartbeats 1600000 in
theorem shift_at (va : Value) (xs : List Int) (k : Int) (w : World) (hv : Lst w va xs) (hl : xs.length < 1000000) (hb : Dm.okB xs = true) (hk : -1000 ≤ k ∧ k ≤ 1000) :
    Calls Try.prog 88 #[va, .int .i64 k] w fun e w' => ∃ u, e = .returned (.tuple #[u, .int .i64 0]) ∧ Lst w' u (Dm.shl xs k) ∧ New w.heap.size u ∧ Q w w' := by
  have h := may_any va xs w hv (by omega)
  rw [hb] at h
  have H := Lib.hid h
  have hsm := Dm.shl_make xs k
  obtain ⟨n, hn⟩ : ∃ n, n = xs.length := ⟨_, rfl⟩
  obtain ⟨a, c, rfl, hnc, hcm⟩ := hv.form0 hn.symm
  have HV := Lib.hid (fun w' (q : Q w w') => hv.q q)
  rw [← hn] at hl hsm
  obtain ⟨m, hm⟩ : ∃ m, m = ((n : Int) + k).toNat := ⟨_, rfl⟩
  rw [← hm] at hsm
  have HSM := Lib.hid hsm
  have HNL := Lib.hid hn
  unfold maxLen at hcm
  obtain ⟨hk1, hk2⟩ := hk
  clear h hb hv hn hsm
  have hml : m < 1099511627776 := by omega
  rcases (show (0 ≤ (n : Int) + k ∧ (n : Int) + k = (m : Int)) ∨ ((n : Int) + k < 0 ∧ m = 0) from by omega) with ⟨h0, h1⟩ | ⟨h0, h1⟩
  · clear hm
    go_enter Try.func88, Try.ntmps88
    go_wp2_with fail
    refine H.out.mono ?_
    rintro e w1 ⟨rfl, rfl⟩
    go_wp2_with (at_make; refine make_ints rfl _ _ rfl m _ (by rfl) (by rfl) (by first | rfl | omega) hml (Nat.le_refl _) ?_)
    intro w2 ho2 hq2 hsz2
    have HQ2 := Lib.hid hq2
    have HO2 := Lib.hid ho2
    clear ho2 hq2 hsz2
    go_wp2_with (refine copy_ints HO2.out List.length_replicate (HV.out _ HQ2.out) rfl _ _ rfl (by rfl) (by rfl) ?_)
    intro w3 v3 ho3 hb3
    rw [← HNL.out, ← HSM.out] at ho3
    have HO3 := Lib.hid ho3.lst
    have HNW := Lib.hid (New.own ho3)
    have HB3 := Lib.hid hb3
    clear ho3 hb3
    go_wp2_with fail
    go_ret2
    exact ⟨_, rfl, HO3.out, HNW.out, Below.trans HQ2.out HB3.out⟩
  · subst h1
    clear hm
    go_enter Try.func88, Try.ntmps88
    go_wp2_with fail
    refine H.out.mono ?_
    rintro e w1 ⟨rfl, rfl⟩
    go_wp2_with (at_make; refine make_ints rfl _ _ rfl 0 _ (by rfl) (by rfl) (by first | rfl | omega) (by omega) (Nat.le_refl _) ?_)
    intro w2 ho2 hq2 hsz2
    have HQ2 := Lib.hid hq2
    have HO2 := Lib.hid ho2
    clear ho2 hq2 hsz2
    have HE := Lib.hid (show Dm.shl xs k = [] from by rw [HSM.out]; simp)
    go_wp2_with (refine copy_ints HO2.out rfl (HV.out _ HQ2.out) rfl _ _ rfl (by rfl) (by rfl) ?_)
    intro w3 v3 ho3 hb3
    have HO3 := Lib.hid ho3.lst
    have HNW := Lib.hid (New.own ho3)
    have HB3 := Lib.hid hb3
    clear ho3 hb3
    go_wp2_with fail
    go_ret2
    exact ⟨_, rfl, by rw [HE.out]; simpa using HO3.out, HNW.out, Below.trans HQ2.out HB3.out⟩
theorem shift_any (va : Value) (xs : List Int) (k : Int) (w : World) (hv : Lst w va xs) (hl : xs.length < 1000000) (hb : Dm.okB xs = true) (hk : -1000 ≤ k ∧ k ≤ 1000) :
    Calls Try.prog 88 #[va, .int .i64 k] w fun e w' => ∃ u, e = .returned (.tuple #[u, .int .i64 0]) ∧ Lst w' u (Dm.shl xs k) ∧ Q w w' := by
  refine (shift_at va xs k w hv hl hb hk).mono ?_
  rintro e w' ⟨u, h1, h2, _, h3⟩
  exact ⟨u, h1, h2, h3⟩
end Dw
end Go.Proofs.Yteljedefbomlgaa
