/- What the document's own Times, Shift, Parse and Text of digits come to, by a walk through each. (and more) -/
import Derived.Test.YtagpofhencpliaaGreatDoorR00
import Derived.Test.YtagpofhencpliaaGreatDoorR06
import Derived.Test.YtagpofhencpliaaGreatDoorR02
import Derived.Test.YtagpofhencpliaaGreatDoorR05
import Derived.Test.YtagpofhencpliaaGreatDoorR03
import Derived.Test.YtagpofhencpliaaGreatDoorR04
import Derived.Test.YtagpofhencpliaaGreatDoorRows
import Derived.Test.YtagpofhencpliaaGreatDoorR08
import Derived.Deep.QuietTactic
import Derived.Deep.RegionWith
import Derived.BigQuiet
set_option linter.unusedVariables false
set_option linter.unusedSimpArgs false
namespace Go.Proofs.YtagpofhencpliaaGreatDoor
open Go.RowKit
namespace Dr
set_option maxHeartbeats 1600000 in
theorem shift_any (va : Value) (xs : List Int) (k : Int) (w : World) (hv : Lst w va xs) (hl : xs.length < 1000000) (hk : -1000 ≤ k ∧ k ≤ 1000) :
    Calls Tryz.prog 40 #[va, .int .i64 k] w fun e w' => ∃ u, e = .returned u ∧ Own w' w.heap.size u (Dm.shl xs k) ∧ Q w w' := by
  obtain ⟨n, hn⟩ : ∃ n, n = xs.length := ⟨_, rfl⟩
  obtain ⟨a, c, rfl, hnc, hcm⟩ := hv.form0 hn.symm
  have hol := Own.nil w w.heap.size
  unfold maxLen at hcm
  obtain ⟨hk1, hk2⟩ := hk
  by_cases h0 : k < 0
  · have hsn := Dm.shl_neg xs k h0
    rw [← hn] at hsn
    obtain ⟨m, hm⟩ : ∃ m, m = ((n : Int) + k).toNat := ⟨_, rfl⟩
    rw [← hm] at hsn
    have ht := hv.take m (by omega)
    rw [← hsn] at ht
    have HTK := Lib.hid ht
    have HW := Lib.hid (show ([] : List Int).length + (Dm.shl xs k).length < 1099511627776 from by rw [hsn, List.length_take]; show 0 + _ < _; omega)
    rw [← hn] at hl
    clear hsn ht hv hn
    rcases (show (0 ≤ (n : Int) + k ∧ (n : Int) + k = (m : Int)) ∨ ((n : Int) + k < 0 ∧ m = 0) from by omega) with ⟨h1, h2⟩ | ⟨h1, h2⟩
    · have hmc : (m : Int) ≤ (c : Int) := by omega
      clear hm
      go_enter Tryz.func40, Tryz.ntmps40
      go_wp2_with (at_builtin; refine push_list hol HTK.out rfl _ _ rfl (by rfl) (by rfl) HW.out (Nat.le_refl _) ?_)
      intro u w2 hu hg2 hat2
      go_wp2_with fail
      go_ret
      exact ⟨_, rfl, hu, (Q.refl w).grown hg2 (fun k hk => by cases hk)⟩
    · subst h2
      clear hm
      go_enter Tryz.func40, Tryz.ntmps40
      go_wp2_with (at_builtin; refine push_list hol HTK.out rfl _ _ rfl (by rfl) (by rfl) HW.out (Nat.le_refl _) ?_)
      intro u w2 hu hg2 hat2
      go_wp2_with fail
      go_ret
      exact ⟨_, rfl, hu, (Q.refl w).grown hg2 (fun k hk => by cases hk)⟩
  · obtain ⟨m, rfl⟩ : ∃ m : Nat, k = m := ⟨k.toNat, by omega⟩
    have HSP := Lib.hid (Dm.shl_pos xs m)
    have HV := Lib.hid hv
    have HW := Lib.hid (show ([] : List Int).length + xs.length < 1099511627776 from by show 0 + _ < _; omega)
    have HXL := Lib.hid hn
    rw [← hn] at hl
    clear hv hn
    go_enter Tryz.func40, Tryz.ntmps40
    go_wp2_with (at_builtin; refine push_list hol HV.out rfl _ _ rfl (by rfl) (by rfl) HW.out (Nat.le_refl _) ?_)
    intro u w2 hu hg2 hat2
    have hu : Own w2 w.heap.size u xs := hu
    have HQ2 := Lib.hid ((Q.refl w).grown hg2 (fun k hk => by cases hk))
    have HU := Lib.hid hu
    clear hu hg2 hat2
    go_wp2_with fail
    go_loopw [5, 6] (fun u t wr => ∃ j : Nat, t = .int .i64 j ∧ j ≤ m ∧ Own wr w.heap.size u (xs ++ List.replicate j 0) ∧ Q w wr) (fun _ t _ => m - (intOf t).toNat)
    case atStart => exact ⟨0, rfl, by omega, by rw [List.replicate_zero, List.append_nil]; exact HU.out, HQ2.out⟩
    case round =>
      obtain ⟨j, rfl, hj, ho, hq⟩ := hrel
      by_cases hlt : j < m
      · have hB := hq.le
        have hwl : (xs ++ List.replicate j 0).length < 1099511627776 := by rw [List.length_append, List.length_replicate, ← HXL.out]; omega
        have HRS := Lib.hid (show (xs ++ (List.replicate j 0 ++ [(0 : Int)])) = xs ++ List.replicate (j + 1) 0 from by rw [← List.replicate_succ'])
        have HWL := Lib.hid hwl
        clear hwl
        go_wp2_with (at_builtin; refine push_int ho rfl _ _ rfl _ (by rfl) (by rfl) HWL.out hB ?_)
        intro v2 w3 ho2 hg3 hat3
        rw [HRS.out] at ho2
        have HO2 := Lib.hid ho2
        have HQ3 := Lib.hid (hq.grown hg3 (fun g h => (ho.lt g h).1))
        clear ho ho2 hg3 hat3
        go_wp2_with fail
        exact ⟨⟨j + 1, by go_num, by omega, HO2.out, HQ3.out⟩, by simp [intOf]; omega⟩
      · have hjm : j = m := by omega
        rw [hjm, ← HSP.out] at ho
        have HO := Lib.hid ho
        have HQ := Lib.hid hq
        clear ho hq hjm
        go_wp2_with fail
        go_ret
        exact ⟨_, rfl, HO.out, HQ.out⟩
theorem str_snoc (A : List Int) (x : Int) : strOfNums (A ++ [x]) = strOfNums A ++ strOfNums [x] := by
  have e : (strOfNums (A ++ [x])).data.toList = (strOfNums A ++ strOfNums [x]).data.toList := by
    rw [strOfNums_data, ByteArray.data_append, Array.toList_append, strOfNums_data, strOfNums_data, List.map_append]
  have e2 := Array.toList_inj.1 e
  generalize strOfNums (A ++ [x]) = t at *
  generalize strOfNums A ++ strOfNums [x] = u at *
  cases t; cases u; simp only at e2; rw [e2]
set_option maxHeartbeats 1600000 in
theorem text_any (v : Value) (xs : List Int) (w : World) (hv : Lst w v xs) (hl : xs.length < 1000000) :
    Calls Tryz.prog 42 #[v] w fun e w' => (Dm.okB xs = true → e = .returned (.string (Dm.txtB xs))) ∧ (Dm.okB xs = false → e = .returned (.string ⟨#[]⟩)) ∧ Q w w' := by
  obtain ⟨n, hn⟩ : ∃ n, n = xs.length := ⟨_, rfl⟩
  obtain ⟨a, c, rfl, hnc, hcm⟩ := hv.form0 hn.symm
  obtain ⟨r, hr⟩ : ∃ r, r = Dm.okB xs := ⟨_, rfl⟩
  rw [← hr]
  have HB := Lib.hid (Dm.okB_bad xs)
  have HO := Lib.hid (Dm.okB_on xs)
  have HE := Lib.hid (Dm.okB_end xs)
  have HR := Lib.hid hr
  have HSN := Lib.hid (fun k (hk : k < n) => Dm.txtL_snoc xs k (by omega))
  have HTL := Lib.hid (fun k (hk : k ≤ n) => Dm.txtL_len xs k (by omega))
  have HTA := Lib.hid (show Dm.txtB xs = strOfNums (Dm.txtL (xs.take n)) from by rw [hn, List.take_length]; rfl)
  rw [← hn] at hl HB HO HE
  have HV := Lib.hid (fun k h => hv.cellOf (n := n) (k := k) hn.symm h)
  unfold maxLen at hcm
  clear hv hn hr
  go_enter Tryz.func42, Tryz.ntmps42
  go_wp2_with fail
  go_loopw [3, 4] (fun u i wr => ∃ (k : Nat) (t : ByteArray), u = .string t ∧ t = strOfNums (Dm.txtL (xs.take k)) ∧ i = .int .i64 k ∧ k ≤ n ∧ Dm.okB (xs.drop k) = r ∧ Q w wr) (fun _ i _ => n - (intOf i).toNat)
  case atStart => exact ⟨0, _, rfl, rfl, rfl, by omega, by rw [HR.out]; rfl, Q.refl _⟩
  case round =>
    obtain ⟨k, t, rfl, ht, rfl, hk, hc, hq⟩ := hrel
    have HC := Lib.hid hc
    have HT := Lib.hid ht
    have hts : t.size = k := by rw [ht, strOfNums_size, HTL.out k hk]
    have HQ := Lib.hid hq
    clear hc ht
    by_cases hlt : k < n
    · obtain ⟨g, off, cap, hvv, hg, _, _, c0⟩ := HV.out k hlt
      cases hvv
      have c1 := (World.cell?_of_block (w := w) (hq.block hg) (a := ⟨g, off + k, none⟩)).trans c0
      have hb := HB.out k hlt
      have ho := HO.out k hlt
      have hsn := HSN.out k hlt
      obtain ⟨y, hy⟩ : ∃ y, y = xs.getD k 0 := ⟨_, rfl⟩
      rw [← hy] at c1 hb ho hsn
      have HB1 := Lib.hid hb
      have HO1 := Lib.hid ho
      have HSN1 := Lib.hid hsn
      clear hb ho hsn hy c0 hq
      by_cases h1 : y < 0
      · have HF : Hid (r = false) := Lib.hid (by rw [← HC.out]; exact HB1.out (by omega))
        go_wp2_with fail
        go_ret
        rw [HF.out]
        exact ⟨fun h => Bool.noConfusion h, fun _ => rfl, HQ.out⟩
      · by_cases h2 : 9 < y
        · have HF : Hid (r = false) := Lib.hid (by rw [← HC.out]; exact HB1.out (by omega))
          go_wp2_with fail
          go_ret
          rw [HF.out]
          exact ⟨fun h => Bool.noConfusion h, fun _ => rfl, HQ.out⟩
        · have HN := Lib.hid ((HO1.out (by omega)).symm.trans HC.out)
          have hcv := Ur.convN wr [48 + y] 1 rfl
          simp only [List.map_cons, List.map_nil] at hcv
          have hss : (strOfNums [48 + y]).size = 1 := strOfNums_size _
          have HTT := Lib.hid (show t ++ strOfNums [48 + y] = strOfNums (Dm.txtL (xs.take (k + 1))) from by rw [HSN1.out, str_snoc, HT.out])
          generalize strOfNums [48 + y] = z at *
          go_wp2_with fail
          exact ⟨⟨k + 1, _, rfl, HTT.out, by go_num, by omega, HN.out, HQ.out.alloc _⟩, by simp [intOf]; omega⟩
    · have hkn : k = n := by omega
      have HF : Hid (r = true) := Lib.hid (by rw [← HC.out]; exact HE.out k (by omega))
      have HT2 := Lib.hid (show t = Dm.txtB xs from by rw [HTA.out, HT.out, hkn])
      clear hkn hts hq
      go_wp2_with fail
      go_ret
      rw [HF.out, HT2.out]
      exact ⟨fun _ => rfl, fun h => Bool.noConfusion h, HQ.out⟩
end Dr
end Go.Proofs.YtagpofhencpliaaGreatDoor
namespace Go.Proofs.YtagpofhencpliaaGreatDoor
open Go.RowKit
namespace Dw
def New (B : Nat) (u : Value) : Prop := ∀ (ad : Addr) (n c : Nat), u = .slice (some ad) n c → n ≠ 0 → B ≤ ad.block
theorem New.here {B : Nat} {g : Nat} (h : B ≤ g) (o n c : Nat) : New B (.slice (some ⟨g, o, none⟩) n c) := fun ad m d e _ => by cases e; exact h
theorem New.nil (B : Nat) (a : Option Addr) (c : Nat) : New B (.slice a 0 c) := fun ad m d e hm => by cases e; exact absurd rfl hm
theorem New.mono {B C : Nat} {u : Value} (h : New B u) (hC : C ≤ B) : New C u := fun ad n c e hn => Nat.le_trans hC (h ad n c e hn)
theorem New.own {w : World} {B : Nat} {v : Value} {zs : List Int} (h : Own w B v zs) : New B v := by
  intro ad n c e hn
  rcases h.2 with ⟨hv, _⟩ | ⟨g, cap, cur, hv, hg, _⟩
  · rw [hv] at e; cases e
  · rw [hv] at e; cases e; exact hg
set_option maxHeartbeats 3200000 in
theorem settle_at (v : Value) (xs : List Int) (w : World) (B T : Nat) (hv : Own w B v xs) (hB : B ≤ w.heap.size) (hl : xs.length < 549755813888) (hb : ∀ x ∈ xs, -100000 ≤ x ∧ x ≤ 100000) (hT : Dm.lsv xs = (T : Int)) :
    Calls Tryz.prog 87 #[v] w fun e w' => ∃ u, e = .returned u ∧ Lst w' u (Dm.dg T) ∧ New B u ∧ Below B w w' := by
  have HR := Lib.hid reverse_any
  have HZ := Lib.hid zeros_any
  obtain ⟨n, hn⟩ : ∃ n, n = xs.length := ⟨_, rfl⟩
  obtain ⟨a, c, rfl, hnc, hcm⟩ := hv.lst.form0 hn.symm
  have HV := Lib.hid hv
  have HT := Lib.hid hT
  have HBD := Lib.hid (fun k (hk : k < n) => (by rw [List.getD_eq_getElem?_getD, List.getElem?_eq_getElem (by omega)]; exact hb _ (List.getElem_mem _) : -100000 ≤ xs.getD k 0 ∧ xs.getD k 0 ≤ 100000))
  have HDC := Lib.hid (fun k (hk : k < n) => Dm.drop_cons xs k (by omega))
  have HDN := Lib.hid (show xs.drop n = [] from List.drop_eq_nil_of_le (by omega))
  have HDL := Lib.hid (show ∀ k, (xs.drop k).length = n - k from fun k => by rw [List.length_drop, hn])
  rw [← hn] at hl
  unfold maxLen at hcm
  clear hv hn hT hb
  go_enter Tryz.func87, Tryz.ntmps87
  go_wp2_with fail
  go_loopw [3, 8] (fun u t wr => ∃ (k : Nat) (ds : List Int) (rest : Int), u = .int .i64 rest ∧ t = .int .i64 k ∧ k ≤ n ∧ ds.length = k ∧ Dm.okD ds ∧ -100000 ≤ rest ∧ rest ≤ 100000 ∧ Own wr B (.slice a n c) (ds ++ xs.drop k) ∧ Dm.lsv ds + 10 ^ k * (rest + Dm.lsv (xs.drop k)) = (T : Int) ∧ Below B w wr) (fun _ t _ => n - (intOf t).toNat)
  case atStart => exact ⟨0, [], 0, rfl, rfl, by omega, rfl, Dm.okD_nil, by omega, by omega, HV.out, by rw [← HT.out]; simp [Dm.lsv_nil], Below.refl _ _⟩
  case round =>
    obtain ⟨k, ds, rest, rfl, rfl, hk, hdl, hok, hr1, hr2, ho, hsum, hbl⟩ := hrel
    have HSUM := Lib.hid hsum
    have HOK := Lib.hid hok
    have HBL := Lib.hid hbl
    have HO := Lib.hid ho
    have HDSL := Lib.hid hdl
    clear hsum hok hbl ho hdl
    by_cases hlt : k < n
    · have hlen : (ds ++ xs.drop k).length = n := by rw [List.length_append, HDSL.out, HDL.out]; omega
      obtain ⟨g, cap, hvv, hg, hgw, _, _⟩ := HO.out.head hlen (by omega)
      cases hvv
      have c1 := HO.out.cellAt hlen hlt
      have f1 := HO.out.freeAt hlen k
      have hgk : (ds ++ xs.drop k).getD k 0 = xs.getD k 0 := by
        rw [HDC.out k hlt, List.getD_eq_getElem?_getD, List.getElem?_append_right (by rw [HDSL.out]; omega), HDSL.out, Nat.sub_self]; rfl
      rw [hgk] at c1
      have hbd := HBD.out k hlt
      have hdc := HDC.out k hlt
      obtain ⟨x, hx⟩ : ∃ x, x = xs.getD k 0 := ⟨_, rfl⟩
      rw [← hx] at c1 hbd hdc
      have hdc2 := congrArg Dm.lsv hdc
      rw [Dm.lsv_cons] at hdc2
      obtain ⟨r, hr⟩ : ∃ r, rest + x = r := ⟨_, rfl⟩
      have hst := Dm.settle_step (10 ^ k) (Dm.lsv ds) rest x (Dm.lsv (xs.drop (k + 1))) T (by rw [← hdc2]; exact HSUM.out)
      rw [hr] at hst
      obtain ⟨e1, e2, e3⟩ := Dm.tmod10 r
      have e4 := Dm.tdiv10 r
      obtain ⟨t, ht⟩ : ∃ t, r.tmod 10 = t := ⟨_, rfl⟩
      rw [ht] at e1 e2 e3
      obtain ⟨d, hd⟩ : ∃ d, r % 10 = d := ⟨_, rfl⟩
      have hd9 : 0 ≤ d ∧ d ≤ 9 := by omega
      obtain ⟨q, hq⟩ : ∃ q, r / 10 = q := ⟨_, rfl⟩
      have hqb : -100000 ≤ q ∧ q ≤ 100000 := by omega
      rw [hd] at e1 e4 hst
      rw [hq] at e4 hst
      have e5 : (t + 10) % 10 = d := by rw [← e1, Int.tmod_eq_emod_of_nonneg (by omega)]
      have hrb : -200000 ≤ r ∧ r ≤ 200000 := by omega
      have hos := HO.out.stored hlen k d
      rw [HDC.out k hlt, Dm.set_next ds _ k _ d HDSL.out] at hos
      have HOS := Lib.hid hos
      have HST := Lib.hid (show Dm.lsv (ds ++ [d]) + 10 ^ (k + 1) * (q + Dm.lsv (xs.drop (k + 1))) = (T : Int) from by rw [Dm.lsv_snoc, HDSL.out, Int.pow_succ]; exact hst)
      have HOK2 := Lib.hid (Dm.okD_snoc HOK.out hd9)
      have HBL2 := Lib.hid (fun a => HBL.out.setCell (p := ⟨g, k, none⟩) hg a)
      have HD2 := Lib.hid (show (ds ++ [d]).length = k + 1 from by rw [List.length_append, HDSL.out]; rfl)
      obtain ⟨hx1, hx2⟩ := hbd
      obtain ⟨hd1, hd2⟩ := hd9
      obtain ⟨hq1, hq2⟩ := hqb
      obtain ⟨hrb1, hrb2⟩ := hrb
      have hs1 : -200000 ≤ rest + x := by omega
      have hs2 : rest + x ≤ 200000 := by omega
      clear hst hos hlen hgk hdc hdc2 hx hd hq
      go_wp2_with fail
      exact ⟨⟨k + 1, _, _, rfl, by go_num, by omega, HD2.out, HOK2.out, hq1, hq2, HOS.out, HST.out, HBL2.out _⟩, by simp [intOf]; omega⟩
    · have hkn : k = n := by omega
      have hsum := HSUM.out
      have ho := HO.out
      rw [hkn, HDN.out, Dm.lsv_nil, Int.add_zero] at hsum
      rw [hkn, HDN.out, List.append_nil] at ho
      have hdl := HDSL.out
      rw [hkn] at hdl
      rw [← hdl] at hsum
      have hrp := Dm.rest_pos ds HOK.out rest T hsum
      have HSUM2 := Lib.hid hsum
      have HO2 := Lib.hid ho
      have HDL2 := Lib.hid hdl
      clear hsum ho hdl hkn
      go_wp2_with fail
      go_loopw [0, 3] (fun v u wr => ∃ (zs : List Int) (rest : Int), u = .int .i64 rest ∧ 0 ≤ rest ∧ rest ≤ 100000 ∧ Own wr B v zs ∧ Dm.okD zs ∧ Dm.lsv zs + 10 ^ zs.length * rest = (T : Int) ∧ (zs.length : Int) + rest ≤ (n : Int) + 100000 ∧ Below B w wr) (fun _ u _ => (intOf u).toNat)
      case atStart => exact ⟨ds, rest, rfl, hrp, hr2, HO2.out, HOK.out, HSUM2.out, by rw [HDL2.out]; omega, HBL.out⟩
      case round =>
        clear HSUM HOK HBL HO HDSL HSUM2 HO2 HDL2 hr1 hr2 hrp
        obtain ⟨zs, rest, rfl, hr1, hr2, ho, hok, hsum, hln, hbl⟩ := hrel
        have HSUM := Lib.hid hsum
        have HOK := Lib.hid hok
        have HBL := Lib.hid hbl
        clear hsum hok hbl
        by_cases hpos : 0 < rest
        · have hBs : B ≤ wr.heap.size := Nat.le_trans hB HBL.out.size
          have hwl : zs.length < 1099511627776 := by omega
          have HST := Lib.hid (show Dm.lsv (zs ++ [rest % 10]) + 10 ^ (zs ++ [rest % 10]).length * (rest / 10) = (T : Int) from by
            rw [Dm.lsv_snoc, List.length_append, show ([rest % 10] : List Int).length = 1 from rfl, Int.pow_succ]
            exact Dm.over_z (10 ^ zs.length) (Dm.lsv zs) rest T HSUM.out)
          have HOK2 := Lib.hid (Dm.okD_snoc (d := rest % 10) HOK.out (by omega))
          have HLN := Lib.hid (show ((zs ++ [rest % 10]).length : Int) + rest / 10 ≤ (n : Int) + 100000 from by rw [List.length_append, show ([rest % 10] : List Int).length = 1 from rfl]; omega)
          go_wp2_with (at_builtin; refine push_int ho rfl _ _ rfl _ (by rfl) (by rfl) hwl hBs ?_)
          intro v2 w2 ho2 hg2 hat2
          have HB2 := Lib.hid (Below.grown HBL.out hg2 hBs (fun g h => (ho.lt g h).1))
          have HO2 := Lib.hid ho2
          clear hg2 hat2 ho ho2
          go_wp2_with fail
          exact ⟨⟨_, rest / 10, rfl, by omega, by omega, HO2.out, HOK2.out, HST.out, HLN.out, HB2.out⟩, by simp [intOf]; omega⟩
        · have hr0 : rest = 0 := by omega
          subst hr0
          have hset := Dm.settled zs HOK.out T HSUM.out
          obtain ⟨m, hm⟩ : ∃ m, m = zs.length := ⟨_, rfl⟩
          have hml : m < 1099511627776 := by omega
          obtain ⟨ad, cp, rfl, hmc, hcm2⟩ := ho.lst.form0 hm.symm
          have hrl : zs.reverse.length = m := by rw [List.length_reverse, hm]
          have hzl := Dm.zer_le zs.reverse
          rw [hrl] at hzl
          unfold maxLen at hcm2
          have HRV := Lib.hid (fun w h => HR.out (.slice ad m cp) zs w B h (by omega))
          have HZZ := Lib.hid (fun w h => HZ.out (.slice ad m cp) zs.reverse w h (by omega))
          generalize Dm.zer zs.reverse = z at *
          generalize zs.reverse = rs at *
          have HO := Lib.hid ho
          have HSE := Lib.hid hset
          have HRL := Lib.hid hrl
          have hzc : (z : Int) ≤ (cp : Int) := by omega
          clear ho hset hrl hm hln
          go_wp2_with fail
          refine (HRV.out _ HO.out).mono ?_
          rintro e w1 ⟨rfl, ho1, hb1⟩
          have HO1 := Lib.hid ho1
          have HNW := Lib.hid (New.own ho1)
          have HB1 := Lib.hid (HBL.out.trans hb1)
          have hrest := ho1.lst.rest HRL.out hzl
          clear ho1 hb1
          go_wp2_with fail
          refine (HZZ.out _ HO1.out.lst).mono ?_
          rintro e w2 ⟨rfl, rfl⟩
          rcases hrest with ⟨g, off, rfl, hlt2, _, _, hr⟩ | ⟨rfl, rfl, he⟩ | ⟨ad2, rfl, rfl, hlt2, _, he⟩
          · have hne : ¬ (cp = z) := by omega
            have hne2 : ¬ (cp - z = 0) := by omega
            have hzm : (z : Int) ≤ (m : Int) := by omega
            rw [← HSE.out] at hr
            have HR2 := Lib.hid hr
            clear hr
            go_wp2_with fail
            go_ret
            exact ⟨_, rfl, HR2.out, fun ad n c e hn => by cases e; exact HNW.out ⟨g, off, none⟩ _ _ rfl (by omega), HB1.out⟩
          · rw [he] at HSE
            cases ad
            all_goals
              go_wp2_with fail
              go_ret
              exact ⟨_, rfl, by rw [HSE.out]; exact .nil _ _ _ (by unfold maxLen; omega) (fun _ => rfl), New.nil _ _ _, HB1.out⟩
          · rw [he] at HSE
            have hne : ¬ (cp = z) := by omega
            have hne2 : ¬ (cp - z = 0) := by omega
            go_wp2_with fail
            go_ret
            exact ⟨_, rfl, by rw [HSE.out]; exact .nil _ _ _ (by unfold maxLen; omega) (fun h => by cases h), New.nil _ _ _, HB1.out⟩
theorem settle_any (v : Value) (xs : List Int) (w : World) (B T : Nat) (hv : Own w B v xs) (hB : B ≤ w.heap.size) (hl : xs.length < 549755813888) (hb : ∀ x ∈ xs, -100000 ≤ x ∧ x ≤ 100000) (hT : Dm.lsv xs = (T : Int)) :
    Calls Tryz.prog 87 #[v] w fun e w' => ∃ u, e = .returned u ∧ Lst w' u (Dm.dg T) ∧ Below B w w' := by
  refine (settle_at v xs w B T hv hB hl hb hT).mono ?_
  rintro e w' ⟨u, h1, h2, _, h3⟩
  exact ⟨u, h1, h2, h3⟩
end Dw
end Go.Proofs.YtagpofhencpliaaGreatDoor
namespace Go.Proofs.YtagpofhencpliaaGreatDoor
namespace Km
theorem scan_ok (l : List UInt8) (ds : List Int) (pt : Bool) (sc ah : Nat) (r : List Int × Bool × Nat × Nat) (h : Dm.scan l ds pt sc ah = some r) (hd : Dm.okD ds) : Dm.okD r.1 ∧ r.1.length ≤ ds.length + l.length := by
  induction l generalizing ds pt sc ah with
  | nil =>
    simp only [Dm.scan, Option.some.injEq] at h
    subst h
    exact ⟨hd, by simp⟩
  | cons c l ih =>
    rw [Dm.scan] at h
    by_cases h1 : c.toNat = 46 ∧ pt = false
    · rw [if_pos h1] at h
      obtain ⟨a, b⟩ := ih _ _ _ _ h hd
      exact ⟨a, by rw [List.length_cons]; omega⟩
    · rw [if_neg h1] at h
      by_cases h2 : 48 ≤ c.toNat ∧ c.toNat ≤ 57
      · rw [if_pos h2] at h
        have hd2 : Dm.okD (ds ++ [(c.toNat : Int) - 48]) := Dm.okD_append.2 ⟨hd, fun x hx => by simp at hx; omega⟩
        by_cases h3 : pt = true
        · rw [if_pos h3] at h
          obtain ⟨a, b⟩ := ih _ _ _ _ h hd2
          exact ⟨a, by rw [List.length_append] at b; simp only [List.length_cons, List.length_nil] at b ⊢; omega⟩
        · rw [if_neg h3] at h
          obtain ⟨a, b⟩ := ih _ _ _ _ h hd2
          exact ⟨a, by rw [List.length_append] at b; simp only [List.length_cons, List.length_nil] at b ⊢; omega⟩
      · rw [if_neg h2] at h
        cases h
theorem prs_ok (l : List UInt8) : Dm.okD (Dm.prs l).2.1 ∧ (Dm.prs l).2.1.length ≤ l.length ∧ (Dm.prs l).2.2.1 ≤ 1000 ∧ 0 ≤ (Dm.prs l).2.2.2 ∧ (Dm.prs l).2.2.2 ≤ 100 := by
  have hb : (Dm.bod l).length ≤ l.length := by
    unfold Dm.bod
    split
    · rw [List.length_drop]; omega
    · exact Nat.le_refl _
  have e : Dm.prs l = (match Dm.scan (Dm.bod l) [] false 0 0 with
    | none => (false, [], 0, 2)
    | some (ds, pt, sc, ah) => if ah = 0 ∨ (pt = true ∧ sc = 0) then (false, [], 0, 2) else if 1000 < sc then (false, [], 0, 3) else (Dm.sgn l, ds, sc, 0)) := rfl
  have h0 : Dm.okD [] := fun x hx => by cases hx
  rw [e]
  cases hs : Dm.scan (Dm.bod l) [] false 0 0 with
  | none => exact ⟨h0, Nat.zero_le _, Nat.zero_le _, by simp, by simp⟩
  | some r =>
    obtain ⟨ds, pt, sc, ah⟩ := r
    obtain ⟨a, b⟩ := scan_ok _ _ _ _ _ _ hs h0
    simp only [List.length_nil, Nat.zero_add] at a b
    simp only
    by_cases h1 : ah = 0 ∨ (pt = true ∧ sc = 0)
    · rw [if_pos h1]; exact ⟨h0, Nat.zero_le _, Nat.zero_le _, by simp, by simp⟩
    · rw [if_neg h1]
      by_cases h2 : 1000 < sc
      · rw [if_pos h2]; exact ⟨h0, Nat.zero_le _, Nat.zero_le _, by simp, by simp⟩
      · rw [if_neg h2]; exact ⟨a, by simp only; omega, by simp only; omega, by simp, by simp⟩
end Km
end Go.Proofs.YtagpofhencpliaaGreatDoor
