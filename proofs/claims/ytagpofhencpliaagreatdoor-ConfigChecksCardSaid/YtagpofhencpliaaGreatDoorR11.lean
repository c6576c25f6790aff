/- Texts and their digits, whether they may be or not: one contract each. (and more) -/
import Derived.Test.YtagpofhencpliaaGreatDoorR00
import Derived.Test.YtagpofhencpliaaGreatDoorR06
import Derived.Test.YtagpofhencpliaaGreatDoorR02
import Derived.Test.YtagpofhencpliaaGreatDoorR09
import Derived.Test.YtagpofhencpliaaGreatDoorR03
import Derived.Test.YtagpofhencpliaaGreatDoorRows
import Derived.Test.YtagpofhencpliaaGreatDoorR04
import Derived.Test.YtagpofhencpliaaGreatDoorR07
import Derived.Deep.QuietTactic
import Derived.Deep.RegionWith
import Derived.BigQuiet
set_option linter.unusedVariables false
set_option linter.unusedSimpArgs false
namespace Go.Proofs.YtagpofhencpliaaGreatDoor
open Go.RowKit
namespace Dm
def txR (xs : List Int) : ByteArray := if okB xs = true then txtB xs else ⟨#[]⟩
theorem txR_ok {xs : List Int} (h : okD xs) : txR xs = txtB xs := if_pos ((okB_iff xs).2 h)
end Dm
namespace Dw
theorem textR (v : Value) (xs : List Int) (w : World) (hv : Lst w v xs) (hl : xs.length < 1000000) :
    Calls Tryz.prog 63 #[v] w fun e w' => e = .returned (.string (Dm.txR xs)) ∧ Q w w' := by
  cases hb : Dm.okB xs
  · refine (text_bad v xs w hv (by omega) hb).mono ?_
    rintro e w' ⟨rfl, rfl⟩
    refine ⟨?_, Q.refl _⟩
    unfold Dm.txR
    rw [if_neg (by rw [hb]; decide)]
  · have hx := (Dm.okB_iff xs).1 hb
    rw [Dm.txR_ok hx]
    exact text_any v xs w hv hl hx
end Dw
namespace Dr
theorem textR (v : Value) (xs : List Int) (w : World) (hv : Lst w v xs) (hl : xs.length < 1000000) :
    Calls Tryz.prog 42 #[v] w fun e w' => e = .returned (.string (Dm.txR xs)) ∧ Q w w' := by
  refine (text_any v xs w hv hl).mono ?_
  rintro e w' ⟨h1, h2, hq⟩
  refine ⟨?_, hq⟩
  unfold Dm.txR
  cases hb : Dm.okB xs
  · rw [if_neg (by decide)]; exact h2 hb
  · rw [if_pos rfl]; exact h1 hb
end Dr
end Go.Proofs.YtagpofhencpliaaGreatDoor
namespace Go.Proofs.YtagpofhencpliaaGreatDoor
open Go.RowKit
namespace Dw
set_option maxHeartbeats 1600000 in
theorem shift_at (va : Value) (xs : List Int) (k : Int) (w : World) (hv : Lst w va xs) (hl : xs.length < 1000000) (hb : Dm.okB xs = true) (hk : -1000 ≤ k ∧ k ≤ 1000) :
    Calls Tryz.prog 83 #[va, .int .i64 k] w fun e w' => ∃ u, e = .returned (.tuple #[u, .int .i64 0]) ∧ Lst w' u (Dm.shl xs k) ∧ New w.heap.size u ∧ Q w w' := by
  have h := may_any va xs w hv (by omega)
  rw [hb] at h
  have H := Lib.hid h
  have hsm := Dm.shl_make xs k
  obtain ⟨n, hn⟩ : ∃ n, n = xs.length := ⟨_, rfl⟩
  obtain ⟨a, c, rfl, hnc, hcm⟩ := hv.form0 hn.symm
  have HV := Lib.hid (fun w' (q : Q w w') => hv.q q)
  rw [← hn] at hl hsm
  obtain ⟨m, hm⟩ : ∃ m, m = ((n : Int) + k).toNat := ⟨_, rfl⟩
  rw [← hm] at hsm
  have HSM := Lib.hid hsm
  have HNL := Lib.hid hn
  unfold maxLen at hcm
  obtain ⟨hk1, hk2⟩ := hk
  clear h hb hv hn hsm
  have hml : m < 1099511627776 := by omega
  rcases (show (0 ≤ (n : Int) + k ∧ (n : Int) + k = (m : Int)) ∨ ((n : Int) + k < 0 ∧ m = 0) from by omega) with ⟨h0, h1⟩ | ⟨h0, h1⟩
  · clear hm
    go_enter Tryz.func83, Tryz.ntmps83
    go_wp2_with fail
    refine H.out.mono ?_
    rintro e w1 ⟨rfl, rfl⟩
    go_wp2_with (at_make; refine make_ints rfl _ _ rfl m _ (by rfl) (by rfl) (by first | rfl | omega) hml (Nat.le_refl _) ?_)
    intro w2 ho2 hq2 hsz2
    have HQ2 := Lib.hid hq2
    have HO2 := Lib.hid ho2
    clear ho2 hq2 hsz2
    go_wp2_with (refine copy_ints HO2.out List.length_replicate (HV.out _ HQ2.out) rfl _ _ rfl (by rfl) (by rfl) ?_)
    intro w3 v3 ho3 hb3
    rw [← HNL.out, ← HSM.out] at ho3
    have HO3 := Lib.hid ho3.lst
    have HNW := Lib.hid (New.own ho3)
    have HB3 := Lib.hid hb3
    clear ho3 hb3
    go_wp2_with fail
    go_ret2
    exact ⟨_, rfl, HO3.out, HNW.out, Below.trans HQ2.out HB3.out⟩
  · subst h1
    clear hm
    go_enter Tryz.func83, Tryz.ntmps83
    go_wp2_with fail
    refine H.out.mono ?_
    rintro e w1 ⟨rfl, rfl⟩
    go_wp2_with (at_make; refine make_ints rfl _ _ rfl 0 _ (by rfl) (by rfl) (by first | rfl | omega) (by omega) (Nat.le_refl _) ?_)
    intro w2 ho2 hq2 hsz2
    have HQ2 := Lib.hid hq2
    have HO2 := Lib.hid ho2
    clear ho2 hq2 hsz2
    have HE := Lib.hid (show Dm.shl xs k = [] from by rw [HSM.out]; simp)
    go_wp2_with (refine copy_ints HO2.out rfl (HV.out _ HQ2.out) rfl _ _ rfl (by rfl) (by rfl) ?_)
    intro w3 v3 ho3 hb3
    have HO3 := Lib.hid ho3.lst
    have HNW := Lib.hid (New.own ho3)
    have HB3 := Lib.hid hb3
    clear ho3 hb3
    go_wp2_with fail
    go_ret2
    exact ⟨_, rfl, by rw [HE.out]; simpa using HO3.out, HNW.out, Below.trans HQ2.out HB3.out⟩
theorem shift_any (va : Value) (xs : List Int) (k : Int) (w : World) (hv : Lst w va xs) (hl : xs.length < 1000000) (hb : Dm.okB xs = true) (hk : -1000 ≤ k ∧ k ≤ 1000) :
    Calls Tryz.prog 83 #[va, .int .i64 k] w fun e w' => ∃ u, e = .returned (.tuple #[u, .int .i64 0]) ∧ Lst w' u (Dm.shl xs k) ∧ Q w w' := by
  refine (shift_at va xs k w hv hl hb hk).mono ?_
  rintro e w' ⟨u, h1, h2, _, h3⟩
  exact ⟨u, h1, h2, h3⟩
end Dw
end Go.Proofs.YtagpofhencpliaaGreatDoor
namespace Go.Proofs.YtagpofhencpliaaGreatDoor
open Go.RowKit
namespace Dw
def okA (ls : List Sl) : Bool := ls.all fun s => Dm.okB s.zs
theorem okA_bad (ls : List Sl) (k : Nat) (s : Sl) (h : ls[k]? = some s) (hb : Dm.okB s.zs = false) : okA (ls.drop k) = false := by
  have hk := (List.getElem?_eq_some_iff.1 h).1
  rw [List.getElem?_eq_getElem hk] at h
  rw [List.drop_eq_getElem_cons hk, Option.some.inj h]
  simp [okA, hb]
theorem okA_on (ls : List Sl) (k : Nat) (s : Sl) (h : ls[k]? = some s) (hb : Dm.okB s.zs = true) : okA (ls.drop k) = okA (ls.drop (k + 1)) := by
  have hk := (List.getElem?_eq_some_iff.1 h).1
  rw [List.getElem?_eq_getElem hk] at h
  rw [List.drop_eq_getElem_cons hk, Option.some.inj h]
  simp [okA, hb]
set_option maxHeartbeats 800000 in
theorem mayAll_any (v : Value) (ls : List Sl) (w : World) (hv : LL w v ls) (hl : ls.length < 1099511627776) (hls : ∀ s ∈ ls, s.zs.length < 1099511627776) :
    Calls Tryz.prog 88 #[v] w fun e w' => e = .returned (.bool (okA ls)) ∧ w = w' := by
  obtain ⟨a, c, rfl⟩ := hv.1.shape
  obtain ⟨n, hn⟩ : ∃ n, n = ls.length := ⟨_, rfl⟩
  obtain ⟨r, hr⟩ : ∃ r, r = okA ls := ⟨_, rfl⟩
  rw [← hr]
  have HB := Lib.hid (okA_bad ls)
  have HO := Lib.hid (okA_on ls)
  have HE := Lib.hid (show ∀ k, n ≤ k → okA (ls.drop k) = true from fun k hk => by rw [List.drop_eq_nil_of_le (by omega)]; rfl)
  have HR := Lib.hid hr
  have HL := Lib.hid (show ∀ k, k < n → ∃ s, ls[k]? = some s ∧ s.ok w ∧ s.zs.length < 1099511627776 from fun k hk => ⟨_, List.getElem?_eq_getElem (by omega), hv.2 _ (List.getElem_mem _), hls _ (List.getElem_mem _)⟩)
  have hv1 := hv.1
  rw [← hn] at hv1 hl ⊢
  have HV := Lib.hid (fun k s (h : ls[k]? = some s) => hv1.cellOf (n := n) hn.symm h)
  have HM := Lib.hid may_any
  clear hv hv1 hn hr hls
  go_enter Tryz.func88, Tryz.ntmps88
  go_wp2_with fail
  go_loop [7] (fun i => ∃ k : Nat, i = .int .i64 k ∧ k ≤ n ∧ okA (ls.drop k) = r) (fun i => n - (intOf i).toNat)
  case atStart => exact ⟨0, rfl, by omega, by rw [HR.out]; rfl⟩
  case round =>
    obtain ⟨k, rfl, hk, hc⟩ := hrel
    have HC := Lib.hid hc
    clear hc
    by_cases hlt : k < n
    · obtain ⟨s, hs, hso, hsl⟩ := HL.out k hlt
      obtain ⟨g, off, cap, hvv, hg, _, _, c1⟩ := HV.out k s hs
      cases hvv
      have hm := fun w h => HM.out s.v s.zs w h hsl
      have hb := HB.out k s hs
      have ho := HO.out k s hs
      cases hbb : Dm.okB s.zs
      · rw [hbb] at hm
        have HM2 := Lib.hid hm
        have HF : Hid (r = false) := Lib.hid (by rw [← HC.out]; exact hb hbb)
        have HSO := Lib.hid hso.1
        clear hm hb ho hbb hso hs
        generalize s.v = sv at *
        go_wp2_with fail
        refine (HM2.out _ HSO.out).mono ?_
        rintro e w1 ⟨rfl, rfl⟩
        go_wp2_with fail
        go_ret
        rw [HF.out]
        exact ⟨rfl, rfl⟩
      · rw [hbb] at hm
        have HM2 := Lib.hid hm
        have HN := Lib.hid ((ho hbb).symm.trans HC.out)
        have HSO := Lib.hid hso.1
        clear hm hb ho hbb hso hs
        generalize s.v = sv at *
        go_wp2_with fail
        refine (HM2.out _ HSO.out).mono ?_
        rintro e w1 ⟨rfl, rfl⟩
        go_wp2_with fail
        exact ⟨⟨k + 1, by go_num, by omega, HN.out⟩, by simp [intOf]; omega⟩
    · have HF : Hid (r = true) := Lib.hid (by rw [← HC.out]; exact HE.out k (by omega))
      go_wp2_with fail
      go_ret
      rw [HF.out]
      exact ⟨rfl, rfl⟩
theorem two_ll {w : World} {va vb : Value} {xs ys : List Int} (ha : Lst w va xs) (hb : Lst w vb ys) :
    ∃ s t : Sl, va = s.v ∧ vb = t.v ∧ s.zs = xs ∧ t.zs = ys ∧ LL (w.alloc (.cells #[va, vb] 26)) (.slice (some ⟨w.heap.size, 0, none⟩) 2 2) [s, t] := by
  obtain ⟨s, rfl, rfl, hs⟩ := ha.sl
  obtain ⟨t, rfl, rfl, ht⟩ := hb.sl
  refine ⟨s, t, rfl, rfl, rfl, rfl, GLst.made Sl.v 26 w [s, t] 2 rfl (by unfold maxLen; omega), ?_⟩
  intro u hu
  have hq : Q w (w.alloc (.cells #[s.v, t.v] 26)) := (Q.refl w).alloc _
  rcases List.mem_cons.1 hu with rfl | hu
  · exact hs.q hq
  · rcases List.mem_cons.1 hu with rfl | hu
    · exact ht.q hq
    · cases hu
theorem two_may {w : World} {va vb : Value} {xs ys : List Int} (ha : Lst w va xs) (hb : Lst w vb ys) (hl : xs.length < 1099511627776) (hl2 : ys.length < 1099511627776) :
    Calls Tryz.prog 88 #[.slice (some ⟨w.heap.size, 0, none⟩) 2 2] (w.alloc (.cells #[va, vb] 26)) fun e w' => e = .returned (.bool (Dm.okB xs && Dm.okB ys)) ∧ w.alloc (.cells #[va, vb] 26) = w' := by
  obtain ⟨s, t, rfl, rfl, rfl, rfl, hll⟩ := two_ll ha hb
  have h := mayAll_any _ _ _ hll (by show 2 < 1099511627776; omega) (by
    intro u hu
    rcases List.mem_cons.1 hu with rfl | hu
    · exact hl
    · rcases List.mem_cons.1 hu with rfl | hu
      · exact hl2
      · cases hu)
  have e : okA [s, t] = (Dm.okB s.zs && Dm.okB t.zs) := by simp [okA]
  rw [e] at h
  exact h
set_option maxHeartbeats 1600000 in
theorem sub_any (va vb : Value) (xs ys : List Int) (w : World) (hv : Lst w va xs) (hu : Lst w vb ys) (hl : xs.length < 1000000) (hl2 : ys.length < 1000000) (hx : Dm.okD xs) (hy : Dm.okD ys) (hge : Dm.num ys ≤ Dm.num xs) :
    Calls Tryz.prog 81 #[va, vb] w fun e w' => ∃ u, e = .returned (.tuple #[u, .int .i64 0]) ∧ Lst w' u (Dm.dg (Dm.num xs - Dm.num ys)) ∧ Q w w' := by
  have h := two_may hv hu (by omega) (by omega)
  rw [(Dm.okB_iff xs).2 hx, (Dm.okB_iff ys).2 hy] at h
  have hc := fun w h1 h2 => compare_any va vb xs ys w h1 h2 (by omega) (by omega) hx hy
  have hcn : ¬ Dm.cmpZ (Dm.num xs) (Dm.num ys) < 0 := by rw [Dm.cmpZ_neg1]; omega
  generalize Dm.cmpZ (Dm.num xs) (Dm.num ys) = cc at *
  have H := Lib.hid h
  have HC := Lib.hid hc
  have HV := Lib.hid (fun w' (q : Q w w') => hv.q q)
  have HU := Lib.hid (fun w' (q : Q w w') => hu.q q)
  have HA := Lib.hid (fun k w h (hk : k < 1000000) => at_any va xs k w h (by omega) (by omega))
  have HA2 := Lib.hid (fun k w h (hk : k < 1000000) => at_any vb ys k w h (by omega) (by omega))
  have HS := Lib.hid (settle_any)
  have HX := Lib.hid (Dm.last_stepZ xs hx)
  have HY := Lib.hid (Dm.last_stepZ ys hy)
  have HBX := Lib.hid (Dm.dgt_bd xs hx)
  have HBY := Lib.hid (Dm.dgt_bd ys hy)
  have HLX := Lib.hid (Dm.last_all xs)
  have hlast := Dm.last_whole ys xs.length (by have := Dm.num_lt xs hx; omega)
  have HLY := Lib.hid hlast
  have HZX := Lib.hid (Dm.last_zero xs)
  have HZY := Lib.hid (Dm.last_zero ys)
  have HGE := Lib.hid hge
  obtain ⟨n, hn⟩ : ∃ n, n = xs.length := ⟨_, rfl⟩
  obtain ⟨m, hm⟩ : ∃ m, m = ys.length := ⟨_, rfl⟩
  obtain ⟨a, c, rfl, hnc, hcm⟩ := hv.form0 hn.symm
  obtain ⟨b, d, rfl, hmd, hdm⟩ := hu.form0 hm.symm
  rw [← hn] at hl HLX HLY
  unfold maxLen at hcm hdm
  clear h hc hv hu hx hy hge hlast hn hm
  go_enter Tryz.func81, Tryz.ntmps81
  go_wp2_with fail
  refine H.out.mono ?_
  rintro e w1 ⟨rfl, rfl⟩
  go_wp2_with fail
  refine (HC.out _ (HV.out _ ((Q.refl w).alloc _)) (HU.out _ ((Q.refl w).alloc _))).mono ?_
  rintro e w1 ⟨rfl, hq⟩
  have hq1 := ((Q.refl w).alloc _).trans hq
  clear hq
  go_wp2_with (at_make; refine make_ints rfl _ _ rfl n _ (by rfl) (by rfl) rfl (by omega) hq1.le ?_)
  intro w2 ho2 hqq2 hsz2
  have hq2 := hq1.trans hqq2
  have HO2 := Lib.hid ho2
  have HQ2 := Lib.hid hq2
  have hgB : w.heap.size ≤ w1.heap.size := hq1.le
  generalize w1.heap.size = g at *
  clear ho2 hqq2 hsz2 hq2 hq1
  go_wp2_with fail
  go_loopw [22] (fun t wr => ∃ (k : Nat) (ds : List Int), t = .int .i64 k ∧ k ≤ n ∧ ds.length = k ∧ (∀ x ∈ ds, -100000 ≤ x ∧ x ≤ 100000) ∧ Own wr w.heap.size (.slice (some ⟨g, 0, none⟩) n n) (ds ++ List.replicate (n - k) 0) ∧ Dm.lsv ds = (Dm.num (Dm.lastN k xs) : Int) - (Dm.num (Dm.lastN k ys) : Int) ∧ Q w wr) (fun t _ => n - (intOf t).toNat)
  case atStart => exact ⟨0, [], rfl, by omega, rfl, by simp, HO2.out, by rw [HZX.out, HZY.out]; rfl, HQ2.out⟩
  case round =>
    obtain ⟨k, ds, rfl, hk, hdl, hbd, ho, hsum, hq⟩ := hrel
    have HDL := Lib.hid hdl
    have HBD := Lib.hid hbd
    have HO := Lib.hid ho
    have HSUM := Lib.hid hsum
    clear hdl hbd ho hsum
    by_cases hlt : k < n
    · have hlen : (ds ++ List.replicate (n - k) 0).length = n := by rw [List.length_append, HDL.out, List.length_replicate]; omega
      have c1 := HO.out.cellAt hlen hlt
      have f1 := HO.out.freeAt hlen k
      generalize (ds ++ List.replicate (n - k) 0).getD k 0 = c0 at c1
      have ha := HA.out k wr (HV.out _ hq) (by omega)
      have ha2 := HA2.out k wr (HU.out _ hq) (by omega)
      have hbx := HBX.out k
      have hby := HBY.out k
      have hx := HX.out k
      have hy := HY.out k
      have hos := fun e => HO.out.stored hlen k e
      generalize Dm.dgt xs k = p at *
      generalize Dm.dgt ys k = q at *
      have HP := Lib.hid ha
      have HP2 := Lib.hid ha2
      have hos2 := hos (p - q)
      rw [Dm.set_zeros ds n k _ HDL.out hlt] at hos2
      have HOS := Lib.hid hos2
      have HSU := Lib.hid (show Dm.lsv (ds ++ [p - q]) = (Dm.num (Dm.lastN (k + 1) xs) : Int) - (Dm.num (Dm.lastN (k + 1) ys) : Int) from by
        rw [Dm.lsv_snoc, HSUM.out, HDL.out, hx, hy, Int.mul_sub, Int.mul_comm p, Int.mul_comm q]; omega)
      have HBD2 := Lib.hid (show ∀ x ∈ ds ++ [p - q], -100000 ≤ x ∧ x ≤ 100000 from by
        intro x hx
        rcases List.mem_append.1 hx with h | h
        · exact HBD.out x h
        · rw [List.mem_singleton] at h; omega)
      have HD2 := Lib.hid (show (ds ++ [p - q]).length = k + 1 from by rw [List.length_append, HDL.out]; rfl)
      have HQS := Lib.hid (fun u => hq.setCell (ad := ⟨g, k, none⟩) hgB u)
      obtain ⟨hp1, hp2⟩ := hbx
      obtain ⟨hq1, hq2⟩ := hby
      clear ha ha2 hx hy hos hos2 hlen
      go_wp2_with fail
      refine HP.out.mono ?_
      rintro e w3 ⟨rfl, rfl⟩
      go_wp2_with fail
      refine HP2.out.mono ?_
      rintro e w3 ⟨rfl, rfl⟩
      go_wp2_with fail
      exact ⟨⟨k + 1, _, by go_num, by omega, HD2.out, HBD2.out, HOS.out, HSU.out, HQS.out _⟩, by simp [intOf]; omega⟩
    · have hkn : k = n := by omega
      have ho := HO.out
      have hsum := HSUM.out
      rw [hkn, Nat.sub_self, List.replicate_zero, List.append_nil] at ho
      rw [hkn, HLX.out n (by omega), HLY.out] at hsum
      have hs := HS.out (.slice (some ⟨g, 0, none⟩) n n) ds wr w.heap.size (Dm.num xs - Dm.num ys) ho hq.le (by rw [HDL.out]; omega) HBD.out (by rw [hsum]; have := HGE.out; omega)
      have HSS := Lib.hid hs
      have HQR := Lib.hid hq
      clear ho hsum hs hkn hq
      go_wp2_with fail
      refine HSS.out.mono ?_
      rintro e w3 ⟨u, rfl, hu, hb3⟩
      have HUU := Lib.hid hu
      have HBB := Lib.hid hb3
      clear hu hb3
      go_wp2_with fail
      go_ret2
      exact ⟨u, rfl, HUU.out, Below.trans HQR.out HBB.out⟩
set_option maxHeartbeats 1600000 in
theorem times_any (va : Value) (xs : List Int) (y : Nat) (w : World) (hv : Lst w va xs) (hl : xs.length < 1000000) (hx : Dm.okD xs) (hy : y ≤ 1000) :
    Calls Tryz.prog 79 #[va, .int .i64 y] w fun e w' => ∃ u, e = .returned (.tuple #[u, .int .i64 0]) ∧ Lst w' u (Dm.dg (Dm.num xs * y)) ∧ Q w w' := by
  have h := may_any va xs w hv (by omega)
  rw [(Dm.okB_iff xs).2 hx] at h
  have H := Lib.hid h
  have HV := Lib.hid (fun w' (q : Q w w') => hv.q q)
  have HA := Lib.hid (fun k w h (hk : k < 1000000) => at_any va xs k w h (by omega) (by omega))
  have HS := Lib.hid (settle_any)
  have HX := Lib.hid (Dm.last_stepZ xs hx)
  have HBX := Lib.hid (Dm.dgt_bd xs hx)
  have HLX := Lib.hid (Dm.last_all xs)
  have HZX := Lib.hid (Dm.last_zero xs)
  obtain ⟨n, hn⟩ : ∃ n, n = xs.length := ⟨_, rfl⟩
  obtain ⟨a, c, rfl, hnc, hcm⟩ := hv.form0 hn.symm
  rw [← hn] at hl HLX
  unfold maxLen at hcm
  have hy0 : ¬ (y : Int) < 0 := by omega
  have hy1 : ¬ 1000 < (y : Int) := by omega
  clear h hv hx hn
  go_enter Tryz.func79, Tryz.ntmps79
  go_wp2_with fail
  refine H.out.mono ?_
  rintro e w1 ⟨rfl, rfl⟩
  go_wp2_with (at_make; refine make_ints rfl _ _ rfl n _ (by rfl) (by rfl) rfl (by omega) (Nat.le_refl _) ?_)
  intro w2 ho2 hq2 hsz2
  have HO2 := Lib.hid ho2
  have HQ2 := Lib.hid hq2
  obtain ⟨g, hg⟩ : ∃ g, g = w.heap.size := ⟨_, rfl⟩
  have hgB : w.heap.size ≤ g := by omega
  rw [← hg] at HO2 ⊢
  clear ho2 hsz2 hq2
  go_wp2_with fail
  go_loopw [22] (fun t wr => ∃ (k : Nat) (ds : List Int), t = .int .i64 k ∧ k ≤ n ∧ ds.length = k ∧ (∀ x ∈ ds, -100000 ≤ x ∧ x ≤ 100000) ∧ Own wr g (.slice (some ⟨g, 0, none⟩) n n) (ds ++ List.replicate (n - k) 0) ∧ Dm.lsv ds = (Dm.num (Dm.lastN k xs) : Int) * y ∧ Q w wr) (fun t _ => n - (intOf t).toNat)
  case atStart => exact ⟨0, [], rfl, by omega, rfl, by simp, HO2.out, by rw [HZX.out]; simp [Dm.lsv_nil], HQ2.out⟩
  case round =>
    obtain ⟨k, ds, rfl, hk, hdl, hbd, ho, hsum, hq⟩ := hrel
    have HDL := Lib.hid hdl
    have HBD := Lib.hid hbd
    have HO := Lib.hid ho
    have HSUM := Lib.hid hsum
    clear hdl hbd ho hsum
    by_cases hlt : k < n
    · have hlen : (ds ++ List.replicate (n - k) 0).length = n := by rw [List.length_append, HDL.out, List.length_replicate]; omega
      have c1 := HO.out.cellAt hlen hlt
      have f1 := HO.out.freeAt hlen k
      generalize (ds ++ List.replicate (n - k) 0).getD k 0 = c0 at c1
      have ha := HA.out k wr (HV.out _ hq) (by omega)
      have hbx := HBX.out k
      have hx := HX.out k
      have hos := fun e => HO.out.stored hlen k e
      generalize Dm.dgt xs k = p at *
      have HP := Lib.hid ha
      have hos2 := hos (p * y)
      rw [Dm.set_zeros ds n k _ HDL.out hlt] at hos2
      have HOS := Lib.hid hos2
      have HSU := Lib.hid (show Dm.lsv (ds ++ [p * y]) = (Dm.num (Dm.lastN (k + 1) xs) : Int) * y from by
        rw [Dm.lsv_snoc, HSUM.out, HDL.out, hx, Int.add_mul, Int.mul_assoc p, Int.mul_comm (10 ^ k) (y : Int), ← Int.mul_assoc p, Int.mul_comm (10 ^ k) (p * y)]; omega)
      have hpy1 : 0 ≤ p * (y : Int) := Int.mul_nonneg hbx.1 (by omega)
      have hpy2 : p * (y : Int) ≤ 9 * 1000 := Int.mul_le_mul hbx.2 (by omega) (by omega) (by omega)
      have HBD2 := Lib.hid (show ∀ x ∈ ds ++ [p * y], -100000 ≤ x ∧ x ≤ 100000 from by
        intro x hx
        rcases List.mem_append.1 hx with h | h
        · exact HBD.out x h
        · rw [List.mem_singleton] at h; omega)
      have HD2 := Lib.hid (show (ds ++ [p * y]).length = k + 1 from by rw [List.length_append, HDL.out]; rfl)
      have HQS := Lib.hid (fun u => hq.setCell (ad := ⟨g, k, none⟩) hgB u)
      obtain ⟨hp1, hp2⟩ := hbx
      clear ha hx hos hos2 hlen hg
      go_wp2_with fail
      refine HP.out.mono ?_
      rintro e w3 ⟨rfl, rfl⟩
      go_wp2_with fail
      exact ⟨⟨k + 1, _, by go_num, by omega, HD2.out, HBD2.out, HOS.out, HSU.out, HQS.out _⟩, by simp [intOf]; omega⟩
    · have hkn : k = n := by omega
      have ho := HO.out
      have hsum := HSUM.out
      rw [hkn, Nat.sub_self, List.replicate_zero, List.append_nil] at ho
      rw [hkn, HLX.out n (by omega)] at hsum
      have hs := HS.out (.slice (some ⟨g, 0, none⟩) n n) ds wr g (Dm.num xs * y) ho (by rw [hg]; exact hq.le) (by rw [HDL.out]; omega) HBD.out (by rw [hsum]; simp)
      have HSS := Lib.hid hs
      have HQR := Lib.hid hq
      have HG := Lib.hid hg
      clear ho hsum hs hkn hq hg
      go_wp2_with fail
      refine HSS.out.mono ?_
      rintro e w3 ⟨u, rfl, hu, hb3⟩
      have HUU := Lib.hid hu
      have HBB := Lib.hid hb3
      clear hu hb3
      go_wp2_with fail
      go_ret2
      rw [HG.out] at HBB
      exact ⟨u, rfl, HUU.out, Below.trans HQR.out HBB.out⟩
end Dw
end Go.Proofs.YtagpofhencpliaaGreatDoor
