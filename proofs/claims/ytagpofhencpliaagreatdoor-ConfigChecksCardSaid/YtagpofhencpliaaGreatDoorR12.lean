/- What package digit's Sum comes to, by a walk through it. (and more) -/
import Derived.Test.YtagpofhencpliaaGreatDoorR00
import Derived.Test.YtagpofhencpliaaGreatDoorR02
import Derived.Test.YtagpofhencpliaaGreatDoorR09
import Derived.Test.YtagpofhencpliaaGreatDoorR04
import Derived.Test.YtagpofhencpliaaGreatDoorR11
import Derived.Test.YtagpofhencpliaaGreatDoorR03
import Derived.Test.YtagpofhencpliaaGreatDoorRows
import Derived.Deep.QuietTactic
import Derived.Deep.RegionWith
import Derived.Deep.AppendLies
import Derived.BigQuiet
set_option linter.unusedVariables false
set_option linter.unusedSimpArgs false
namespace Go.Proofs.YtagpofhencpliaaGreatDoor
open Go.RowKit
namespace Dm
def BD (c : Int) (i : Nat) (zs : List Int) : Prop := ∀ j, j < zs.length → 0 ≤ zs.getD j 0 ∧ zs.getD j 0 ≤ c + (if j < i then 9 else 0)
theorem BD.step {c : Int} {i : Nat} {zs : List Int} (h : BD c i zs) (d : Int) (hd : 0 ≤ d ∧ d ≤ 9) (hi : i < zs.length) : BD c (i + 1) (zs.set i (zs.getD i 0 + d)) := by
  intro j hj
  rw [List.length_set] at hj
  rw [getD_set _ _ _ _ hi]
  have h1 := h j hj
  have h2 := h i hi
  by_cases hij : i = j
  · subst hij
    rw [if_pos rfl, if_pos (by omega)]
    rw [if_neg (by omega)] at h2
    omega
  · rw [if_neg hij]
    by_cases hlt : j < i
    · rw [if_pos hlt] at h1
      rw [if_pos (by omega)]; exact h1
    · rw [if_neg hlt] at h1
      rw [if_neg (by omega)]; exact h1
theorem BD.next {c : Int} {i : Nat} {zs : List Int} (h : BD c i zs) : BD (c + 9) 0 zs := by
  intro j hj
  have h1 := h j hj
  rw [if_neg (by omega)]
  by_cases hlt : j < i
  · rw [if_pos hlt] at h1; omega
  · rw [if_neg hlt] at h1; omega
theorem BD.zeros (n : Nat) : BD 0 0 (List.replicate n 0) := by
  intro j hj
  rw [List.getD_eq_getElem?_getD, List.getElem?_replicate]
  rw [List.length_replicate] at hj
  rw [if_pos hj]; simp
theorem BD.mem {c : Int} {zs : List Int} (h : BD c 0 zs) (hc : c ≤ 100000) : ∀ x ∈ zs, -100000 ≤ x ∧ x ≤ 100000 := by
  intro x hx
  obtain ⟨j, hj, rfl⟩ := List.mem_iff_getElem.1 hx
  have h1 := h j hj
  rw [List.getD_eq_getElem?_getD, List.getElem?_eq_getElem hj, if_neg (by omega)] at h1
  simp at h1
  omega
end Dm
namespace Dw
def sumN (ls : List Sl) : Nat := (ls.map fun s => Dm.num s.zs).sum
theorem sumN_take (ls : List Sl) (k : Nat) (s : Sl) (h : ls[k]? = some s) : sumN (ls.take (k + 1)) = sumN (ls.take k) + Dm.num s.zs := by
  have hk := (List.getElem?_eq_some_iff.1 h).1
  rw [List.getElem?_eq_getElem hk] at h
  unfold sumN
  rw [List.take_succ_eq_append_getElem hk, Option.some.inj h, List.map_append, List.sum_append]
  simp
set_option maxHeartbeats 3200000 in
theorem sum_at (v : Value) (ls : List Sl) (w : World) (hv : LL w v ls) (hl : ls.length ≤ 1000) (hls : ∀ s ∈ ls, s.n < 1000000) (hok : okA ls = true) :
    Calls Tryz.prog 80 #[v] w fun e w' => ∃ u, e = .returned (.tuple #[u, .int .i64 0]) ∧ Lst w' u (Dm.dg (sumN ls)) ∧ New w.heap.size u ∧ Q w w' := by
  have h := mayAll_any v ls w hv (by omega) (fun s hs => by have h1 := (hv.2 s hs).2; have h2 := hls s hs; omega)
  rw [hok] at h
  have H := Lib.hid h
  obtain ⟨N, hN⟩ : ∃ N, N = ls.length := ⟨_, rfl⟩
  obtain ⟨a, c, rfl, hnc, hcm⟩ := hv.1.form0 hN.symm
  have HL := Lib.hid (show ∀ k, k < N → ∃ (sa : Option Addr) (sn sc : Nat) (zs : List Int), ls[k]? = some ⟨sa, sn, sc, zs⟩ ∧ Lst w (.slice sa sn sc) zs ∧ zs.length = sn ∧ sn < 1000000 ∧ Dm.okD zs from fun k hk => by
    have hm : ls[k]'(by omega) ∈ ls := List.getElem_mem _
    have h1 := hv.2 _ hm
    have h2 := hls _ hm
    have h3 : Dm.okB (ls[k]'(by omega)).zs = true := List.all_eq_true.1 hok _ hm
    exact ⟨_, _, _, _, List.getElem?_eq_getElem (by omega), h1.1, h1.2, h2, (Dm.okB_iff _).1 h3⟩)
  have hv1 := hv.1
  have HV := Lib.hid (fun k s (h : ls[k]? = some s) => hv1.cellOf (n := N) hN.symm h)
  have HSN := Lib.hid (sumN_take ls)
  have HSE := Lib.hid (show sumN (ls.take N) = sumN ls from by rw [hN, List.take_length])
  have HA := Lib.hid at_any
  have HS := Lib.hid settle_at
  have HZ := Lib.hid Dm.BD.zeros
  rw [← hN] at hl
  unfold maxLen at hcm
  clear h hv hv1 hls hok hN
  go_enter Tryz.func80, Tryz.ntmps80
  go_wp2_with fail
  refine H.out.mono ?_
  rintro e w1 ⟨rfl, rfl⟩
  go_wp2_with fail
  go_loop [4, 16] (fun u t => ∃ k m : Nat, u = .int .i64 m ∧ t = .int .i64 k ∧ k ≤ N ∧ m < 1000000 ∧ ∀ j s, j < k → ls[j]? = some s → s.n ≤ m) (fun _ t => N - (intOf t).toNat)
  case atStart => exact ⟨0, 0, rfl, rfl, by omega, by omega, fun j s hj => absurd hj (by omega)⟩
  case round =>
    obtain ⟨k, m, rfl, rfl, hk, hm, hmx⟩ := hrel
    by_cases hlt : k < N
    · obtain ⟨sa, sn, sc, zs, hs, _, _, hsn, _⟩ := HL.out k hlt
      obtain ⟨g, off, cap, hvv, hg, _, _, c1⟩ := HV.out k _ hs
      cases hvv
      replace c1 : w.cell? ⟨g, off + k, none⟩ = some (.slice sa sn sc) := c1
      by_cases hms : m ≤ sn
      · have HN := Lib.hid (show ∀ j s, j < k + 1 → ls[j]? = some s → s.n ≤ sn from fun j s hj h => by
          by_cases e : j = k
          · subst e; rw [hs] at h; cases h; exact Nat.le_refl _
          · exact Nat.le_trans (hmx j s (by omega) h) hms)
        clear hmx hs
        go_wp2_with fail
        exact ⟨⟨k + 1, sn, by go_num, by go_num, by omega, by omega, HN.out⟩, by simp [intOf]; omega⟩
      · have HN := Lib.hid (show ∀ j s, j < k + 1 → ls[j]? = some s → s.n ≤ m from fun j s hj h => by
          by_cases e : j = k
          · subst e; rw [hs] at h; cases h; show sn ≤ m; omega
          · exact hmx j s (by omega) h)
        clear hmx hs
        go_wp2_with fail
        exact ⟨⟨k + 1, m, by go_num, by go_num, by omega, by omega, HN.out⟩, by simp [intOf]; omega⟩
    · have HMX := Lib.hid (show ∀ j s, ls[j]? = some s → j < N → s.n ≤ m from fun j s h hj => hmx j s (by omega) h)
      clear hmx
      go_wp2_with (at_make; refine make_ints rfl _ _ rfl m _ (by rfl) (by rfl) rfl (by omega) (Nat.le_refl _) ?_)
      intro w2 ho2 hq2 hsz2
      have HO2 := Lib.hid ho2
      have HQ2 := Lib.hid hq2
      obtain ⟨g, hg⟩ : ∃ g, g = w.heap.size := ⟨_, rfl⟩
      have hgB : w.heap.size ≤ g := by omega
      rw [← hg] at HO2 ⊢
      have HG := Lib.hid hg
      clear ho2 hsz2 hq2 hg
      go_wp2_with fail
      go_loopw [29] (fun t wr => ∃ (k : Nat) (zs : List Int), t = .int .i64 k ∧ k ≤ N ∧ zs.length = m ∧ Dm.BD (9 * (k : Int)) 0 zs ∧ Own wr g (.slice (some ⟨g, 0, none⟩) m m) zs ∧ Dm.lsv zs = (sumN (ls.take k) : Int) ∧ Q w wr) (fun t _ => N - (intOf t).toNat)
      case atStart => exact ⟨0, _, rfl, by omega, List.length_replicate, HZ.out m, HO2.out, by rw [Dm.lsv_zeros]; rfl, HQ2.out⟩
      case round =>
        clear HO2 HQ2 hk
        obtain ⟨k, zs, rfl, hk, hzl, hbd, ho, hsum, hq⟩ := hrel
        have HZL := Lib.hid hzl
        have HBD := Lib.hid hbd
        have HO := Lib.hid ho
        have HSUM := Lib.hid hsum
        have HQ := Lib.hid hq
        clear hzl hbd ho hsum hq
        by_cases hlt : k < N
        · obtain ⟨sa, sn, sc, xs, hs, hlst, hxl, hsn, hxd⟩ := HL.out k hlt
          obtain ⟨go, off, cap, hvv, hgo, _, _, c0⟩ := HV.out k _ hs
          cases hvv
          have c1 : wr.cell? ⟨go, off + k, none⟩ = some (.slice sa sn sc) := (World.cell?_of_block (w := w) (HQ.out.block hgo)).trans c0
          have hsm : sn ≤ m := HMX.out k _ hs hlt
          have HSU := Lib.hid (HSN.out k _ hs)
          have HLS := Lib.hid (fun w' (q : Q w w') => hlst.q q)
          have HX := Lib.hid (Dm.last_stepZ xs hxd)
          have HBX := Lib.hid (Dm.dgt_bd xs hxd)
          have HLX := Lib.hid (show Dm.lastN sn xs = xs from Dm.last_all xs sn (by omega))
          have HZX := Lib.hid (Dm.last_zero xs)
          have HXL := Lib.hid hxl
          clear hs c0 hlst hxd hxl
          go_wp2_with fail
          go_loopw [35] (fun t wi => ∃ (i : Nat) (ys : List Int), t = .int .i64 i ∧ i ≤ sn ∧ ys.length = m ∧ Dm.BD (9 * (k : Int)) i ys ∧ Own wi g (.slice (some ⟨g, 0, none⟩) m m) ys ∧ Dm.lsv ys = (sumN (ls.take k) : Int) + (Dm.num (Dm.lastN i xs) : Int) ∧ Q w wi) (fun t _ => sn - (intOf t).toNat)
          case atStart => exact ⟨0, zs, rfl, by omega, HZL.out, HBD.out, HO.out, by rw [HZX.out, HSUM.out]; simp, HQ.out⟩
          case round =>
            clear HZL HBD HO HSUM HQ
            obtain ⟨i, ys, rfl, hi, hyl, hbd, ho, hsum, hq⟩ := hrel
            by_cases hli : i < sn
            · have him : i < m := by omega
              have c2 := ho.cellAt hyl him
              have f2 := ho.freeAt hyl i
              have hbi := hbd i (by omega)
              rw [if_neg (by omega)] at hbi
              have hbs := fun d hd => Dm.BD.step hbd d hd (by omega)
              have hls := fun d => Dm.lsv_set ys i d (by omega)
              have hos := fun e => ho.stored hyl i e
              have hxi := HX.out i
              have hbx := HBX.out i
              have hat := fun u (q : Q wr u) => HA.out (.slice sa sn sc) xs i u (HLS.out _ (hq.trans q)) (by rw [HXL.out]; omega) (by omega)
              generalize Dm.dgt xs i = d at *
              have HP := Lib.hid hat
              have HBS := Lib.hid (hbs d hbx)
              have HSS := Lib.hid (show Dm.lsv (ys.set i (ys.getD i 0 + d)) = (sumN (ls.take k) : Int) + (Dm.num (Dm.lastN (i + 1) xs) : Int) from by rw [hls d, hsum, hxi]; omega)
              have hyl2 : (ys.set i (ys.getD i 0 + d)).length = m := by rw [List.length_set]; exact hyl
              have hos2 := hos (ys.getD i 0 + d)
              generalize ys.getD i 0 = y at *
              have HOS := Lib.hid hos2
              have HYL := Lib.hid hyl2
              have HQS := Lib.hid (fun u => (hq.setCell (ad := ⟨g, i, none⟩) hgB u).drew)
              obtain ⟨hd1, hd2⟩ := hbx
              obtain ⟨hy1, hy2⟩ := hbi
              have hy3 : y + d ≤ 100000 := by omega
              have hy4 : y ≤ 100000 := by omega
              clear hbd ho hsum hq hbs hls hos hxi hat hyl hos2 hyl2 c1 hy2
              go_wp2_with fail
              go_region_with (go_at_call 86; refine (HP.out _ ((Q.refl _).drew)).mono ?_; rintro e w3 ⟨rfl, rfl⟩)
              all_goals go_wp2_with fail
              all_goals exact ⟨⟨i + 1, _, by go_num, by omega, HYL.out, HBS.out, HOS.out.q ((Q.refl _).drew), HSS.out, HQS.out _⟩, by simp [intOf]; omega⟩
            · have his : i = sn := by omega
              rw [his, HLX.out] at hsum
              have HFI := Lib.hid (show Dm.lsv ys = (sumN (ls.take (k + 1)) : Int) from by rw [hsum, HSU.out]; simp)
              have HBI := Lib.hid (show Dm.BD (9 * ((k + 1 : Nat) : Int)) 0 ys from by
                have := hbd.next
                rwa [show 9 * (k : Int) + 9 = 9 * ((k + 1 : Nat) : Int) from by omega] at this)
              have HOI := Lib.hid ho
              have HQI := Lib.hid hq
              have HYI := Lib.hid hyl
              clear hbd ho hsum hq hyl his c1
              go_wp2_with fail
              go_roundw
              case rel => exact ⟨k + 1, ys, by go_num, by omega, HYI.out, HBI.out, HOI.out, HFI.out, HQI.out⟩
              case measure => simp [intOf]; omega
        · have hkn : k = N := by omega
          have hsum := HSUM.out
          rw [hkn, HSE.out] at hsum
          have hs := HS.out (.slice (some ⟨g, 0, none⟩) m m) zs wr g (sumN ls) HO.out (by rw [HG.out]; exact HQ.out.le) (by rw [HZL.out]; omega) (HBD.out.mem (by omega)) hsum
          have HSS := Lib.hid hs
          clear hsum hs hkn
          go_wp2_with fail
          refine HSS.out.mono ?_
          rintro e w3 ⟨u, rfl, hu, hnw, hb3⟩
          have HUU := Lib.hid hu
          have HBB := Lib.hid hb3
          have HNW := Lib.hid hnw
          clear hu hb3 hnw
          go_wp2_with fail
          go_ret2
          rw [HG.out] at HBB HNW
          exact ⟨u, rfl, HUU.out, HNW.out, Below.trans HQ.out HBB.out⟩
end Dw
end Go.Proofs.YtagpofhencpliaaGreatDoor
