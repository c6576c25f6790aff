/- What the document's own Print of decimals comes to, and both where there is no text, by a walk through each. (and more) -/
import Derived.Test.YtagpofhencpliaaGreatDoorR00
import Derived.Test.YtagpofhencpliaaGreatDoorR14
import Derived.Test.YtagpofhencpliaaGreatDoorR08
import Derived.Test.YtagpofhencpliaaGreatDoorR02
import Derived.Test.YtagpofhencpliaaGreatDoorR15
import Derived.Test.YtagpofhencpliaaGreatDoorR20
import Derived.Test.YtagpofhencpliaaGreatDoorR10
import Derived.Test.YtagpofhencpliaaGreatDoorR13
import Derived.Test.YtagpofhencpliaaGreatDoorR06
import Derived.Test.YtagpofhencpliaaGreatDoorR09
import Derived.Test.YtagpofhencpliaaGreatDoorR11
import Derived.Test.YtagpofhencpliaaGreatDoorR17
import Derived.Test.YtagpofhencpliaaGreatDoorR07
import Derived.Test.YtagpofhencpliaaGreatDoorR04
import Derived.Test.YtagpofhencpliaaGreatDoorR03
import Derived.Test.YtagpofhencpliaaGreatDoorRows
import Derived.Deep.QuietTactic
import Derived.Deep.RegionWith
import Derived.Deep.RegionHeld3
import Derived.BigQuiet
import Derived.Laws.ResultCell
set_option linter.unusedVariables false
set_option linter.unusedSimpArgs false
namespace Go.Proofs.YtagpofhencpliaaGreatDoor
open Go.RowKit
namespace Ep
open Er (dv cellV LF LF.of LF.nil LF.mono LF.q LF.put LF.shape LF.lst block_cells some_cells block_set wrapI num_shl okD_shl)
end Ep
namespace Er
def szV (v : Value) : Nat := match v with | .string t => t.size | _ => 0
theorem szV_s (t : ByteArray) : szV (.string t) = t.size := rfl
set_option maxHeartbeats 3200000 in
theorem print_any (g : Bool) (v : Value) (s : Nat) (L : List Int) (w : World) (hv : Lst w v L) (hl : L.length < 10000) (hd : Dm.okD L) (hs : s ≤ 1000) :
    Calls Tryz.prog 18 #[dv g v s] w fun e w' => e = .returned (.string (Dm.prt g L s)) ∧ Q w w' := by
  obtain ⟨a, c, rfl⟩ := hv.shape
  have hok := (Dm.okB_iff L).2 hd
  have MA := Lib.hid (fun u (q : Q w u) => (by
    have e := may_any g (.slice a L.length c) s L u (hv.q q) (by omega) (by omega)
    rw [hok, show decide (0 ≤ (s : Int)) = true from by simp, show decide ((s : Int) ≤ 1000) = true from by simp; omega] at e
    exact e : Calls Tryz.prog 41 #[.agg #[.bool g, .slice a L.length c, .int .i64 s]] u fun e w' => e = .returned (.bool true) ∧ Q u w'))
  have TX := Lib.hid (fun u (q : Q w u) => (by
    have e := Dr.textR _ L u (hv.q q) (by omega)
    rw [Dm.txR_ok hd] at e
    exact e : Calls Tryz.prog 42 #[.slice a L.length c] u fun e w' => e = .returned (.string (Dm.txtB L)) ∧ Q u w'))
  have hwl := Dm.wid_len L s
  have hsz := Dm.txt_size (Dm.wid L s)
  have HPR := Lib.hid (show Dm.prt g L s = if g = true then Dm.minB ++ Dm.ptx (Dm.txtB (Dm.wid L s)) s else Dm.ptx (Dm.txtB (Dm.wid L s)) s from rfl)
  rw [HPR.out]
  clear HPR
  have HT := Lib.hid (show Dm.txtB (Dm.wid L s) = Dm.txtB (List.replicate (s + 1 - L.length) 0 ++ L) from rfl)
  have HSZ := Lib.hid (fun j => Dm.txt_size (List.replicate j 0 ++ L))
  have HNX := Lib.hid (fun j => Dm.txt_nought j L)
  simp only [List.length_append, List.length_replicate] at HSZ
  have HT0 := Lib.hid (show Dm.txtB L = Dm.txtB (List.replicate 0 0 ++ L) from rfl)
  generalize Dm.txtB (Dm.wid L s) = T at *
  obtain ⟨p, hp⟩ : ∃ p, p = (Dm.wid L s).length := ⟨_, rfl⟩
  rw [← hp] at hsz hwl
  clear hp
  have hns := Dm.txt_size L
  generalize L.length = n at *
  have HK := Lib.hid (fun u (q : Q (w.alloc (.cells #[.bool g, .slice a n c, .int .i64 s] 28)) u) => block_cells ((q.block (lt_of_block (heap_alloc_new w _))).trans (heap_alloc_new w _)))
  have hq0 : Q w (w.alloc (.cells #[.bool g, .slice a n c, .int .i64 s] 28)) := (Q.refl w).alloc _
  have HQ0 := Lib.hid hq0
  have hsp : s < p := by omega
  have hp3 : p < 100000 := by omega
  have HWL := Lib.hid hwl
  obtain ⟨t0, ht0⟩ : ∃ t0, t0 = Dm.txtB L := ⟨_, rfl⟩
  rw [← ht0] at TX hns HT0
  clear hq0 hv hok hwl ht0
  have hptx : Dm.ptx T s = if s = 0 then T else T.extract 0 (p - s) ++ Dm.dotB ++ T.extract (p - s) p := by unfold Dm.ptx; rw [hsz]
  have HPTX := Lib.hid hptx
  have HTS := Lib.hid hsz
  clear hptx hsz
  go_enter Tryz.func18, Tryz.ntmps18
  unfold dv
  go_wp2_with fail
  refine (MA.out _ HQ0.out).mono ?_
  rintro e w1 ⟨rfl, hq⟩
  obtain ⟨k0, k1, k2, _, _, _⟩ := HK.out w1 hq
  have HA1 := Lib.hid hq
  clear hq
  go_wp2_with fail
  refine (TX.out _ (HQ0.out.trans HA1.out)).mono ?_
  rintro e w2 ⟨rfl, hq⟩
  have HA2 := Lib.hid (HA1.out.trans hq)
  clear hq k0 k1 k2
  obtain ⟨k0, k1, k2, _, _, _⟩ := HK.out w2 HA2.out
  have HQ2 := Lib.hid (HQ0.out.trans HA2.out)
  go_wp2_with fail
  go_loop [4] (fun x => ∃ (j : Nat) (t : ByteArray), x = .string t ∧ t = Dm.txtB (List.replicate j 0 ++ L) ∧ (j = 0 ∨ j + n ≤ s + 1)) (fun x => s + 1 - szV x)
  case atStart => exact ⟨0, t0, rfl, HT0.out, .inl rfl⟩
  case round =>
    obtain ⟨j, t, rfl, ht, hj⟩ := hrel
    have hts : t.size = j + n := by rw [ht, HSZ.out]
    have HT1 := Lib.hid ht
    clear ht
    by_cases hlt : j + n < s + 1
    · have hi : (j : Int) + (n : Int) < (s : Int) + 1 := by omega
      have HNX1 := Lib.hid (show (⟨#[48]⟩ : ByteArray) ++ t = Dm.txtB (List.replicate (j + 1) 0 ++ L) from by rw [HT1.out]; exact HNX.out j)
      go_wp2_with fail
      exact ⟨⟨j + 1, _, rfl, HNX1.out, by omega⟩, by rw [szV_s, szV_s, ByteArray.size_append, hts]; have h1 : (⟨#[48]⟩ : ByteArray).size = 1 := rfl; omega⟩
    · have hTt : t = T := by
        have := HWL.out
        rw [HT1.out, HT.out]
        rcases hj with h | h
        · subst h; rw [show s + 1 - n = 0 from by omega]
        · rw [show s + 1 - n = j from by omega]
      subst hTt
      have hpj : p = j + n := by rw [← HTS.out, hts]
      have hi : (s : Int) + 1 ≤ (j : Int) + (n : Int) := by omega
      have hptx := HPTX.out
      rcases (show s = 0 ∨ 0 < s from by omega) with hs0 | hs0
      · subst hs0
        rw [if_pos rfl] at hptx
        have HPX := Lib.hid hptx
        clear hptx
        cases g
        all_goals
          go_wp2_with fail
          go_ret
          rw [HPX.out]
          exact ⟨rfl, HQ2.out⟩
      · obtain ⟨q, hq⟩ : ∃ q, q = p - s := ⟨_, rfl⟩
        rw [if_neg (by omega), ← hq] at hptx
        have HPX := Lib.hid hptx
        clear hptx
        have hA1 : (t.extract 0 q).size = q := by rw [ByteArray.size_extract]; omega
        have hB1 : (t.extract q p).size = s := by rw [ByteArray.size_extract]; omega
        rw [← hpj] at hts
        have hi2 : (s : Int) + 1 ≤ (p : Int) := by omega
        clear hi
        have hpi : (p : Int) - (s : Int) = (q : Int) := by omega
        have hqp : (q : Int) ≤ (p : Int) := by omega
        have hsi : (0 : Int) < (s : Int) := by omega
        have hqp2 : q ≤ p := by omega
        have hq2 : q < 100000 := by omega
        obtain ⟨A, heA⟩ : ∃ A, t.extract 0 q = A := ⟨_, rfl⟩
        obtain ⟨Bz, heB⟩ : ∃ B, t.extract q p = B := ⟨_, rfl⟩
        rw [heA, heB] at HPX
        rw [heA] at hA1
        rw [heB] at hB1
        clear hq hpj
        cases g
        all_goals
          go_wp2_with fail
          go_quiet (fail)
          go_wp2_with fail
          go_ret
          rw [HPX.out]
          exact ⟨rfl, HQ2.out.drewN _⟩
end Er
end Go.Proofs.YtagpofhencpliaaGreatDoor
