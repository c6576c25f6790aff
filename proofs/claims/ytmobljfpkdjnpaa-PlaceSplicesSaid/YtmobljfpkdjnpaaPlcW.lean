/- What a map answers, each of its calls. -/
import Derived.Test.YtmobljfpkdjnpaaRows
import Derived.Test.YtmobljfpkdjnpaaInts
import Derived.Test.YtmobljfpkdjnpaaEls
import Derived.Test.YtmobljfpkdjnpaaPlcM
import Derived.Test.YtmobljfpkdjnpaaUtfW
import Derived.Test.YtmobljfpkdjnpaaClsP
import Derived.Test.YtmobljfpkdjnpaaCluS
import Derived.Test.YtmobljfpkdjnpaaCluP
import Derived.Test.YtmobljfpkdjnpaaShelfN
import Derived.Test.YtmobljfpkdjnpaaJoinS
set_option linter.unusedVariables false
set_option linter.unusedSimpArgs false
namespace Go.Proofs.Ytmobljfpkdjnpaa
open Go.RowKit Um Cm Gm Pm

/-- In block b lies the map of s. -/
def Mp (w : World) (b : Nat) (s : ByteArray) : Prop :=
  b < w.heap.size ∧ ∃ v u, w.cell? ⟨b, 0, none⟩ = some (.string s) ∧ w.cell? ⟨b, 1, none⟩ = some v ∧ w.cell? ⟨b, 2, none⟩ = some u ∧ SLst w v (pcs s) ∧ Lst w u (stL1 s.data.toList)
theorem Mp.q {w w' : World} {b : Nat} {s : ByteArray} (h : Mp w b s) (hq : Q w w') : Mp w' b s := by
  obtain ⟨hb, v, u, h0, h1, h2, hv, hu⟩ := h
  have hc : ∀ o, w'.cell? ⟨b, o, none⟩ = w.cell? ⟨b, o, none⟩ := fun o => World.cell?_of_block (w := w) (hq.block hb)
  exact ⟨Nat.lt_of_lt_of_le hb hq.le, v, u, (hc 0).trans h0, (hc 1).trans h1, (hc 2).trans h2, hv.q hq, hu.q hq⟩
/-- How many clusters a text has. -/
def nC (s : ByteArray) : Nat := (begL s.data.toList).length
theorem nC_le (s : ByteArray) : nC s ≤ s.size := by
  have := begL_length s.data.toList
  rw [size_list] at this
  exact this
theorem pcs_nC (s : ByteArray) : (pcs s).length = nC s := pcs_length s
theorem st_nC (s : ByteArray) : (stL1 s.data.toList).length = nC s + 1 := stL1_length _

set_option maxHeartbeats 800000 in
theorem mnew_any (s : ByteArray) (w : World) (hs : s.size ≤ 1073741824) :
    Calls Try.prog 28 #[.string s] w fun e w' => ∃ b, e = .returned (.pointer (some ⟨b, 0, none⟩)) ∧ Mp w' b s ∧ Q w w' := by
  have HP := Lib.hid (fun w => csplit_any s w hs)
  have hst := fun w => cstarts_any s w hs
  have e1 : begL s.data.toList ++ [(s.size : Int)] = stL1 s.data.toList := by unfold stL1; rw [size_list]
  rw [e1] at hst
  have HS := Lib.hid hst
  clear hst e1
  go_enter Try.func28, Try.ntmps28
  go_wp2_with fail
  refine (HP.out _).mono ?_
  rintro e w1 ⟨v, rfl, hv, hq1⟩
  go_wp2_with fail
  refine (HS.out _).mono ?_
  rintro e w2 ⟨u, rfl, hu, hq2⟩
  have hq := hq1.trans hq2
  have hv2 := hv.lst.q hq2
  have hu2 := hu.lst
  obtain ⟨va, vc, hve⟩ := hv2.shape
  obtain ⟨ua, uc, hue⟩ := hu2.shape
  generalize (pcs s).length = vn at hve
  generalize (stL1 s.data.toList).length = un at hue
  subst hve
  subst hue
  go_wp2_with fail
  go_ret
  refine ⟨_, rfl, ⟨by simp, _, _, ?_, ?_, ?_, hv2.q ((Q.refl _).alloc _), hu2.q ((Q.refl _).alloc _)⟩, hq.alloc _⟩
  all_goals (rw [World.cell?_alloc_at _ _ _ _ rfl]; rfl)

theorem mtext_any (b : Nat) (s : ByteArray) (w : World) (h : Mp w b s) :
    Calls Try.prog 25 #[.pointer (some ⟨b, 0, none⟩)] w fun e w' => e = .returned (.string s) ∧ w = w' := by
  obtain ⟨hb, v, u, h0, h1, h2, hv, hu⟩ := h
  go_enter Try.func25, Try.ntmps25
  go_wp2_with fail
  go_ret
  exact ⟨rfl, rfl⟩
theorem mlen_any (b : Nat) (s : ByteArray) (w : World) (h : Mp w b s) :
    Calls Try.prog 26 #[.pointer (some ⟨b, 0, none⟩)] w fun e w' => e = .returned (.int .i64 (nC s)) ∧ w = w' := by
  obtain ⟨hb, v, u, h0, h1, h2, hv, hu⟩ := h
  obtain ⟨a, c, rfl, _, _⟩ := hv.form0 (pcs_nC s)
  go_enter Try.func26, Try.ntmps26
  go_wp2_with fail
  go_ret
  exact ⟨rfl, rfl⟩
/-- A number's offset; 0: there is none. -/
def offZ (s : ByteArray) (i : Int) : Int := if 0 ≤ i ∧ i ≤ (nC s : Int) then (stL1 s.data.toList).getD i.toNat 0 else 0

set_option maxHeartbeats 800000 in
theorem moff_any (b : Nat) (s : ByteArray) (i : Int) (w : World) (h : Mp w b s) :
    Calls Try.prog 10 #[.pointer (some ⟨b, 0, none⟩), .int .i64 i] w fun e w' => e = .returned (.tuple #[.int .i64 (offZ s i), .bool (decide (0 ≤ i ∧ i ≤ (nC s : Int)))]) ∧ w = w' := by
  have HL := Lib.hid (fun w h => mlen_any b s w h)
  have HM := Lib.hid h
  by_cases hin : 0 ≤ i ∧ i ≤ (nC s : Int)
  · have HR := Lib.hid (show offZ s i = (stL1 s.data.toList).getD i.toNat 0 from if_pos hin)
    have HD := Lib.hid (decide_eq_true hin)
    obtain ⟨hi0, hi1⟩ := hin
    obtain ⟨k, rfl⟩ : ∃ k : Nat, i = k := ⟨i.toNat, by omega⟩
    obtain ⟨hb, v, u, h0, h1, h2, hv, hu⟩ := h
    obtain ⟨g, off, cap, rfl, hg, _, _, c1⟩ := hu.cellOf (st_nC s) (k := k) (by omega)
    generalize hn : nC s = n at *
    have hlt : (k : Int) < (n : Int) + 1 := by omega
    have hng : ¬ (n : Int) < (k : Int) := by omega
    rw [Int.toNat_natCast] at HR
    clear hv hn
    go_enter Try.func10, Try.ntmps10
    go_wp2_with fail
    refine (HL.out _ HM.out).mono ?_
    rintro e w1 ⟨rfl, rfl⟩
    go_wp2_with fail
    go_ret2
    rw [HR.out, HD.out]
    exact ⟨rfl, rfl⟩
  · have HR := Lib.hid (show offZ s i = 0 from if_neg hin)
    have HD := Lib.hid (decide_eq_false hin)
    by_cases hi0 : i < 0
    · go_enter Try.func10, Try.ntmps10
      go_wp2_with fail
      go_ret2
      rw [HR.out, HD.out]
      exact ⟨rfl, rfl⟩
    · have hgt : (nC s : Int) < i := by omega
      generalize nC s = n at *
      clear hin h
      go_enter Try.func10, Try.ntmps10
      go_wp2_with fail
      refine (HL.out _ HM.out).mono ?_
      rintro e w1 ⟨rfl, rfl⟩
      go_wp2_with fail
      go_ret2
      rw [HR.out, HD.out]
      exact ⟨rfl, rfl⟩

theorem mono_le {S : List Int} (h : S.Pairwise (· < ·)) : S.Pairwise (· ≤ ·) := h.imp fun h => Int.le_of_lt h
set_option maxHeartbeats 400000 in
/-- The search among a map's offsets. -/
theorem find_any (u : Value) (s : ByteArray) (x : Int) (w : World) (hu : Lst w u (stL1 s.data.toList)) (hs : s.size ≤ 1073741824) :
    Calls Try.prog 29 #[u, .int .i64 x] w fun e w' => e = .returned (.tuple #[.int .i64 (cnt (stL1 s.data.toList) x), .bool ((stL1 s.data.toList).contains x)]) ∧ Q w w' := by
  have hn := nC_le s
  have hl := st_nC s
  rcases hu with ⟨h0, _⟩ | ⟨g, off, cap, rfl, hg, _, _, hc⟩
  · rw [h0] at hl; simp at hl
  · have ht : (stL1 s.data.toList).take (stL1 s.data.toList).length = stL1 s.data.toList := List.take_length
    have := search_any g off (stL1 s.data.toList).length cap (stL1 s.data.toList) x w (Nat.le_refl _) (by omega) hc (by rw [ht]; exact mono_le (stL1_rise _))
    rw [ht] at this
    refine this.mono ?_
    rintro e w1 ⟨rfl, q, rfl⟩
    exact ⟨rfl, (Q.refl w).drewN q⟩

set_option maxHeartbeats 800000 in
theorem mindex_any (b : Nat) (s : ByteArray) (x : Int) (w : World) (h : Mp w b s) (hs : s.size ≤ 1073741824) :
    Calls Try.prog 11 #[.pointer (some ⟨b, 0, none⟩), .int .i64 x] w fun e w' => e = .returned (.tuple #[.int .i64 (max (idxZ (stL1 s.data.toList) x) 0), .bool (decide (0 ≤ idxZ (stL1 s.data.toList) x))]) ∧ Q w w' := by
  obtain ⟨hb, v, u, h0, h1, h2, hv, hu⟩ := h
  have hf := find_any u s x w hu hs
  have hi : idxZ (stL1 s.data.toList) x = if (stL1 s.data.toList).contains x = true then (cnt (stL1 s.data.toList) x : Int) else -1 := rfl
  generalize (stL1 s.data.toList).contains x = e at hf hi
  generalize cnt (stL1 s.data.toList) x = c at hf hi
  rw [hi]
  obtain ⟨ua, uc, hue, _, _⟩ := hu.form0 (st_nC s)
  generalize nC s + 1 = un at hue
  subst hue
  have HF := Lib.hid hf
  clear hf hi hv hu
  cases e
  · rw [show max (if false = true then (c : Int) else -1) 0 = 0 from by rw [if_neg (by decide)]; rfl]
    rw [show decide (0 ≤ if false = true then (c : Int) else -1) = false from by rw [if_neg (by decide)]; rfl]
    go_enter Try.func11, Try.ntmps11
    go_wp2_with fail
    refine HF.out.mono ?_
    rintro e1 w1 ⟨rfl, hq⟩
    go_wp2_with fail
    go_ret2
    exact ⟨rfl, hq⟩
  · rw [show max (if true = true then (c : Int) else -1) 0 = c from by rw [if_pos rfl]; omega]
    rw [show decide (0 ≤ if true = true then (c : Int) else -1) = true from decide_eq_true (by rw [if_pos rfl]; omega)]
    go_enter Try.func11, Try.ntmps11
    go_wp2_with fail
    refine HF.out.mono ?_
    rintro e1 w1 ⟨rfl, hq⟩
    go_wp2_with fail
    go_ret2
    exact ⟨rfl, hq⟩

set_option maxHeartbeats 800000 in
theorem mfloor_any (b : Nat) (s : ByteArray) (x : Int) (w : World) (h : Mp w b s) (hs : s.size ≤ 1073741824) :
    Calls Try.prog 14 #[.pointer (some ⟨b, 0, none⟩), .int .i64 x] w fun e w' => e = .returned (.int .i64 (floZ (stL1 s.data.toList) x)) ∧ Q w w' := by
  obtain ⟨hb, v, u, h0, h1, h2, hv, hu⟩ := h
  have hf := find_any u s x w hu hs
  have hi1 := floZ_has (S := stL1 s.data.toList) (x := x)
  have hi2 := floZ_not (S := stL1 s.data.toList) (x := x)
  have hcl := cnt_le (stL1 s.data.toList) x
  rw [st_nC] at hcl
  have hn := nC_le s
  generalize (stL1 s.data.toList).contains x = e at hf hi1 hi2
  generalize cnt (stL1 s.data.toList) x = c at hf hi1 hi2 hcl
  generalize floZ (stL1 s.data.toList) x = r at hi1 hi2 ⊢
  obtain ⟨ua, uc, hue, _, _⟩ := hu.form0 (st_nC s)
  generalize nC s + 1 = un at hue
  subst hue
  have HF := Lib.hid hf
  clear hf hv hu
  cases e
  · have hr := hi2 rfl
    have hm : max ((c : Int) - 1) 0 = (r : Int) := by omega
    have HM := Lib.hid hm
    clear hi1 hi2 hr hm
    go_enter Try.func14, Try.ntmps14
    go_wp2_with fail
    refine HF.out.mono ?_
    rintro e1 w1 ⟨rfl, hq⟩
    go_wp2_with fail
    go_ret
    rw [← HM.out]
    exact ⟨rfl, hq⟩
  · have hr := hi1 rfl
    subst hr
    clear hi1 hi2
    go_enter Try.func14, Try.ntmps14
    go_wp2_with fail
    refine HF.out.mono ?_
    rintro e1 w1 ⟨rfl, hq⟩
    go_wp2_with fail
    go_ret
    exact ⟨rfl, hq⟩

set_option maxHeartbeats 800000 in
theorem mceil_any (b : Nat) (s : ByteArray) (x : Int) (w : World) (h : Mp w b s) (hs : s.size ≤ 1073741824) :
    Calls Try.prog 16 #[.pointer (some ⟨b, 0, none⟩), .int .i64 x] w fun e w' => e = .returned (.int .i64 (ceiZ (stL1 s.data.toList) x)) ∧ Q w w' := by
  have hm := h
  obtain ⟨hb, v, u, h0, h1, h2, hv, hu⟩ := h
  have hf := find_any u s x w hu hs
  have hcz : ceiZ (stL1 s.data.toList) x = min (cnt (stL1 s.data.toList) x) (nC s) := by unfold ceiZ; rw [st_nC, Nat.add_sub_cancel]
  have HL := Lib.hid (fun w h => mlen_any b s w h)
  have HM := Lib.hid hm
  generalize (stL1 s.data.toList).contains x = e at hf
  generalize cnt (stL1 s.data.toList) x = c at hf hcz
  generalize ceiZ (stL1 s.data.toList) x = r at hcz ⊢
  obtain ⟨ua, uc, hue, _, _⟩ := hu.form0 (st_nC s)
  generalize nC s + 1 = un at hue
  subst hue
  generalize nC s = n at hcz HL
  have HF := Lib.hid hf
  have hmin : min (c : Int) (n : Int) = (r : Int) := by omega
  have HR := Lib.hid hmin
  clear hf hv hu hm hcz hmin
  go_enter Try.func16, Try.ntmps16
  go_wp2_with fail
  refine HF.out.mono ?_
  rintro e1 w1 ⟨rfl, hq⟩
  go_wp2_with fail
  refine (HL.out _ (HM.out.q hq)).mono ?_
  rintro e1 w2 ⟨rfl, rfl⟩
  go_wp2_with fail
  go_ret
  rw [← HR.out]
  exact ⟨rfl, hq⟩

end Go.Proofs.Ytmobljfpkdjnpaa
