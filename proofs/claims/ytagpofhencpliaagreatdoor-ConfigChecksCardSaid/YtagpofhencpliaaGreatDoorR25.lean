/- What the document's own Parse of decimals comes to, by a walk through it. (and more) -/
import Derived.Test.YtagpofhencpliaaGreatDoorR00
import Derived.Test.YtagpofhencpliaaGreatDoorR14
import Derived.Test.YtagpofhencpliaaGreatDoorR08
import Derived.Test.YtagpofhencpliaaGreatDoorR02
import Derived.Test.YtagpofhencpliaaGreatDoorR15
import Derived.Test.YtagpofhencpliaaGreatDoorR20
import Derived.Test.YtagpofhencpliaaGreatDoorR10
import Derived.Test.YtagpofhencpliaaGreatDoorR13
import Derived.Test.YtagpofhencpliaaGreatDoorR17
import Derived.Test.YtagpofhencpliaaGreatDoorR07
import Derived.Test.YtagpofhencpliaaGreatDoorR04
import Derived.Test.YtagpofhencpliaaGreatDoorR11
import Derived.Test.YtagpofhencpliaaGreatDoorR03
import Derived.Test.YtagpofhencpliaaGreatDoorRows
import Derived.OwnWalk
import Derived.Deep.QuietTactic
import Derived.Deep.RegionWith
import Derived.Deep.RegionHeld3
import Derived.BigQuiet
import Derived.Laws.ResultCell
set_option linter.unusedVariables false
set_option linter.unusedSimpArgs false
namespace Go.Proofs.YtagpofhencpliaaGreatDoor
open Go.RowKit
namespace Dm
def RI (l : List UInt8) (i : Nat) (ds : List Int) (pt : Bool) (sc ah : Nat) : Prop := scan (l.drop i) ds pt sc ah = scan (bod l) [] false 0 0 ∧ ds.length ≤ i ∧ sc ≤ i ∧ ah ≤ i
theorem RI.neg {l : List UInt8} (h : sgn l = true) : RI l 1 [] false 0 0 := ⟨by unfold bod; rw [h, if_pos rfl], by simp, by omega, by omega⟩
theorem RI.zero {l : List UInt8} (h : sgn l = false) : RI l 0 [] false 0 0 := ⟨by unfold bod; rw [h, if_neg (by decide), List.drop_zero], by simp, by omega, by omega⟩
theorem RI.dot {l : List UInt8} {i : Nat} {ds : List Int} {sc ah : Nat} {b : UInt8} (h : RI l i ds false sc ah) (hl : l.drop i = b :: l.drop (i + 1)) (hb : b.toNat = 46) : RI l (i + 1) ds true sc ah := by
  obtain ⟨h1, h2, h3, h4⟩ := h
  exact ⟨by rw [← h1, hl, scan_dot _ _ _ _ _ hb], by omega, by omega, by omega⟩
theorem RI.num {l : List UInt8} {i : Nat} {ds : List Int} {pt : Bool} {sc ah : Nat} {b : UInt8} (h : RI l i ds pt sc ah) (hl : l.drop i = b :: l.drop (i + 1)) (hb : 48 ≤ b.toNat ∧ b.toNat ≤ 57) : RI l (i + 1) (ds ++ [(b.toNat : Int) - 48]) pt (if pt = true then sc + 1 else sc) (if pt = true then ah else ah + 1) := by
  obtain ⟨h1, h2, h3, h4⟩ := h
  refine ⟨by rw [← h1, hl, scan_num _ _ _ _ _ _ hb], ?_, by split <;> omega, by split <;> omega⟩
  rw [List.length_append]
  show ds.length + 1 ≤ i + 1
  omega
theorem RI.bad {l : List UInt8} {i : Nat} {ds : List Int} {pt : Bool} {sc ah : Nat} {b : UInt8} (h : RI l i ds pt sc ah) (hl : l.drop i = b :: l.drop (i + 1)) (h1 : ¬ (b.toNat = 46 ∧ pt = false)) (h2 : ¬ (48 ≤ b.toNat ∧ b.toNat ≤ 57)) : prs l = (false, [], 0, 2) := by
  rw [prs_fin, ← h.1, hl, scan_none _ _ _ _ _ _ h1 h2]; rfl
theorem RI.done {l : List UInt8} {i : Nat} {ds : List Int} {pt : Bool} {sc ah : Nat} (h : RI l i ds pt sc ah) (hl : i = l.length) : prs l = if ah = 0 ∨ (pt = true ∧ sc = 0) then (false, [], 0, 2) else if 1000 < sc then (false, [], 0, 3) else (sgn l, ds, sc, 0) := by
  rw [prs_fin, ← h.1, hl, List.drop_length, scan]; rfl
end Dm
namespace Er
theorem neR : (28 : TypeId) ≠ 3 := by decide
set_option maxHeartbeats 6400000 in
theorem parse_any (s : ByteArray) (w : World) (hm : s.size ≤ 1000000) :
    Calls Tryz.prog 28 #[.string s] w fun e w' => ∃ u, e = .returned (.tuple #[dv (Dm.prs s.data.toList).1 u ((Dm.prs s.data.toList).2.2.1 : Nat), .int .i64 (Dm.prs s.data.toList).2.2.2]) ∧ Lst w' u (Dm.prs s.data.toList).2.1 ∧ Q w w' := by
  have HL := Lib.hid (Um.size_list s)
  obtain ⟨P, hP⟩ : ∃ P, Dm.prs s.data.toList = P := ⟨_, rfl⟩
  rw [hP]
  have HPX := Lib.hid hP
  have HDR := Lib.hid (fun pos h => Dm.at_list s pos h)
  have hPS0 : PS 28 w (w.heap.size + 1) (w.heap.size + 2) false (.slice none 0 0) 0 [] ((w.alloc (.cells #[.bool false, .slice none 0 0, .int .i64 0] 28)).alloc (.cells #[.bool false, .slice none 0 0, .int .i64 0] 28)) :=
    ⟨heap_alloc2_old _ _ _, heap_alloc2_new _ _ _, by omega, by omega, by simp, Own.nil _ _, ((Q.refl w).alloc _).alloc _⟩
  have HPSfalse := Lib.hid hPS0
  have hPS1 : PS 28 w (w.heap.size + 1) (w.heap.size + 2) true (.slice none 0 0) 0 [] ((w.alloc (.cells #[.bool false, .slice none 0 0, .int .i64 0] 28)).alloc (.cells #[.bool true, .slice none 0 0, .int .i64 0] 28)) :=
    ⟨heap_alloc2_old _ _ _, heap_alloc2_new _ _ _, by omega, by omega, by simp, Own.nil _ _, ((Q.refl w).alloc _).alloc _⟩
  have HPStrue := Lib.hid hPS1
  clear hP hPS0 hPS1
  rcases Nat.eq_zero_or_pos s.size with hz | hs0
  · have hsg : Dm.sgn s.data.toList = false := by
      have : s.data.toList = [] := List.eq_nil_of_length_eq_zero (by rw [HL.out]; exact hz)
      rw [this]; rfl
    have HS0 := Lib.hid (Dm.RI.zero hsg)
    have HSG := Lib.hid hsg
    have HZ0 := Lib.hid hz
    clear hsg
    have HPS := Lib.hid (HPSfalse.out)
    go_enter Tryz.func28, Tryz.ntmps28
    go_wp2_with fail
    clear hz
    go_loopw [5, 6, 7] (fun iv av pv wr => ∃ (i : Nat) (pt : Bool) (u : Value) (ds : List Int) (sc ah : Nat), iv = .int .i64 i ∧ av = .int .i64 ah ∧ pv = .bool pt ∧ PS 28 w (w.heap.size + 1) (w.heap.size + 2) false u sc ds wr ∧ i ≤ s.size ∧ Dm.RI s.data.toList i ds pt sc ah) (fun iv _ _ _ => s.size - (intOf iv).toNat)
    case atStart => exact ⟨0, false, _, [], 0, 0, rfl, rfl, rfl, HPS.out, by omega, HS0.out⟩
    case round =>
      obtain ⟨i, pt, u, ds, sc, ah, rfl, rfl, rfl, hps, hile, hri⟩ := hrel
      obtain ⟨ua, uc, rfl⟩ := hps.2.2.2.2.2.1.shape
      obtain ⟨n, hn⟩ : ∃ n, n = ds.length := ⟨_, rfl⟩
      rw [← hn] at hps
      have hnp : n ≤ i := by rw [hn]; exact hri.2.1
      have hsp : sc ≤ i := hri.2.2.1
      have hap : ah ≤ i := hri.2.2.2
      have HN0 := Lib.hid hn
      have HRI := Lib.hid hri
      clear hn hri
      obtain ⟨d0, d1, d2, d3, d4, d5⟩ := block_cells hps.2.1
      obtain ⟨_, _, _, r3, r4, r5⟩ := block_cells hps.1
      by_cases hp : i < s.size
      · exfalso; have := HZ0.out; omega
      · have hpe : i = s.data.toList.length := by rw [HL.out]; omega
        have HPE := Lib.hid (Dm.RI.done HRI.out hpe)
        rw [HPX.out, HSG.out] at HPE
        clear hpe
        have hfin := PS.put hps neR (.bool false) (.slice none 0 0) (.int .i64 0)
        have HF := Lib.hid hfin.1
        have HQF := Lib.hid hfin.2.2
        clear hfin
        have hgin := PS.put hps neR (.bool false) (.slice ua n uc) (.int .i64 sc)
        have HG := Lib.hid hgin
        clear hgin
        rcases (show ah = 0 ∨ (0 < ah ∧ pt = true ∧ sc = 0) ∨ (0 < ah ∧ pt = true ∧ 0 < sc) ∨ (0 < ah ∧ pt = false) from by cases pt <;> simp <;> omega) with h0 | ⟨h0, h1, h2⟩ | ⟨h0, h1, h2⟩ | ⟨h0, h1⟩
        · subst h0
          rw [if_pos (.inl rfl)] at HPE
          go_wp2_with fail
          rw [HPE.out]
          exact ret_dv2 rfl rfl rfl HF.out rfl ⟨.slice none 0 0, rfl, .nil _ _ _ (by unfold maxLen; omega) (fun _ => rfl), HQF.out⟩
        · subst h1
          subst h2
          rw [if_pos (.inr ⟨rfl, rfl⟩)] at HPE
          have hnz : ((ah : Int) == 0) = false := beq_eq_false_iff_ne.2 (by omega)
          go_wp2_with fail
          rw [HPE.out]
          exact ret_dv2 rfl rfl rfl HF.out rfl ⟨.slice none 0 0, rfl, .nil _ _ _ (by unfold maxLen; omega) (fun _ => rfl), HQF.out⟩
        · subst h1
          rw [if_neg (by omega)] at HPE
          have hnz : ((ah : Int) == 0) = false := beq_eq_false_iff_ne.2 (by omega)
          have hsz : ((sc : Int) == 0) = false := beq_eq_false_iff_ne.2 (by omega)
          by_cases h3 : 1000 < sc
          · rw [if_pos h3] at HPE
            have h3i : (1000 : Int) < (sc : Int) := by omega
            go_wp2_with fail
            rw [HPE.out]
            exact ret_dv2 rfl rfl rfl HF.out rfl ⟨.slice none 0 0, rfl, .nil _ _ _ (by unfold maxLen; omega) (fun _ => rfl), HQF.out⟩
          · rw [if_neg h3] at HPE
            have h3i : (sc : Int) ≤ (1000 : Int) := by omega
            go_wp2_with fail
            rw [HPE.out]
            exact ret_dv2 rfl rfl rfl HG.out.1 rfl ⟨_, rfl, HG.out.2.1, HG.out.2.2⟩
        · subst h1
          rw [if_neg (by simp; omega)] at HPE
          have hnz : ((ah : Int) == 0) = false := beq_eq_false_iff_ne.2 (by omega)
          by_cases h3 : 1000 < sc
          · rw [if_pos h3] at HPE
            have h3i : (1000 : Int) < (sc : Int) := by omega
            go_wp2_with fail
            rw [HPE.out]
            exact ret_dv2 rfl rfl rfl HF.out rfl ⟨.slice none 0 0, rfl, .nil _ _ _ (by unfold maxLen; omega) (fun _ => rfl), HQF.out⟩
          · rw [if_neg h3] at HPE
            have h3i : (sc : Int) ≤ (1000 : Int) := by omega
            go_wp2_with fail
            rw [HPE.out]
            exact ret_dv2 rfl rfl rfl HG.out.1 rfl ⟨_, rfl, HG.out.2.1, HG.out.2.2⟩
  · have hsg := Dm.sgn_at s.data.toList (s[0]'hs0) (s.data.toList.drop 1) (by have := HDR.out 0 hs0; rw [List.drop_zero] at this; exact this)
    have hsi : (0 : Int) < (s.size : Int) := by omega
    by_cases hb : (s[0]'hs0).toNat = 45
    · rw [decide_eq_true hb] at hsg
      have HS0 := Lib.hid (Dm.RI.neg hsg)
      have HSG := Lib.hid hsg
      clear hsg
      have HPS := Lib.hid (HPStrue.out)
      have hb0 : (s[0]'hs0).toNat = 45 := hb
      go_enter Tryz.func28, Tryz.ntmps28
      go_wp2_with fail
      go_loopw [5, 6, 7] (fun iv av pv wr => ∃ (i : Nat) (pt : Bool) (u : Value) (ds : List Int) (sc ah : Nat), iv = .int .i64 i ∧ av = .int .i64 ah ∧ pv = .bool pt ∧ PS 28 w (w.heap.size + 1) (w.heap.size + 2) true u sc ds wr ∧ i ≤ s.size ∧ Dm.RI s.data.toList i ds pt sc ah) (fun iv _ _ _ => s.size - (intOf iv).toNat)
      case atStart => exact ⟨1, false, _, [], 0, 0, rfl, rfl, rfl, HPS.out, by omega, HS0.out⟩
      case round =>
        obtain ⟨i, pt, u, ds, sc, ah, rfl, rfl, rfl, hps, hile, hri⟩ := hrel
        obtain ⟨ua, uc, rfl⟩ := hps.2.2.2.2.2.1.shape
        obtain ⟨n, hn⟩ : ∃ n, n = ds.length := ⟨_, rfl⟩
        rw [← hn] at hps
        have hnp : n ≤ i := by rw [hn]; exact hri.2.1
        have hsp : sc ≤ i := hri.2.2.1
        have hap : ah ≤ i := hri.2.2.2
        have HN0 := Lib.hid hn
        have HRI := Lib.hid hri
        clear hn hri
        obtain ⟨d0, d1, d2, d3, d4, d5⟩ := block_cells hps.2.1
        obtain ⟨_, _, _, r3, r4, r5⟩ := block_cells hps.1
        by_cases hp : i < s.size
        · have hln := HDR.out i hp
          obtain ⟨b, hb⟩ : ∃ b, b = s[i]'hp := ⟨_, rfl⟩
          rw [← hb] at hln
          have HLN := Lib.hid hln
          obtain ⟨r, hr⟩ : ∃ r : Nat, r = b.toNat := ⟨_, rfl⟩
          have hbe : (s[i]'hp).toNat = r := by rw [← hb]; exact hr.symm
          have hrlt : r < 256 := by rw [hr]; exact b.toNat_lt
          have HRB := Lib.hid hr
          clear hln hb hr
          rcases (show (r = 46 ∧ pt = false) ∨ (r = 46 ∧ pt = true) ∨ (48 ≤ r ∧ r ≤ 57) ∨ (r ≠ 46 ∧ (r < 48 ∨ 57 < r)) from by cases pt <;> simp <;> omega) with ⟨hr, hpt⟩ | ⟨hr, hpt⟩ | hr | ⟨hr1, hr2⟩
          · subst hpt
            subst hr
            have HNX := Lib.hid (Dm.RI.dot HRI.out HLN.out HRB.out.symm)
            have HPS4 := Lib.hid hps
            go_wp2_with fail
            exact ⟨⟨i + 1, true, _, ds, sc, ah, by go_num, rfl, rfl, HPS4.out, by omega, HNX.out⟩, by simp [intOf]; omega⟩
          · subst hpt
            subst hr
            have HPE := Lib.hid (Dm.RI.bad HRI.out HLN.out (by simp) (by have := HRB.out; omega))
            rw [HPX.out] at HPE
            have hfin := PS.put hps neR (.bool false) (.slice none 0 0) (.int .i64 0)
            have HF := Lib.hid hfin.1
            have HQF := Lib.hid hfin.2.2
            clear hfin
            go_wp2_with fail
            rw [HPE.out]
            exact ret_dv2 rfl rfl rfl HF.out rfl ⟨.slice none 0 0, rfl, .nil _ _ _ (by unfold maxLen; omega) (fun _ => rfl), HQF.out⟩
          · obtain ⟨hr1, hr2⟩ := hr
            have h46 : ((r : Int) == 46) = false := beq_eq_false_iff_ne.2 (by omega)
            have hi1 : (48 : Int) ≤ (r : Int) := by omega
            have hi2 : (r : Int) ≤ 57 := by omega
            have HNX := Lib.hid (Dm.RI.num HRI.out HLN.out (by have := HRB.out; omega))
            rw [← HRB.out] at HNX
            have HWL := Lib.hid (show ds.length < 1099511627776 from by rw [← HN0.out]; omega)
            have HOW := Lib.hid hps.2.2.2.2.2.1
            have HBS := Lib.hid hps.2.2.2.2.1
            have HPS3 := Lib.hid hps
            go_wp2_with (at_builtin; refine push_int HOW.out rfl _ _ rfl _ (by rfl) (by rfl) HWL.out HBS.out ?_)
            intro v4 w4 ho4 hg4 hat4
            have hps4 := PS.grown HPS3.out neR hg4 ho4
            have hD4 : w4.heap[w.heap.size + 1]? = some (.cells #[.bool true, .slice ua n uc, .int .i64 sc] 28) := (hg4.block _ (lt_of_block HPS3.out.2.1) (fun e => own_ne HOW.out HPS3.out.2.1 neR e.symm)).trans HPS3.out.2.1
            obtain ⟨f0, f1, f2, f3, f4, f5⟩ := block_cells hD4
            have HPS4 := Lib.hid hps4
            obtain ⟨ya, yc, rfl⟩ := ho4.shape
            generalize hyl : (ds ++ [((r : Nat) : Int) - 48]).length = yl at *
            have HYL := Lib.hid hyl
            clear ho4 hg4 hat4 hps4 hD4 hyl d0 d1 d2 d3 d4 d5 r3 r4 r5
            cases pt
            · go_wp2_with fail
              exact ⟨⟨i + 1, false, _, _, sc, ah + 1, by go_num, by go_num, rfl, HPS4.out, by omega, HNX.out⟩, by simp [intOf]; omega⟩
            · have HPS6 := Lib.hid (PS.scale HPS4.out neR ((sc : Int) + 1))
              go_wp2_with fail
              exact ⟨⟨i + 1, true, _, _, sc + 1, ah, by go_num, rfl, rfl, HPS6.out, by omega, HNX.out⟩, by simp [intOf]; omega⟩
          · have h46 : ((r : Int) == 46) = false := beq_eq_false_iff_ne.2 (by omega)
            have HPE := Lib.hid (Dm.RI.bad HRI.out HLN.out (by have := HRB.out; omega) (by have := HRB.out; omega))
            rw [HPX.out] at HPE
            have hfin := PS.put hps neR (.bool false) (.slice none 0 0) (.int .i64 0)
            have HF := Lib.hid hfin.1
            have HQF := Lib.hid hfin.2.2
            clear hfin
            rcases hr2 with hr3 | hr3
            · have hi1 : (r : Int) < 48 := by omega
              go_wp2_with fail
              rw [HPE.out]
              exact ret_dv2 rfl rfl rfl HF.out rfl ⟨.slice none 0 0, rfl, .nil _ _ _ (by unfold maxLen; omega) (fun _ => rfl), HQF.out⟩
            · have hi1 : (48 : Int) ≤ (r : Int) := by omega
              have hi2 : (57 : Int) < (r : Int) := by omega
              go_wp2_with fail
              rw [HPE.out]
              exact ret_dv2 rfl rfl rfl HF.out rfl ⟨.slice none 0 0, rfl, .nil _ _ _ (by unfold maxLen; omega) (fun _ => rfl), HQF.out⟩
        · have hpe : i = s.data.toList.length := by rw [HL.out]; omega
          have HPE := Lib.hid (Dm.RI.done HRI.out hpe)
          rw [HPX.out, HSG.out] at HPE
          clear hpe
          have hfin := PS.put hps neR (.bool false) (.slice none 0 0) (.int .i64 0)
          have HF := Lib.hid hfin.1
          have HQF := Lib.hid hfin.2.2
          clear hfin
          have hgin := PS.put hps neR (.bool true) (.slice ua n uc) (.int .i64 sc)
          have HG := Lib.hid hgin
          clear hgin
          rcases (show ah = 0 ∨ (0 < ah ∧ pt = true ∧ sc = 0) ∨ (0 < ah ∧ pt = true ∧ 0 < sc) ∨ (0 < ah ∧ pt = false) from by cases pt <;> simp <;> omega) with h0 | ⟨h0, h1, h2⟩ | ⟨h0, h1, h2⟩ | ⟨h0, h1⟩
          · subst h0
            rw [if_pos (.inl rfl)] at HPE
            go_wp2_with fail
            rw [HPE.out]
            exact ret_dv2 rfl rfl rfl HF.out rfl ⟨.slice none 0 0, rfl, .nil _ _ _ (by unfold maxLen; omega) (fun _ => rfl), HQF.out⟩
          · subst h1
            subst h2
            rw [if_pos (.inr ⟨rfl, rfl⟩)] at HPE
            have hnz : ((ah : Int) == 0) = false := beq_eq_false_iff_ne.2 (by omega)
            go_wp2_with fail
            rw [HPE.out]
            exact ret_dv2 rfl rfl rfl HF.out rfl ⟨.slice none 0 0, rfl, .nil _ _ _ (by unfold maxLen; omega) (fun _ => rfl), HQF.out⟩
          · subst h1
            rw [if_neg (by omega)] at HPE
            have hnz : ((ah : Int) == 0) = false := beq_eq_false_iff_ne.2 (by omega)
            have hsz : ((sc : Int) == 0) = false := beq_eq_false_iff_ne.2 (by omega)
            by_cases h3 : 1000 < sc
            · rw [if_pos h3] at HPE
              have h3i : (1000 : Int) < (sc : Int) := by omega
              go_wp2_with fail
              rw [HPE.out]
              exact ret_dv2 rfl rfl rfl HF.out rfl ⟨.slice none 0 0, rfl, .nil _ _ _ (by unfold maxLen; omega) (fun _ => rfl), HQF.out⟩
            · rw [if_neg h3] at HPE
              have h3i : (sc : Int) ≤ (1000 : Int) := by omega
              go_wp2_with fail
              rw [HPE.out]
              exact ret_dv2 rfl rfl rfl HG.out.1 rfl ⟨_, rfl, HG.out.2.1, HG.out.2.2⟩
          · subst h1
            rw [if_neg (by simp; omega)] at HPE
            have hnz : ((ah : Int) == 0) = false := beq_eq_false_iff_ne.2 (by omega)
            by_cases h3 : 1000 < sc
            · rw [if_pos h3] at HPE
              have h3i : (1000 : Int) < (sc : Int) := by omega
              go_wp2_with fail
              rw [HPE.out]
              exact ret_dv2 rfl rfl rfl HF.out rfl ⟨.slice none 0 0, rfl, .nil _ _ _ (by unfold maxLen; omega) (fun _ => rfl), HQF.out⟩
            · rw [if_neg h3] at HPE
              have h3i : (sc : Int) ≤ (1000 : Int) := by omega
              go_wp2_with fail
              rw [HPE.out]
              exact ret_dv2 rfl rfl rfl HG.out.1 rfl ⟨_, rfl, HG.out.2.1, HG.out.2.2⟩
    · rw [decide_eq_false hb] at hsg
      have HS0 := Lib.hid (Dm.RI.zero hsg)
      have HSG := Lib.hid hsg
      clear hsg
      have HPS := Lib.hid (HPSfalse.out)
      have hb0 : (((s[0]'hs0).toNat : Int) == 45) = false := beq_eq_false_iff_ne.2 (by omega)
      go_enter Tryz.func28, Tryz.ntmps28
      go_wp2_with fail
      go_loopw [5, 6, 7] (fun iv av pv wr => ∃ (i : Nat) (pt : Bool) (u : Value) (ds : List Int) (sc ah : Nat), iv = .int .i64 i ∧ av = .int .i64 ah ∧ pv = .bool pt ∧ PS 28 w (w.heap.size + 1) (w.heap.size + 2) false u sc ds wr ∧ i ≤ s.size ∧ Dm.RI s.data.toList i ds pt sc ah) (fun iv _ _ _ => s.size - (intOf iv).toNat)
      case atStart => exact ⟨0, false, _, [], 0, 0, rfl, rfl, rfl, HPS.out, by omega, HS0.out⟩
      case round =>
        obtain ⟨i, pt, u, ds, sc, ah, rfl, rfl, rfl, hps, hile, hri⟩ := hrel
        obtain ⟨ua, uc, rfl⟩ := hps.2.2.2.2.2.1.shape
        obtain ⟨n, hn⟩ : ∃ n, n = ds.length := ⟨_, rfl⟩
        rw [← hn] at hps
        have hnp : n ≤ i := by rw [hn]; exact hri.2.1
        have hsp : sc ≤ i := hri.2.2.1
        have hap : ah ≤ i := hri.2.2.2
        have HN0 := Lib.hid hn
        have HRI := Lib.hid hri
        clear hn hri
        obtain ⟨d0, d1, d2, d3, d4, d5⟩ := block_cells hps.2.1
        obtain ⟨_, _, _, r3, r4, r5⟩ := block_cells hps.1
        by_cases hp : i < s.size
        · have hln := HDR.out i hp
          obtain ⟨b, hb⟩ : ∃ b, b = s[i]'hp := ⟨_, rfl⟩
          rw [← hb] at hln
          have HLN := Lib.hid hln
          obtain ⟨r, hr⟩ : ∃ r : Nat, r = b.toNat := ⟨_, rfl⟩
          have hbe : (s[i]'hp).toNat = r := by rw [← hb]; exact hr.symm
          have hrlt : r < 256 := by rw [hr]; exact b.toNat_lt
          have HRB := Lib.hid hr
          clear hln hb hr
          rcases (show (r = 46 ∧ pt = false) ∨ (r = 46 ∧ pt = true) ∨ (48 ≤ r ∧ r ≤ 57) ∨ (r ≠ 46 ∧ (r < 48 ∨ 57 < r)) from by cases pt <;> simp <;> omega) with ⟨hr, hpt⟩ | ⟨hr, hpt⟩ | hr | ⟨hr1, hr2⟩
          · subst hpt
            subst hr
            have HNX := Lib.hid (Dm.RI.dot HRI.out HLN.out HRB.out.symm)
            have HPS4 := Lib.hid hps
            go_wp2_with fail
            exact ⟨⟨i + 1, true, _, ds, sc, ah, by go_num, rfl, rfl, HPS4.out, by omega, HNX.out⟩, by simp [intOf]; omega⟩
          · subst hpt
            subst hr
            have HPE := Lib.hid (Dm.RI.bad HRI.out HLN.out (by simp) (by have := HRB.out; omega))
            rw [HPX.out] at HPE
            have hfin := PS.put hps neR (.bool false) (.slice none 0 0) (.int .i64 0)
            have HF := Lib.hid hfin.1
            have HQF := Lib.hid hfin.2.2
            clear hfin
            go_wp2_with fail
            rw [HPE.out]
            exact ret_dv2 rfl rfl rfl HF.out rfl ⟨.slice none 0 0, rfl, .nil _ _ _ (by unfold maxLen; omega) (fun _ => rfl), HQF.out⟩
          · obtain ⟨hr1, hr2⟩ := hr
            have h46 : ((r : Int) == 46) = false := beq_eq_false_iff_ne.2 (by omega)
            have hi1 : (48 : Int) ≤ (r : Int) := by omega
            have hi2 : (r : Int) ≤ 57 := by omega
            have HNX := Lib.hid (Dm.RI.num HRI.out HLN.out (by have := HRB.out; omega))
            rw [← HRB.out] at HNX
            have HWL := Lib.hid (show ds.length < 1099511627776 from by rw [← HN0.out]; omega)
            have HOW := Lib.hid hps.2.2.2.2.2.1
            have HBS := Lib.hid hps.2.2.2.2.1
            have HPS3 := Lib.hid hps
            go_wp2_with (at_builtin; refine push_int HOW.out rfl _ _ rfl _ (by rfl) (by rfl) HWL.out HBS.out ?_)
            intro v4 w4 ho4 hg4 hat4
            have hps4 := PS.grown HPS3.out neR hg4 ho4
            have hD4 : w4.heap[w.heap.size + 1]? = some (.cells #[.bool false, .slice ua n uc, .int .i64 sc] 28) := (hg4.block _ (lt_of_block HPS3.out.2.1) (fun e => own_ne HOW.out HPS3.out.2.1 neR e.symm)).trans HPS3.out.2.1
            obtain ⟨f0, f1, f2, f3, f4, f5⟩ := block_cells hD4
            have HPS4 := Lib.hid hps4
            obtain ⟨ya, yc, rfl⟩ := ho4.shape
            generalize hyl : (ds ++ [((r : Nat) : Int) - 48]).length = yl at *
            have HYL := Lib.hid hyl
            clear ho4 hg4 hat4 hps4 hD4 hyl d0 d1 d2 d3 d4 d5 r3 r4 r5
            cases pt
            · go_wp2_with fail
              exact ⟨⟨i + 1, false, _, _, sc, ah + 1, by go_num, by go_num, rfl, HPS4.out, by omega, HNX.out⟩, by simp [intOf]; omega⟩
            · have HPS6 := Lib.hid (PS.scale HPS4.out neR ((sc : Int) + 1))
              go_wp2_with fail
              exact ⟨⟨i + 1, true, _, _, sc + 1, ah, by go_num, rfl, rfl, HPS6.out, by omega, HNX.out⟩, by simp [intOf]; omega⟩
          · have h46 : ((r : Int) == 46) = false := beq_eq_false_iff_ne.2 (by omega)
            have HPE := Lib.hid (Dm.RI.bad HRI.out HLN.out (by have := HRB.out; omega) (by have := HRB.out; omega))
            rw [HPX.out] at HPE
            have hfin := PS.put hps neR (.bool false) (.slice none 0 0) (.int .i64 0)
            have HF := Lib.hid hfin.1
            have HQF := Lib.hid hfin.2.2
            clear hfin
            rcases hr2 with hr3 | hr3
            · have hi1 : (r : Int) < 48 := by omega
              go_wp2_with fail
              rw [HPE.out]
              exact ret_dv2 rfl rfl rfl HF.out rfl ⟨.slice none 0 0, rfl, .nil _ _ _ (by unfold maxLen; omega) (fun _ => rfl), HQF.out⟩
            · have hi1 : (48 : Int) ≤ (r : Int) := by omega
              have hi2 : (57 : Int) < (r : Int) := by omega
              go_wp2_with fail
              rw [HPE.out]
              exact ret_dv2 rfl rfl rfl HF.out rfl ⟨.slice none 0 0, rfl, .nil _ _ _ (by unfold maxLen; omega) (fun _ => rfl), HQF.out⟩
        · have hpe : i = s.data.toList.length := by rw [HL.out]; omega
          have HPE := Lib.hid (Dm.RI.done HRI.out hpe)
          rw [HPX.out, HSG.out] at HPE
          clear hpe
          have hfin := PS.put hps neR (.bool false) (.slice none 0 0) (.int .i64 0)
          have HF := Lib.hid hfin.1
          have HQF := Lib.hid hfin.2.2
          clear hfin
          have hgin := PS.put hps neR (.bool false) (.slice ua n uc) (.int .i64 sc)
          have HG := Lib.hid hgin
          clear hgin
          rcases (show ah = 0 ∨ (0 < ah ∧ pt = true ∧ sc = 0) ∨ (0 < ah ∧ pt = true ∧ 0 < sc) ∨ (0 < ah ∧ pt = false) from by cases pt <;> simp <;> omega) with h0 | ⟨h0, h1, h2⟩ | ⟨h0, h1, h2⟩ | ⟨h0, h1⟩
          · subst h0
            rw [if_pos (.inl rfl)] at HPE
            go_wp2_with fail
            rw [HPE.out]
            exact ret_dv2 rfl rfl rfl HF.out rfl ⟨.slice none 0 0, rfl, .nil _ _ _ (by unfold maxLen; omega) (fun _ => rfl), HQF.out⟩
          · subst h1
            subst h2
            rw [if_pos (.inr ⟨rfl, rfl⟩)] at HPE
            have hnz : ((ah : Int) == 0) = false := beq_eq_false_iff_ne.2 (by omega)
            go_wp2_with fail
            rw [HPE.out]
            exact ret_dv2 rfl rfl rfl HF.out rfl ⟨.slice none 0 0, rfl, .nil _ _ _ (by unfold maxLen; omega) (fun _ => rfl), HQF.out⟩
          · subst h1
            rw [if_neg (by omega)] at HPE
            have hnz : ((ah : Int) == 0) = false := beq_eq_false_iff_ne.2 (by omega)
            have hsz : ((sc : Int) == 0) = false := beq_eq_false_iff_ne.2 (by omega)
            by_cases h3 : 1000 < sc
            · rw [if_pos h3] at HPE
              have h3i : (1000 : Int) < (sc : Int) := by omega
              go_wp2_with fail
              rw [HPE.out]
              exact ret_dv2 rfl rfl rfl HF.out rfl ⟨.slice none 0 0, rfl, .nil _ _ _ (by unfold maxLen; omega) (fun _ => rfl), HQF.out⟩
            · rw [if_neg h3] at HPE
              have h3i : (sc : Int) ≤ (1000 : Int) := by omega
              go_wp2_with fail
              rw [HPE.out]
              exact ret_dv2 rfl rfl rfl HG.out.1 rfl ⟨_, rfl, HG.out.2.1, HG.out.2.2⟩
          · subst h1
            rw [if_neg (by simp; omega)] at HPE
            have hnz : ((ah : Int) == 0) = false := beq_eq_false_iff_ne.2 (by omega)
            by_cases h3 : 1000 < sc
            · rw [if_pos h3] at HPE
              have h3i : (1000 : Int) < (sc : Int) := by omega
              go_wp2_with fail
              rw [HPE.out]
              exact ret_dv2 rfl rfl rfl HF.out rfl ⟨.slice none 0 0, rfl, .nil _ _ _ (by unfold maxLen; omega) (fun _ => rfl), HQF.out⟩
            · rw [if_neg h3] at HPE
              have h3i : (sc : Int) ≤ (1000 : Int) := by omega
              go_wp2_with fail
              rw [HPE.out]
              exact ret_dv2 rfl rfl rfl HG.out.1 rfl ⟨_, rfl, HG.out.2.1, HG.out.2.2⟩
end Er
end Go.Proofs.YtagpofhencpliaaGreatDoor
