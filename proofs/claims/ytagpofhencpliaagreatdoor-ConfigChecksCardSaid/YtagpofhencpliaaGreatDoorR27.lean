/- What the program's Parse of decimals comes to, by a walk through it. (and more) -/
import Derived.Test.YtagpofhencpliaaGreatDoorR00
import Derived.Test.YtagpofhencpliaaGreatDoorR14
import Derived.Test.YtagpofhencpliaaGreatDoorR08
import Derived.Test.YtagpofhencpliaaGreatDoorR02
import Derived.Test.YtagpofhencpliaaGreatDoorR15
import Derived.Test.YtagpofhencpliaaGreatDoorR20
import Derived.Test.YtagpofhencpliaaGreatDoorR10
import Derived.Test.YtagpofhencpliaaGreatDoorR13
import Derived.Test.YtagpofhencpliaaGreatDoorR17
import Derived.Test.YtagpofhencpliaaGreatDoorR07
import Derived.Test.YtagpofhencpliaaGreatDoorR04
import Derived.Test.YtagpofhencpliaaGreatDoorR11
import Derived.Test.YtagpofhencpliaaGreatDoorR03
import Derived.Test.YtagpofhencpliaaGreatDoorRows
import Derived.OwnWalk
import Derived.Deep.QuietTactic
import Derived.Deep.RegionWith
import Derived.Deep.RegionHeld3
import Derived.BigQuiet
import Derived.Laws.ResultCell
set_option linter.unusedVariables false
set_option linter.unusedSimpArgs false
namespace Go.Proofs.YtagpofhencpliaaGreatDoor
open Go.RowKit
namespace Ep
open Er (PS own_ne PS.q PS.iterAt PS.grown PS.neg PS.scale PS.put PS.room dv cellV LF LF.of LF.nil LF.mono LF.q LF.put LF.shape LF.lst block_cells some_cells block_set wrapI num_shl okD_shl)
theorem neT : (36 : TypeId) ≠ 3 := by decide
set_option maxRecDepth 100000 in
set_option maxHeartbeats 6400000 in
theorem parse_any (s : ByteArray) (w : World) (hm : s.size ≤ 1000000) :
    Calls Tryz.prog 43 #[.string s] w fun e w' => ∃ u, e = .returned (.tuple #[dv (Dm.prs s.data.toList).1 u ((Dm.prs s.data.toList).2.2.1 : Nat), .int .i64 (Dm.prs s.data.toList).2.2.2]) ∧ Lst w' u (Dm.prs s.data.toList).2.1 ∧ Q w w' := by
  obtain ⟨i0, hi, hz0, hz1, hz2⟩ := info_parts infoInt
  have HI := Lib.hid (fun pos g ds pt sc b (h : Dm.PI s.data.toList pos g ds pt sc) => Dm.PI.bad (b := b) h)
  have HE := Lib.hid (fun pos g ds pt sc (h : Dm.PI s.data.toList pos g ds pt sc) => Dm.PI.done h)
  have HN := Lib.hid (fun g ds pt sc b r (h : Dm.PI s.data.toList 0 g ds pt sc) => Dm.PI.neg (b := b) (r := r) h)
  have HD := Lib.hid (fun pos g ds sc b (h : Dm.PI s.data.toList pos g ds false sc) => Dm.PI.dot (b := b) h)
  have HU := Lib.hid (fun pos g ds pt sc b (h : Dm.PI s.data.toList pos g ds pt sc) => Dm.PI.num (b := b) h)
  have HS0 := Lib.hid (Dm.PI.start s.data.toList)
  have HL := Lib.hid (Um.size_list s)
  obtain ⟨P, hP⟩ : ∃ P, P = Dm.prs s.data.toList := ⟨_, rfl⟩
  rw [← hP] at HI HE ⊢
  have HDR := Lib.hid (fun pos h => Dm.at_list s pos h)
  clear hP
  go_enter Tryz.func43, Tryz.ntmps43
  go_wp2_with (at_make; refine wpList_make_own _ rfl _ _ 26 rfl (w.heap.size + 1) 3 i0 (.int .i64 0) 1 Tryz.underlying26 hi hz0 hz1 .i64 .i64 _ s.size rfl rfl rfl (by rw [hz2]; omega) (by unfold maxLen; omega) (by rw [World.size_alloc]; exact Nat.le_refl _) ?_; intro w2 hown2 hg2)
  have hq2 : Q w w2 := ((Q.refl w).alloc _).grown hg2 (fun k h => by cases h)
  have hown3 : Own w2 (w.heap.size + 1) (.slice (some ⟨w.heap.size + 1, 0, none⟩) 0 s.size) [] := by
    have e : (w.alloc (.cells #[.bool false, .slice none 0 0, .int .i64 0] 36)).heap.size = w.heap.size + 1 := by simp
    have h : Own w2 (w.heap.size + 1) (.slice (some ⟨(w.alloc (.cells #[.bool false, .slice none 0 0, .int .i64 0] 36)).heap.size, 0, none⟩) 0 s.size) [] := hown2
    rw [e] at h
    exact h
  have hlt2 : w.heap.size < w2.heap.size := by have := hg2.size; rw [World.size_alloc] at this; omega
  have hR2 : w2.heap[w.heap.size]? = some (.cells #[.bool false, .slice none 0 0, .int .i64 0] 36) := (hg2.block _ (by rw [World.size_alloc]; omega) (fun e => by cases e)).trans (heap_alloc_new w _)
  have hPS : PS 36 w w2.heap.size (w.heap.size + 1) false (.slice (some ⟨w.heap.size + 1, 0, none⟩) 0 s.size) 0 [] (w2.alloc (.cells #[.bool false, .slice (some ⟨w.heap.size + 1, 0, none⟩) 0 s.size, .int .i64 0] 36)) :=
    ⟨(heap_alloc_old w2 _ hlt2).trans hR2, heap_alloc_new w2 _, hlt2, by omega, by rw [World.size_alloc]; omega, hown3.q ((Q.refl w2).alloc _), hq2.alloc _⟩
  have HPS := Lib.hid hPS
  have HLT := Lib.hid hlt2
  clear hown2 hown3 hR2 hPS hq2 hg2
  go_wp2_with fail
  obtain ⟨I, hI⟩ : ∃ I, I = w2.heap.size + 1 := ⟨_, rfl⟩
  have HIE := Lib.hid hI
  have hit0 : ((w2.alloc (.cells #[.bool false, .slice (some ⟨w.heap.size + 1, 0, none⟩) 0 s.size, .int .i64 0] 36)).alloc (.stringIter s 0)).heap[w2.heap.size + 1]? = some (.stringIter s 0) := by
    have h := heap_alloc_new (w2.alloc (.cells #[.bool false, .slice (some ⟨w.heap.size + 1, 0, none⟩) 0 s.size, .int .i64 0] 36)) (.stringIter s 0)
    rw [World.size_alloc] at h
    exact h
  have HIT0 := Lib.hid hit0
  clear hI hit0
  go_loopw [5] (fun pv wr => ∃ (pos : Nat) (g pt : Bool) (u : Value) (ds : List Int) (sc : Nat), pv = .bool pt ∧ PS 36 w w2.heap.size (w.heap.size + 1) g u sc ds wr ∧ wr.heap[w2.heap.size + 1]? = some (.stringIter s pos) ∧ pos ≤ s.size ∧ Dm.PI s.data.toList pos g ds pt sc) (fun _ wr => s.size - wr.iterPos (w2.heap.size + 1))
  case atStart => exact ⟨0, false, false, _, [], 0, rfl, HPS.out.q ((Q.refl _).alloc _), HIT0.out, by omega, HS0.out⟩
  case round =>
    obtain ⟨pos, g, pt, u, ds, sc, rfl, hps, hit, hple, hpi⟩ := hrel
    obtain ⟨ua, uc, rfl⟩ := hps.2.2.2.2.2.1.shape
    obtain ⟨n, hn⟩ : ∃ n, n = ds.length := ⟨_, rfl⟩
    rw [← hn] at hps
    have hnp : n ≤ pos := by rw [hn]; exact hpi.1
    have hsp : sc ≤ pos := hpi.2.1
    have HN0 := Lib.hid hn
    have HPI := Lib.hid hpi
    have HLT2 := HLT.out
    clear hn hpi
    by_cases hp : pos < s.size
    · have hnx : ∀ ty, (Instr.next (.pointer (some ⟨w2.heap.size + 1, 0, none⟩)) true ty).run Tryz.prog wr = _ := fun ty => Lib.run_next_any_at wr (w2.heap.size + 1) s pos ty hit hp
      rw [Um.decode_at] at hnx
      have hln := HDR.out pos hp
      obtain ⟨b, hb⟩ : ∃ b, b = s[pos]'hp := ⟨_, rfl⟩
      rw [← hb] at hln
      have HLN := Lib.hid hln
      rw [hln] at hnx
      clear hln hb
      by_cases hlo : b.toNat < 128
      · obtain ⟨e1, e2⟩ := Dm.dec_low b (s.data.toList.drop (pos + 1)) hlo
        rw [e1, e2] at hnx
        dsimp only at hnx
        have hps3 := PS.iterAt hps hit (by omega) (pos + 1)
        have hit3 := Lib.iterAt_heap wr (w2.heap.size + 1) s pos (pos + 1) hit
        obtain ⟨d0, d1, d2, d3, d4, d5⟩ := block_cells hps3.2.1
        obtain ⟨_, _, _, r3, r4, r5⟩ := block_cells hps3.1
        generalize wr.iterAt (w2.heap.size + 1) s (pos + 1) = wn at *
        obtain ⟨r, hr⟩ : ∃ r : Nat, r = b.toNat := ⟨_, rfl⟩
        rw [← hr] at hnx hlo
        have HRB := Lib.hid hr
        have HPI2 := HPI.out
        clear hr e1 e2 HPI
        have HPI := Lib.hid HPI2
        clear HPI2
        have hnlt : n < 1099511627776 := by omega
        rcases (show (r = 45 ∧ pos = 0) ∨ (r = 45 ∧ pos ≠ 0) ∨ r = 46 ∨ (48 ≤ r ∧ r ≤ 57) ∨ (r ≠ 45 ∧ r ≠ 46 ∧ (r < 48 ∨ 57 < r)) from by omega) with ⟨hr, hp0⟩ | ⟨hr, hp0⟩ | hr | hr | ⟨hr1, hr2, hr3⟩
        · subst hr
          subst hp0
          have HNX := Lib.hid (HN.out g ds pt sc b _ HPI.out HLN.out HRB.out.symm)
          have hps4 := PS.neg hps3 neT
          have hit4 : (wn.setCell ⟨w2.heap.size, 0, none⟩ (.bool true)).heap[w2.heap.size + 1]? = some (.stringIter s 1) := (heap_setCell_other _ ⟨w2.heap.size, 0, none⟩ _ _ (by show w2.heap.size + 1 ≠ w2.heap.size; omega)).trans hit3
          have HPS4 := Lib.hid hps4
          have HIT4 := Lib.hid hit4
          clear hps4 hit4
          go_wp2_with fail
          exact ⟨⟨1, true, pt, _, ds, sc, rfl, HPS4.out, HIT4.out, by omega, HNX.out⟩, by rw [iterPos_of HIT4.out, iterPos_of hit]; omega⟩
        · subst hr
          have hpz : ((pos : Int) == 0) = false := beq_eq_false_iff_ne.2 (by omega)
          have HPE := Lib.hid (HI.out pos g ds pt sc b HPI.out HLN.out (by have := HRB.out; omega) (by have := HRB.out; omega) (by have := HRB.out; omega))
          have hfin := PS.put hps3 neT (.bool false) (.slice none 0 0) (.int .i64 0)
          have HF := Lib.hid hfin.1
          have HQF := Lib.hid hfin.2.2
          clear hfin
          
          go_wp2_with fail
          rw [HPE.out]
          exact ret_dv2 rfl rfl rfl HF.out rfl ⟨.slice none 0 0, rfl, .nil _ _ _ (by unfold maxLen; omega) (fun _ => rfl), HQF.out⟩
        · subst hr
          rcases (show (pt = false ∧ 0 < n) ∨ (pt = false ∧ n = 0) ∨ pt = true from by cases pt <;> simp; omega) with ⟨hpt, hn1⟩ | ⟨hpt, hn1⟩ | hpt
          · subst hpt
            have HNX := Lib.hid (HD.out pos g ds sc b HPI.out HLN.out HRB.out.symm (by rw [← HN0.out]; exact hn1))
            have hni : (0 : Int) < (n : Int) := by omega
            have HPS4 := Lib.hid hps3
            have HIT4 := Lib.hid hit3
            go_wp2_with fail
            exact ⟨⟨pos + 1, g, true, _, ds, sc, rfl, HPS4.out, HIT4.out, by omega, HNX.out⟩, by rw [iterPos_of HIT4.out, iterPos_of hit]; omega⟩
          · subst hpt
            subst hn1
            have HPE := Lib.hid (HI.out pos g ds false sc b HPI.out HLN.out (by have := HRB.out; omega) (by have := HRB.out; have := HN0.out; omega) (by have := HRB.out; omega))
            have hfin := PS.put hps3 neT (.bool false) (.slice none 0 0) (.int .i64 0)
            have HF := Lib.hid hfin.1
            have HQF := Lib.hid hfin.2.2
            clear hfin
            
            go_wp2_with fail
            rw [HPE.out]
            exact ret_dv2 rfl rfl rfl HF.out rfl ⟨.slice none 0 0, rfl, .nil _ _ _ (by unfold maxLen; omega) (fun _ => rfl), HQF.out⟩
          · subst hpt
            have HPE := Lib.hid (HI.out pos g ds true sc b HPI.out HLN.out (by have := HRB.out; omega) (by simp) (by have := HRB.out; omega))
            have hfin := PS.put hps3 neT (.bool false) (.slice none 0 0) (.int .i64 0)
            have HF := Lib.hid hfin.1
            have HQF := Lib.hid hfin.2.2
            clear hfin
            
            go_wp2_with fail
            rw [HPE.out]
            exact ret_dv2 rfl rfl rfl HF.out rfl ⟨.slice none 0 0, rfl, .nil _ _ _ (by unfold maxLen; omega) (fun _ => rfl), HQF.out⟩
        · obtain ⟨hr1, hr2⟩ := hr
          have h45 : ((r : Int) == 45) = false := beq_eq_false_iff_ne.2 (by omega)
          have h46 : ((r : Int) == 46) = false := beq_eq_false_iff_ne.2 (by omega)
          have hi1 : (48 : Int) ≤ (r : Int) := by omega
          have hi2 : (r : Int) ≤ 57 := by omega
          have HNX := Lib.hid (HU.out pos g ds pt sc b HPI.out HLN.out (by have := HRB.out; omega))
          rw [← HRB.out] at HNX
          have HWL := Lib.hid (show ds.length < 1099511627776 from by rw [← HN0.out]; exact hnlt)
          have HOW := Lib.hid hps3.2.2.2.2.2.1
          have HBS := Lib.hid hps3.2.2.2.2.1
          have HPS3 := Lib.hid hps3
          have HIT3 := Lib.hid hit3
          go_wp2_with (at_builtin; refine push_int HOW.out rfl _ _ rfl _ (by rfl) (by rfl) HWL.out HBS.out ?_)
          intro v4 w4 ho4 hg4 hat4
          have hps4 := PS.grown HPS3.out neT hg4 ho4
          have hit4 := iter_grown HOW.out hg4 HIT3.out
          have hD4 : w4.heap[w2.heap.size]? = some (.cells #[.bool g, .slice ua n uc, .int .i64 sc] 36) := (hg4.block _ (lt_of_block HPS3.out.2.1) (fun e => own_ne HOW.out HPS3.out.2.1 neT e.symm)).trans HPS3.out.2.1
          obtain ⟨f0, f1, f2, f3, f4, f5⟩ := block_cells hD4
          have hit5 : (w4.setCell ⟨w2.heap.size, 1, none⟩ v4).heap[w2.heap.size + 1]? = some (.stringIter s (pos + 1)) := (heap_setCell_other _ ⟨w2.heap.size, 1, none⟩ _ _ (by show w2.heap.size + 1 ≠ w2.heap.size; omega)).trans hit4
          have HPS4 := Lib.hid hps4
          have HIT5 := Lib.hid hit5
          obtain ⟨ya, yc, rfl⟩ := ho4.shape
          generalize hyl : (ds ++ [((r : Nat) : Int) - 48]).length = yl at *
          have HYL := Lib.hid hyl
          clear ho4 hg4 hat4 hps4 hit4 hit5 hD4 hyl d0 d1 d2 d3 d4 d5 r3 r4 r5
          cases pt
          · go_wp2_with fail
            exact ⟨⟨pos + 1, g, false, _, _, sc, rfl, HPS4.out, HIT5.out, by omega, HNX.out⟩, by rw [iterPos_of HIT5.out, iterPos_of hit]; omega⟩
          · have hps5 := PS.scale HPS4.out neT ((sc : Int) + 1)
            have hit6 : ((w4.setCell ⟨w2.heap.size, 1, none⟩ (.slice ya yl yc)).setCell ⟨w2.heap.size, 2, none⟩ (.int .i64 ((sc : Int) + 1))).heap[w2.heap.size + 1]? = some (.stringIter s (pos + 1)) := (heap_setCell_other _ ⟨w2.heap.size, 2, none⟩ _ _ (by show w2.heap.size + 1 ≠ w2.heap.size; omega)).trans HIT5.out
            have HPS6 := Lib.hid hps5
            have HIT6 := Lib.hid hit6
            clear hps5 hit6
            go_wp2_with fail
            exact ⟨⟨pos + 1, g, true, _, _, sc + 1, rfl, HPS6.out, HIT6.out, by omega, HNX.out⟩, by rw [iterPos_of HIT6.out, iterPos_of hit]; omega⟩
        · have h45 : ((r : Int) == 45) = false := beq_eq_false_iff_ne.2 (by omega)
          have h46 : ((r : Int) == 46) = false := beq_eq_false_iff_ne.2 (by omega)
          have HPE := Lib.hid (HI.out pos g ds pt sc b HPI.out HLN.out (by have := HRB.out; omega) (by have := HRB.out; omega) (by have := HRB.out; omega))
          have hfin := PS.put hps3 neT (.bool false) (.slice none 0 0) (.int .i64 0)
          have HF := Lib.hid hfin.1
          have HQF := Lib.hid hfin.2.2
          clear hfin
          rcases hr3 with hr3 | hr3
          · have hi1 : (r : Int) < 48 := by omega
            go_wp2_with fail
            rw [HPE.out]
            exact ret_dv2 rfl rfl rfl HF.out rfl ⟨.slice none 0 0, rfl, .nil _ _ _ (by unfold maxLen; omega) (fun _ => rfl), HQF.out⟩
          · have hi1 : (48 : Int) ≤ (r : Int) := by omega
            have hi2 : (57 : Int) < (r : Int) := by omega
            go_wp2_with fail
            rw [HPE.out]
            exact ret_dv2 rfl rfl rfl HF.out rfl ⟨.slice none 0 0, rfl, .nil _ _ _ (by unfold maxLen; omega) (fun _ => rfl), HQF.out⟩
      · have hrh := Dm.dec_high b (s.data.toList.drop (pos + 1)) (by omega)
        obtain ⟨p2, hp2⟩ : ∃ p2, p2 = pos + (Um.mrk (b :: s.data.toList.drop (pos + 1))).2.1 := ⟨_, rfl⟩
        dsimp only at hnx
        rw [← hp2] at hnx
        have hps3 := PS.iterAt hps hit (by omega) p2
        obtain ⟨d0, d1, d2, d3, d4, d5⟩ := block_cells hps3.2.1
        obtain ⟨_, _, _, r3, r4, r5⟩ := block_cells hps3.1
        generalize wr.iterAt (w2.heap.size + 1) s p2 = wn at *
        generalize (Um.dec (b :: s.data.toList.drop (pos + 1))).1 = r at *
        have HPE := Lib.hid (HI.out pos g ds pt sc b HPI.out HLN.out (by omega) (by omega) (by omega))
        clear hp2
        have h45 : ((r : Int) == 45) = false := beq_eq_false_iff_ne.2 (by omega)
        have h46 : ((r : Int) == 46) = false := beq_eq_false_iff_ne.2 (by omega)
        have hi1 : (48 : Int) ≤ (r : Int) := by omega
        have hi2 : (57 : Int) < (r : Int) := by omega
        have hfin := PS.put hps3 neT (.bool false) (.slice none 0 0) (.int .i64 0)
        have HF := Lib.hid hfin.1
        have HQF := Lib.hid hfin.2.2
        clear hfin
        go_wp2_with fail
        rw [HPE.out]
        exact ret_dv2 rfl rfl rfl HF.out rfl ⟨.slice none 0 0, rfl, .nil _ _ _ (by unfold maxLen; omega) (fun _ => rfl), HQF.out⟩
    · have hnx : ∀ ty, (Instr.next (.pointer (some ⟨w2.heap.size + 1, 0, none⟩)) true ty).run Tryz.prog wr = _ := fun ty => Lib.run_next_end_at wr (w2.heap.size + 1) s pos ty hit hp
      have hpe : pos = s.data.toList.length := by rw [HL.out]; omega
      have HPE := Lib.hid (HE.out pos g ds pt sc HPI.out hpe)
      rw [← HN0.out] at HPE
      clear hpe
      obtain ⟨d0, d1, d2, d3, d4, d5⟩ := block_cells hps.2.1
      obtain ⟨_, _, _, r3, r4, r5⟩ := block_cells hps.1
      have hfin := PS.put hps neT (.bool false) (.slice none 0 0) (.int .i64 0)
      have hgin := PS.put hps neT (.bool g) (.slice ua n uc) (.int .i64 sc)
      have HF := Lib.hid hfin.1
      have HQF := Lib.hid hfin.2.2
      have HG := Lib.hid hgin
      have MS := Lib.hid (fun u => mayScale_any (sc : Int) u (by omega))
      rw [show decide (0 ≤ (sc : Int)) = true from by simp, Bool.true_and] at MS
      clear hfin hgin
      rcases (show n = 0 ∨ (0 < n ∧ pt = true ∧ sc = 0) ∨ (0 < n ∧ pt = true ∧ 0 < sc) ∨ (0 < n ∧ pt = false) from by cases pt <;> simp <;> omega) with h0 | ⟨h0, h1, h2⟩ | ⟨h0, h1, h2⟩ | ⟨h0, h1⟩
      · subst h0
        rw [if_pos (.inl rfl)] at HPE
        go_wp2_with fail
        rw [HPE.out]
        exact ret_dv2 rfl rfl rfl HF.out rfl ⟨.slice none 0 0, rfl, .nil _ _ _ (by unfold maxLen; omega) (fun _ => rfl), HQF.out⟩
      · subst h1
        subst h2
        rw [if_pos (.inr ⟨rfl, rfl⟩)] at HPE
        have hnz : ((n : Int) == 0) = false := beq_eq_false_iff_ne.2 (by omega)
        go_wp2_with fail
        rw [HPE.out]
        exact ret_dv2 rfl rfl rfl HF.out rfl ⟨.slice none 0 0, rfl, .nil _ _ _ (by unfold maxLen; omega) (fun _ => rfl), HQF.out⟩
      · subst h1
        rw [if_neg (by omega)] at HPE
        have hnz : ((n : Int) == 0) = false := beq_eq_false_iff_ne.2 (by omega)
        have hsz : ((sc : Int) == 0) = false := beq_eq_false_iff_ne.2 (by omega)
        by_cases h3 : 1000 < sc
        · rw [if_pos h3] at HPE
          rw [show decide ((sc : Int) ≤ 1000) = false from decide_eq_false (by omega)] at MS
          go_wp2_with fail
          refine (MS.out _).mono ?_
          rintro e y ⟨rfl, rfl⟩
          go_wp2_with fail
          rw [HPE.out]
          exact ret_dv2 rfl rfl rfl HF.out rfl ⟨.slice none 0 0, rfl, .nil _ _ _ (by unfold maxLen; omega) (fun _ => rfl), HQF.out⟩
        · rw [if_neg h3] at HPE
          rw [show decide ((sc : Int) ≤ 1000) = true from decide_eq_true (by omega)] at MS
          go_wp2_with fail
          refine (MS.out _).mono ?_
          rintro e y ⟨rfl, rfl⟩
          go_wp2_with fail
          rw [HPE.out]
          exact ret_dv2 rfl rfl rfl HG.out.1 rfl ⟨_, rfl, HG.out.2.1, HG.out.2.2⟩
      · subst h1
        rw [if_neg (by simp; omega)] at HPE
        have hnz : ((n : Int) == 0) = false := beq_eq_false_iff_ne.2 (by omega)
        by_cases h3 : 1000 < sc
        · rw [if_pos h3] at HPE
          rw [show decide ((sc : Int) ≤ 1000) = false from decide_eq_false (by omega)] at MS
          go_wp2_with fail
          refine (MS.out _).mono ?_
          rintro e y ⟨rfl, rfl⟩
          go_wp2_with fail
          rw [HPE.out]
          exact ret_dv2 rfl rfl rfl HF.out rfl ⟨.slice none 0 0, rfl, .nil _ _ _ (by unfold maxLen; omega) (fun _ => rfl), HQF.out⟩
        · rw [if_neg h3] at HPE
          rw [show decide ((sc : Int) ≤ 1000) = true from decide_eq_true (by omega)] at MS
          go_wp2_with fail
          refine (MS.out _).mono ?_
          rintro e y ⟨rfl, rfl⟩
          go_wp2_with fail
          rw [HPE.out]
          exact ret_dv2 rfl rfl rfl HG.out.1 rfl ⟨_, rfl, HG.out.2.1, HG.out.2.2⟩
end Ep
end Go.Proofs.YtagpofhencpliaaGreatDoor
