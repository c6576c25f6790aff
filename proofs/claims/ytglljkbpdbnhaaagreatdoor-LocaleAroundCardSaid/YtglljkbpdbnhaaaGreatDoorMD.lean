/- Rows of pairs and of triples in memory. How a row of the table is looked through for a character, range by range. What the functions on a character's class answer, by a walk through each. What the document's own answers on classes come to, by a walk through each. What class.Blank, class.Plain and class.Name answer, by a walk through each. -/
import Derived.Test.YtglljkbpdbnhaaaGreatDoorRows
import Derived.Test.YtglljkbpdbnhaaaGreatDoorMB
import Derived.Test.YtglljkbpdbnhaaaGreatDoorMA
import Derived.Deep.QuietTactic
import Derived.Deep.CutRange
import Derived.Deep.CutBlock
import Derived.Deep.DeepCutAuto
import Derived.BigQuiet
set_option linter.unusedVariables false
set_option linter.unusedSimpArgs false
namespace Go.Proofs.YtglljkbpdbnhaaaGreatDoor
open Go.RowKit Cm

/-- Pairs as cells. -/
def flat2 (l : List (Int × Int)) : List Value := l.flatMap fun r => [.int .i64 r.1, .int .i64 r.2]
theorem flat2_get (l : List (Int × Int)) (i : Nat) (h : i < l.length) :
    (flat2 l)[i * 2]? = some (.int .i64 (l.getD i (0, 0)).1) ∧ (flat2 l)[i * 2 + 1]? = some (.int .i64 (l.getD i (0, 0)).2) := by
  induction l generalizing i with
  | nil => simp at h
  | cons r l ih =>
    cases i with
    | zero => simp [flat2]
    | succ i =>
      have := ih i (by simpa using h)
      have e : flat2 (r :: l) = .int .i64 r.1 :: .int .i64 r.2 :: flat2 l := by simp [flat2]
      rw [e, show (i + 1) * 2 = i * 2 + 1 + 1 from by omega]
      simpa using this
/-- A value that reads as a list of pairs. -/
def PRow (w : World) (v : Value) (l : List (Int × Int)) : Prop :=
  ∃ a, v = .slice a l.length l.length ∧ ∀ i, i < l.length → ∃ g, a = some ⟨g, 0, none⟩ ∧ g < w.heap.size ∧ w.cell? ⟨g, i * 2, none⟩ = some (.int .i64 (l.getD i (0, 0)).1) ∧ w.cell? ⟨g, i * 2 + 1, none⟩ = some (.int .i64 (l.getD i (0, 0)).2)
theorem PRow.q {w w' : World} {v : Value} {l : List (Int × Int)} (h : PRow w v l) (hq : Q w w') : PRow w' v l := by
  obtain ⟨a, hv, hc⟩ := h
  refine ⟨a, hv, fun i hi => ?_⟩
  obtain ⟨g, ha, hg, h1, h2⟩ := hc i hi
  refine ⟨g, ha, Nat.lt_of_lt_of_le hg hq.le, ?_, ?_⟩
  · rw [World.cell?_of_block (w := w) (hq.block hg)]; exact h1
  · rw [World.cell?_of_block (w := w) (hq.block hg)]; exact h2
theorem PRow.nil (w : World) : PRow w (.slice none 0 0) [] := ⟨none, rfl, fun i h => by simp at h⟩
theorem PRow.made (w : World) (l : List (Int × Int)) (n : Nat) (hn : l.length = n) (t : TypeId) (cs : Array Value) (hcs : cs = (flat2 l).toArray) :
    PRow (w.alloc (.cells cs t)) (.slice (some ⟨w.heap.size, 0, none⟩) n n) l := by
  subst hn hcs
  refine ⟨_, rfl, fun i hi => ⟨w.heap.size, rfl, by simp, ?_, ?_⟩⟩
  · rw [World.cell?_alloc_at _ _ _ _ rfl]; simpa using (flat2_get l i hi).1
  · rw [World.cell?_alloc_at _ _ _ _ rfl]; simpa using (flat2_get l i hi).2

/-- Triples as cells. -/
def flat3 (l : List (Int × Int × Int)) : List Value := l.flatMap fun r => [.int .i64 r.1, .int .i64 r.2.1, .int .i64 r.2.2]
theorem flat3_get (l : List (Int × Int × Int)) (i : Nat) (h : i < l.length) :
    (flat3 l)[i * 3]? = some (.int .i64 (l.getD i (0, 0, 0)).1) ∧ (flat3 l)[i * 3 + 1]? = some (.int .i64 (l.getD i (0, 0, 0)).2.1) ∧ (flat3 l)[i * 3 + 2]? = some (.int .i64 (l.getD i (0, 0, 0)).2.2) := by
  induction l generalizing i with
  | nil => simp at h
  | cons r l ih =>
    cases i with
    | zero => simp [flat3]
    | succ i =>
      have := ih i (by simpa using h)
      have e : flat3 (r :: l) = .int .i64 r.1 :: .int .i64 r.2.1 :: .int .i64 r.2.2 :: flat3 l := by simp [flat3]
      rw [e, show (i + 1) * 3 = i * 3 + 1 + 1 + 1 from by omega]
      simpa using this
/-- A value that reads as a list of triples: its block is g. -/
def TRow (w : World) (g : Nat) (l : List (Int × Int × Int)) : Prop :=
  g < w.heap.size ∧ ∀ i, i < l.length → w.cell? ⟨g, i * 3, none⟩ = some (.int .i64 (l.getD i (0, 0, 0)).1) ∧ w.cell? ⟨g, i * 3 + 1, none⟩ = some (.int .i64 (l.getD i (0, 0, 0)).2.1) ∧ w.cell? ⟨g, i * 3 + 2, none⟩ = some (.int .i64 (l.getD i (0, 0, 0)).2.2)
theorem TRow.q {w w' : World} {g : Nat} {l : List (Int × Int × Int)} (h : TRow w g l) (hq : Q w w') : TRow w' g l := by
  obtain ⟨hg, hc⟩ := h
  refine ⟨Nat.lt_of_lt_of_le hg hq.le, fun i hi => ?_⟩
  obtain ⟨h1, h2, h3⟩ := hc i hi
  exact ⟨(World.cell?_of_block (w := w) (hq.block hg)).trans h1, (World.cell?_of_block (w := w) (hq.block hg)).trans h2, (World.cell?_of_block (w := w) (hq.block hg)).trans h3⟩
theorem TRow.made (w : World) (l : List (Int × Int × Int)) (t : TypeId) (cs : Array Value) (hcs : cs = (flat3 l).toArray) :
    TRow (w.alloc (.cells cs t)) w.heap.size l := by
  subst hcs
  refine ⟨by simp, fun i hi => ⟨?_, ?_, ?_⟩⟩
  · rw [World.cell?_alloc_at _ _ _ _ rfl]; simpa using (flat3_get l i hi).1
  · rw [World.cell?_alloc_at _ _ _ _ rfl]; simpa using (flat3_get l i hi).2.1
  · rw [World.cell?_alloc_at _ _ _ _ rfl]; simpa using (flat3_get l i hi).2.2

end Go.Proofs.YtglljkbpdbnhaaaGreatDoor

set_option linter.unusedVariables false
set_option linter.unusedSimpArgs false
namespace Go.Proofs.YtglljkbpdbnhaaaGreatDoor
open Go.RowKit Cm
set_option maxHeartbeats 400000 in
theorem of1_any (a b c : Int) (p : Addr) (w : World) (hc : w.cell? p = some (.int .i64 c)) :
    Calls Tryz.prog 161 #[.int .i64 a, .int .i64 b, .pointer (some p)] w fun e w' => e = .returned (.bool (inR c (a, b))) ∧ w = w' := by
  by_cases h1 : a ≤ c
  · by_cases h2 : c ≤ b
    · have HF : Hid (inR c (a, b) = true) := Lib.hid (by simp [inR, h1, h2])
      go_enter Tryz.func161, Tryz.ntmps161
      go_wp2_with fail
      go_ret
      rw [HF.out]
      exact ⟨rfl, rfl⟩
    · have HF : Hid (inR c (a, b) = false) := Lib.hid (by simp [inR, h2])
      go_enter Tryz.func161, Tryz.ntmps161
      go_wp2_with fail
      go_ret
      rw [HF.out]
      exact ⟨rfl, rfl⟩
  · have HF : Hid (inR c (a, b) = false) := Lib.hid (by simp [inR, h1])
    go_enter Tryz.func161, Tryz.ntmps161
    go_wp2_with fail
    go_ret
    rw [HF.out]
    exact ⟨rfl, rfl⟩

set_option maxRecDepth 100000 in
set_option maxHeartbeats 1000000 in
theorem each_of (k c : Int) (pb : Nat) (w : World) (hp : pb < w.heap.size) (hc : w.cell? ⟨pb, 0, none⟩ = some (.int .i64 c)) :
    Calls Tryz.prog 162 #[.int .i64 k, .func (.func 161) #[] #[.pointer (some ⟨pb, 0, none⟩)]] w fun e w' => e = .returned (.bool ((rowZ k).any (inR c))) ∧ Q w w' := by
  go_enter Tryz.func162, Tryz.ntmps162
  go_upto_block 0 with fail
  go_cut [5] (fun s wx => PRow wx s (rowZ k) ∧ Q w wx)
  case first =>
    by_cases h : ¬ (1 ≤ k ∧ k ≤ 11) ∧ ¬ k = 14
    · have h1 : (k == 1) = false := by rw [beq_eq_false_iff_ne]; omega
      have h2 : (k == 2) = false := by rw [beq_eq_false_iff_ne]; omega
      have h3 : (k == 3) = false := by rw [beq_eq_false_iff_ne]; omega
      have h4 : (k == 4) = false := by rw [beq_eq_false_iff_ne]; omega
      have h5 : (k == 5) = false := by rw [beq_eq_false_iff_ne]; omega
      have h6 : (k == 6) = false := by rw [beq_eq_false_iff_ne]; omega
      have h7 : (k == 7) = false := by rw [beq_eq_false_iff_ne]; omega
      have h8 : (k == 8) = false := by rw [beq_eq_false_iff_ne]; omega
      have h9 : (k == 9) = false := by rw [beq_eq_false_iff_ne]; omega
      have h10 : (k == 10) = false := by rw [beq_eq_false_iff_ne]; omega
      have h11 : (k == 11) = false := by rw [beq_eq_false_iff_ne]; omega
      have h14 : (k == 14) = false := by rw [beq_eq_false_iff_ne]; omega
      go_wp2_with fail
      go_meet
      case rel => exact ⟨by rw [rowZ_none h]; exact PRow.nil _, Q.refl _⟩
    · have : k = 1 ∨ k = 2 ∨ k = 3 ∨ k = 4 ∨ k = 5 ∨ k = 6 ∨ k = 7 ∨ k = 8 ∨ k = 9 ∨ k = 10 ∨ k = 11 ∨ k = 14 := by omega
      clear h
      rcases this with rfl | rfl | rfl | rfl | rfl | rfl | rfl | rfl | rfl | rfl | rfl | rfl
      all_goals
        go_wp2_with fail
        go_meet
        case rel => exact ⟨PRow.made w (rowZ _) _ (by kernel_rfl) _ _ (by kernel_rfl), (Q.refl _).alloc _⟩
  case rest =>
    obtain ⟨⟨a, rfl, hcell⟩, hq0⟩ := hcut
    have hl18 := rowZ_len k
    generalize hL : (rowZ k).length = n at *
    have HL := Lib.hid hL
    have hcw : wc.cell? ⟨pb, 0, none⟩ = some (.int .i64 c) := (World.cell?_of_block (w := w) (hq0.block hp)).trans hc
    have HC := Lib.hid hcell
    clear hL hcell
    go_wp2_with fail
    go_loopw [113] (fun i wr => ∃ j : Nat, i = .int .i64 j ∧ j ≤ n ∧ Q wc wr ∧ ((rowZ k).take j).any (inR c) = false) (fun i _ => n - (intOf i).toNat)
    case atStart => exact ⟨0, rfl, by omega, Q.refl _, rfl⟩
    case round =>
      obtain ⟨j, rfl, hj, hq, hany⟩ := hrel
      have HA := Lib.hid hany
      clear hany
      by_cases hlt : j < n
      · obtain ⟨g, rfl, hg, c1, c2⟩ := HC.out j hlt
        have d1 := (World.cell?_of_block (w := wc) (hq.block hg)).trans c1
        have d2 := (World.cell?_of_block (w := wc) (hq.block hg)).trans c2
        have d3 : (wr.alloc (.cells #[.int .i64 ((rowZ k).getD j (0, 0)).1, .int .i64 ((rowZ k).getD j (0, 0)).2] 214)).cell? ⟨pb, 0, none⟩ = some (.int .i64 c) := by
          rw [World.cell?_alloc_past _ _ _ (Nat.lt_of_lt_of_le (Nat.lt_of_lt_of_le hp hq0.le) hq.le)]
          exact (World.cell?_of_block (w := wc) (hq.block (Nat.lt_of_lt_of_le hp hq0.le))).trans hcw
        have hts : ((rowZ k).take (j + 1)).any (inR c) = (((rowZ k).take j).any (inR c) || inR c ((rowZ k).getD j (0, 0))) := by
          have hlt' : j < (rowZ k).length := by rw [HL.out]; exact hlt
          rw [List.take_succ_eq_append_getElem hlt', List.any_append, List.getD_eq_getElem?_getD, List.getElem?_eq_getElem hlt']
          simp
        have hin : inR c ((rowZ k).getD j (0, 0)) = true → (rowZ k).any (inR c) = true := by
          intro h
          have hlt' : j < (rowZ k).length := by rw [HL.out]; exact hlt
          rw [List.getD_eq_getElem?_getD, List.getElem?_eq_getElem hlt'] at h
          rw [List.any_eq_true]
          exact ⟨_, List.getElem_mem hlt', by simpa using h⟩
        have HT := Lib.hid hts
        have HI := Lib.hid hin
        clear hts hin c1 c2 HC
        obtain ⟨⟨r1, r2⟩, hr⟩ : ∃ r, r = (rowZ k).getD j (0, 0) := ⟨_, rfl⟩
        rw [← hr] at d1 d2 d3 HT HI
        clear hr
        simp only at d1 d2 d3
        have hcl := of1_any r1 r2 c ⟨pb, 0, none⟩ _ d3
        cases hb : inR c (r1, r2)
        · rw [hb] at hcl
          have HCL := Lib.hid hcl
          have HB := Lib.hid hb
          clear hcl hb
          go_wp2_with fail
          refine HCL.out.mono ?_
          rintro e w' ⟨rfl, rfl⟩
          go_wp2_with fail
          go_roundw
          case rel => exact ⟨j + 1, by go_num, by omega, hq.alloc _, by rw [HT.out, HA.out, HB.out]; rfl⟩
          case measure => simp [intOf]; omega
        · rw [hb] at hcl
          have HCL := Lib.hid hcl
          have HB := Lib.hid hb
          clear hcl hb
          go_wp2_with fail
          refine HCL.out.mono ?_
          rintro e w' ⟨rfl, rfl⟩
          go_wp2_with fail
          go_ret
          exact ⟨retB (HI.out HB.out).symm, (hq0.trans hq).alloc _⟩
      · have hall : (rowZ k).any (inR c) = false := by
          have := HA.out
          rw [List.take_of_length_le (by rw [HL.out]; omega)] at this
          exact this
        have HF := Lib.hid hall
        clear hall HC
        go_wp2_with fail
        go_ret
        rw [HF.out]
        exact ⟨rfl, hq0.trans hq⟩
end Go.Proofs.YtglljkbpdbnhaaaGreatDoor

set_option linter.unusedVariables false
set_option linter.unusedSimpArgs false
namespace Go.Proofs.YtglljkbpdbnhaaaGreatDoor
open Go.RowKit Cm

set_option maxHeartbeats 400000 in
theorem syllable_any (c : Int) (w : World) (h : syll c) :
    Calls Tryz.prog 160 #[.int .i64 c] w fun e w' => e = .returned (.int .i64 (cls c)) ∧ w = w' := by
  obtain ⟨h1, h2⟩ := h
  by_cases h0 : (c - 44032) % 28 = 0
  · have HF : Hid ((cls c : Int) = 12) := Lib.hid (by rw [cls_lv ⟨h1, h2⟩ h0]; rfl)
    go_enter Tryz.func160, Tryz.ntmps160
    go_wp2_with fail
    go_ret
    rw [HF.out]
    exact ⟨rfl, rfl⟩
  · have HF : Hid ((cls c : Int) = 13) := Lib.hid (by rw [cls_lvt ⟨h1, h2⟩ h0]; rfl)
    go_enter Tryz.func160, Tryz.ntmps160
    go_wp2_with fail
    go_ret
    rw [HF.out]
    exact ⟨rfl, rfl⟩

set_option maxHeartbeats 800000 in
theorem of_any (c : Int) (w : World) :
    Calls Tryz.prog 144 #[.int .i64 c] w fun e w' => e = .returned (.int .i64 (cls c)) ∧ Q w w' := by
  have hcw : (w.alloc (.cells #[.int .i64 c] 3)).cell? ⟨w.heap.size, 0, none⟩ = some (.int .i64 c) := by
    rw [World.cell?_alloc_at _ _ _ _ rfl]; rfl
  by_cases hs : syll c
  · have HS := Lib.hid (fun w => syllable_any c w hs)
    obtain ⟨h1, h2⟩ := hs
    go_enter Tryz.func144, Tryz.ntmps144
    go_wp2_with fail
    refine (HS.out _).mono ?_
    rintro e w' ⟨rfl, rfl⟩
    go_wp2_with fail
    go_ret
    exact ⟨rfl, (Q.refl _).alloc _⟩
  · have hs' : ¬ (44032 ≤ c ∧ c ≤ 55203) := hs
    have HN := Lib.hid hs
    have hcase : (44032 ≤ c ∧ ¬ c ≤ 55203) ∨ ¬ 44032 ≤ c := by omega
    clear hs hs'
    rcases hcase with ⟨h1, h2⟩ | h1
    all_goals
      go_enter Tryz.func144, Tryz.ntmps144
      go_wp2_with fail
      go_loopw [14] (fun i wr => ∃ j : Nat, i = .int .i64 j ∧ j ≤ 15 ∧ Q (w.alloc (.cells #[.int .i64 c] 3)) wr ∧ ∀ m, m < j → anyK c m = false) (fun i _ => 15 - (intOf i).toNat)
      case atStart => exact ⟨0, rfl, by omega, Q.refl _, fun m h => by omega⟩
      case round =>
        obtain ⟨j, rfl, hj, hq, hall⟩ := hrel
        have HA := Lib.hid hall
        clear hall
        by_cases hlt : j < 15
        · have hsz : w.heap.size < wr.heap.size := by have := hq.le; simp at this; omega
          have hcr : wr.cell? ⟨w.heap.size, 0, none⟩ = some (.int .i64 c) := (World.cell?_of_block (w := w.alloc (.cells #[.int .i64 c] 3)) (hq.block (by simp))).trans hcw
          have he := each_of j c w.heap.size wr hsz hcr
          have e1 : (rowZ (j : Int)).any (inR c) = anyK c j := by rw [rowZ_nat]; rfl
          rw [e1] at he
          clear e1
          cases hb : anyK c j
          all_goals
            rw [hb] at he
            have HE := Lib.hid he
            have HB := Lib.hid hb
            clear he hb
            go_wp2_with fail
            refine HE.out.mono ?_
            rintro e w1 ⟨rfl, hq1⟩
            go_wp2_with fail
          · go_roundw
            case rel => exact ⟨j + 1, by go_num, by omega, hq.trans hq1, fun m hm => by
              by_cases h : m = j
              · subst h; exact HB.out
              · exact HA.out m (by omega)⟩
            case measure => simp [intOf]; omega
          · go_ret
            rw [cls_at HN.out hlt HA.out HB.out]
            exact ⟨rfl, (((Q.refl _).alloc _).trans hq).trans hq1⟩
        · have hje : j = 15 := by omega
          have hF : (cls c : Int) = 0 := by rw [cls_no HN.out (by rw [← hje]; exact HA.out)]; rfl
          have HF := Lib.hid hF
          clear hF hje
          go_wp2_with fail
          go_ret
          rw [HF.out]
          exact ⟨rfl, ((Q.refl _).alloc _).trans hq⟩

theorem cls_769 : cls 769 = 4 := by decide +kernel
theorem cls_44033 : cls 44033 = 13 := by decide +kernel
end Go.Proofs.YtglljkbpdbnhaaaGreatDoor

set_option linter.unusedVariables false
set_option linter.unusedSimpArgs false
namespace Go.Proofs.YtglljkbpdbnhaaaGreatDoor
open Go.RowKit Cm Um
namespace Cr

theorem table_run (w : World) :
    Calls Tryz.prog 167 #[] w fun e w' => e = .returned (.slice (some ⟨w.heap.size, 0, none⟩) 66 66) ∧ w' = w.alloc (.cells (flat3 tab).toArray 207) :=
  calls_runF Tryz.func167 (by rfl) (W := w.alloc (.cells (flat3 tab).toArray 207)) (v := .slice (some ⟨w.heap.size, 0, none⟩) 66 66) (by kernel_rfl) ⟨rfl, rfl⟩
theorem table_any (w : World) :
    Calls Tryz.prog 167 #[] w fun e w' => ∃ g, e = .returned (.slice (some ⟨g, 0, none⟩) 66 66) ∧ TRow w' g tab ∧ Q w w' := by
  refine (table_run w).mono ?_
  rintro e w' ⟨rfl, rfl⟩
  exact ⟨_, rfl, TRow.made w tab _ _ rfl, (Q.refl _).alloc _⟩

theorem tab_take (c : Int) (j : Nat) (h : j < 66) : (tab.take (j + 1)).any (inT c) = ((tab.take j).any (inT c) || inT c (tab.getD j (0, 0, 0))) := by
  have hl : j < tab.length := by rw [tab_len]; exact h
  rw [List.take_succ_eq_append_getElem hl, List.any_append, List.getD_eq_getElem?_getD, List.getElem?_eq_getElem hl]
  simp

set_option maxHeartbeats 800000 in
theorem of_any (c : Int) (w : World) :
    Calls Tryz.prog 149 #[.int .i64 c] w fun e w' => e = .returned (.int .i64 (cls c)) ∧ Q w w' := by
  by_cases hs : syll c
  · by_cases h0 : (c - 44032) % 28 = 0
    · have HF : Hid ((cls c : Int) = 12) := Lib.hid (by rw [cls_lv hs h0]; rfl)
      obtain ⟨h1, h2⟩ := hs
      go_enter Tryz.func149, Tryz.ntmps149
      go_wp2_with fail
      go_ret
      rw [HF.out]
      exact ⟨rfl, Q.refl _⟩
    · have HF : Hid ((cls c : Int) = 13) := Lib.hid (by rw [cls_lvt hs h0]; rfl)
      obtain ⟨h1, h2⟩ := hs
      go_enter Tryz.func149, Tryz.ntmps149
      go_wp2_with fail
      go_ret
      rw [HF.out]
      exact ⟨rfl, Q.refl _⟩
  · have HN := Lib.hid hs
    have hcase : (44032 ≤ c ∧ ¬ c ≤ 55203) ∨ ¬ 44032 ≤ c := by have : ¬ (44032 ≤ c ∧ c ≤ 55203) := hs; omega
    clear hs
    rcases hcase with ⟨h1, h2⟩ | h1
    all_goals
      go_enter Tryz.func149, Tryz.ntmps149
      go_wp2_with fail
      refine (table_any _).mono ?_
      rintro e w1 ⟨g, rfl, htab, hq1⟩
      go_wp2_with fail
      go_loopw [4] (fun i wr => ∃ j : Nat, i = .int .i64 j ∧ j ≤ 66 ∧ Q w1 wr ∧ (tab.take j).any (inT c) = false) (fun i _ => 66 - (intOf i).toNat)
      case atStart => exact ⟨0, rfl, by omega, Q.refl _, rfl⟩
      case round =>
        obtain ⟨j, rfl, hj, hq, hany⟩ := hrel
        have HA := Lib.hid hany
        clear hany
        by_cases hlt : j < 66
        · obtain ⟨c1, c2, c3⟩ := (htab.q hq).2 j (by rw [tab_len]; exact hlt)
          have HT := Lib.hid (tab_take c j hlt)
          have HC := Lib.hid (fun h => tab_at HN.out hlt HA.out h)
          obtain ⟨⟨r1, r2, r3⟩, hr⟩ : ∃ r, r = tab.getD j (0, 0, 0) := ⟨_, rfl⟩
          rw [← hr] at c1 c2 c3 HT HC
          clear hr
          simp only at c1 c2 c3
          have hcase : (r1 ≤ c ∧ c ≤ r2 ∧ Hid (inT c (r1, r2, r3) = true)) ∨ (r1 ≤ c ∧ ¬ c ≤ r2 ∧ Hid (inT c (r1, r2, r3) = false)) ∨ (¬ r1 ≤ c ∧ Hid (inT c (r1, r2, r3) = false)) := by
            by_cases h1 : r1 ≤ c
            · by_cases h2 : c ≤ r2
              · exact .inl ⟨h1, h2, Lib.hid (by simp [inT, inR, h1, h2])⟩
              · exact .inr (.inl ⟨h1, h2, Lib.hid (by simp [inT, inR, h2])⟩)
            · exact .inr (.inr ⟨h1, Lib.hid (by simp [inT, inR, h1])⟩)
          rcases hcase with ⟨g1, g2, HB⟩ | ⟨g1, g2, HB⟩ | ⟨g1, HB⟩
          · go_wp2_with fail
            go_ret
            have := HC.out HB.out
            rw [this]
            exact ⟨rfl, hq1.trans hq⟩
          all_goals
            go_wp2_with fail
            go_roundw
            case rel => exact ⟨j + 1, by go_num, by omega, hq, by rw [HT.out, HA.out, HB.out]; rfl⟩
            case measure => simp [intOf]; omega
        · have hF : (cls c : Int) = 0 := by
            have := HA.out
            rw [List.take_of_length_le (by rw [tab_len]; omega)] at this
            rw [tab_no HN.out this]; rfl
          have HF := Lib.hid hF
          clear hF
          go_wp2_with fail
          go_ret
          rw [HF.out]
          exact ⟨rfl, hq1.trans hq⟩

end Cr
end Go.Proofs.YtglljkbpdbnhaaaGreatDoor

set_option linter.unusedVariables false
set_option linter.unusedSimpArgs false
namespace Go.Proofs.YtglljkbpdbnhaaaGreatDoor
open Go.RowKit Cm

set_option maxHeartbeats 800000 in
theorem plain_any (v : Value) (xs : List Int) (w : World) (hv : Lst w v xs) (hx : xs.length ≤ 1073741824) :
    Calls Tryz.prog 120 #[v] w fun e w' => e = .returned (.bool (plainB xs)) ∧ Q w w' := by
  obtain ⟨a, cp, rfl⟩ := hv.shape
  obtain ⟨n, hn⟩ : ∃ n, n = xs.length := ⟨_, rfl⟩
  rw [← hn] at hv hx ⊢
  have HN := Lib.hid hn
  clear hn
  go_enter Tryz.func120, Tryz.ntmps120
  go_wp2_with fail
  go_loopw [8] (fun i wr => ∃ j : Nat, i = .int .i64 j ∧ j ≤ n ∧ Q w wr ∧ plP (xs.take j) = true) (fun i _ => n - (intOf i).toNat)
  case atStart => exact ⟨0, rfl, by omega, Q.refl _, rfl⟩
  case round =>
    obtain ⟨j, rfl, hj, hq, hpl⟩ := hrel
    have HP := Lib.hid hpl
    clear hpl
    by_cases hlt : j < n
    · obtain ⟨g, off, cap, hvv, hg, _, _, hca⟩ := hv.cellOf HN.out.symm hlt
      cases hvv
      have c1 : wr.cell? ⟨g, off + j, none⟩ = some (.int .i64 (xs.getD j 0)) := (World.cell?_of_block (w := w) (hq.block hg)).trans hca
      have HT := Lib.hid (plP_take xs j (by rw [← HN.out]; exact hlt))
      have HFT := Lib.hid (plP_false_take xs (j + 1))
      clear hca
      obtain ⟨c, hc⟩ : ∃ c, c = xs.getD j 0 := ⟨_, rfl⟩
      rw [← hc] at c1 HT
      clear hc
      obtain ⟨k, hk⟩ : ∃ k, k = cls c := ⟨_, rfl⟩
      have hof := fun w => of_any c w
      rw [← hk] at hof HT
      have HOF := Lib.hid hof
      clear hof hk
      have hres : ∀ b, plP (xs.take (j + 1)) = b → b = false → plainB xs = false := by
        intro b h1 h2
        unfold plainB
        rw [HFT.out (h1.trans h2)]; rfl
      have HRES := Lib.hid hres
      clear hres
      have hcase : (k = 0 ∧ j = 0) ∨ (k = 0 ∧ 0 < j) ∨ (k = 4 ∧ j = 0) ∨ (k = 4 ∧ 0 < j) ∨ (¬ k = 0 ∧ ¬ k = 4) := by omega
      rcases hcase with ⟨rfl, rfl⟩ | ⟨rfl, h0⟩ | ⟨rfl, rfl⟩ | ⟨rfl, h0⟩ | ⟨h0, h4⟩
      · have HB : Hid (plP (xs.take (0 + 1)) = true) := Lib.hid (by rw [HT.out, HP.out]; simp)
        rw [Nat.add_zero] at c1
        go_wp2_with fail
        refine (HOF.out _).mono ?_
        rintro e w1 ⟨rfl, hq1⟩
        go_wp2_with fail
        go_roundw
        case rel => exact ⟨0 + 1, by go_num, by omega, hq.trans hq1, HB.out⟩
        case measure => simp [intOf]; omega
      · have HB : Hid (plP (xs.take (j + 1)) = true) := Lib.hid (by rw [HT.out, HP.out]; simp)
        have e1 : ((j : Int) == 0) = false := by rw [beq_eq_false_iff_ne]; omega
        go_wp2_with fail
        refine (HOF.out _).mono ?_
        rintro e w1 ⟨rfl, hq1⟩
        go_wp2_with fail
        go_roundw
        case rel => exact ⟨j + 1, by go_num, by omega, hq.trans hq1, HB.out⟩
        case measure => simp [intOf]; omega
      · have HB : Hid (plainB xs = false) := Lib.hid (HRES.out _ rfl (by rw [HT.out, HP.out]; simp))
        rw [Nat.add_zero] at c1
        go_wp2_with fail
        refine (HOF.out _).mono ?_
        rintro e w1 ⟨rfl, hq1⟩
        go_wp2_with fail
        go_ret
        rw [HB.out]
        exact ⟨rfl, hq.trans hq1⟩
      · have HB : Hid (plP (xs.take (j + 1)) = true) := Lib.hid (by rw [HT.out, HP.out]; simp [h0])
        have e1 : ((j : Int) == 0) = false := by rw [beq_eq_false_iff_ne]; omega
        go_wp2_with fail
        refine (HOF.out _).mono ?_
        rintro e w1 ⟨rfl, hq1⟩
        go_wp2_with fail
        go_roundw
        case rel => exact ⟨j + 1, by go_num, by omega, hq.trans hq1, HB.out⟩
        case measure => simp [intOf]; omega
      · have HB : Hid (plainB xs = false) := Lib.hid (HRES.out _ rfl (by rw [HT.out, HP.out]; simp [h0, h4]))
        have e1 : ((k : Int) == 0) = false := by rw [beq_eq_false_iff_ne]; omega
        have e2 : ((k : Int) == 4) = false := by rw [beq_eq_false_iff_ne]; omega
        have e3 : ((k : Int) != 0) = true := by rw [bne_iff_ne]; omega
        have e4 : ((k : Int) != 4) = true := by rw [bne_iff_ne]; omega
        go_wp2_with fail
        refine (HOF.out _).mono ?_
        rintro e w1 ⟨rfl, hq1⟩
        go_wp2_with fail
        all_goals
          go_ret
          rw [HB.out]
          exact ⟨rfl, hq.trans hq1⟩
    · have hje : j = n := by omega
      have hF : plainB xs = decide (0 < n) := by
        have := HP.out
        rw [List.take_of_length_le (by rw [← HN.out]; omega)] at this
        unfold plainB
        rw [this, ← HN.out]; rfl
      have HF := Lib.hid hF
      clear hF hje
      go_wp2_with fail
      go_ret
      rw [HF.out]
      exact ⟨retB (by simp), hq⟩

end Go.Proofs.YtglljkbpdbnhaaaGreatDoor
