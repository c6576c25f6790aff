/- Whether two patterns are the same, as the program tells it. (and more) -/
import Derived.Test.YtnlfeamhedihpaaGreatDoorR00
import Derived.Test.YtnlfeamhedihpaaGreatDoorR02
import Derived.Test.YtnlfeamhedihpaaGreatDoorR01
import Derived.Test.YtnlfeamhedihpaaGreatDoorR14
import Derived.Test.YtnlfeamhedihpaaGreatDoorRows
import Derived.Test.YtnlfeamhedihpaaGreatDoorR06
import Derived.Test.YtnlfeamhedihpaaGreatDoorR04
import Derived.Deep.QuietTactic
import Derived.BigQuiet
set_option linter.unusedVariables false
set_option linter.unusedSimpArgs false
namespace Go.Proofs.YtnlfeamhedihpaaGreatDoor
open Go.RowKit
namespace Pg
open Pt Um
@[reducible] def pv (a b c d : Value) (p s i m x : Int) : Value := .agg #[a, b, c, d, .int .i64 p, .int .i64 s, .int .i64 i, .int .i64 m, .int .i64 x]
def PV (w : World) (B : Nat) (v : Value) (X : Pat) : Prop := ∃ a b c d, v = pv a b c d X.pr X.se X.mi X.mf X.xf ∧ Pc.New w B a X.pre ∧ Pc.New w B b X.suf ∧ Pc.New w B c X.npre ∧ Pc.New w B d X.nsuf
theorem PV.q {w w' : World} {B : Nat} {v : Value} {X : Pat} (h : PV w B v X) (hq : Q w w') : PV w' B v X := by
  obtain ⟨a, b, c, d, h, h1, h2, h3, h4⟩ := h
  exact ⟨a, b, c, d, h, h1.q hq, h2.q hq, h3.q hq, h4.q hq⟩
theorem PV.mono {w : World} {B B' : Nat} {v : Value} {X : Pat} (h : PV w B v X) (hB : B' ≤ B) : PV w B' v X := by
  obtain ⟨a, b, c, d, h, h1, h2, h3, h4⟩ := h
  exact ⟨a, b, c, d, h, h1.mono hB, h2.mono hB, h3.mono hB, h4.mono hB⟩
def PS (X : Pat) : Prop := X.pre.length ≤ 1000000 ∧ X.suf.length ≤ 1000000 ∧ X.npre.length ≤ 1000000 ∧ X.nsuf.length ≤ 1000000
end Pg
end Go.Proofs.YtnlfeamhedihpaaGreatDoor
namespace Go.Proofs.YtnlfeamhedihpaaGreatDoor
open Go.RowKit Cm
set_option maxHeartbeats 400000 in
theorem syllable_any (c : Int) (w : World) (h : syll c) :
    Calls Tryz.prog 171 #[.int .i64 c] w fun e w' => e = .returned (.int .i64 (cls c)) ∧ w = w' := by
  obtain ⟨h1, h2⟩ := h
  by_cases h0 : (c - 44032) % 28 = 0
  · have HF : Hid ((cls c : Int) = 12) := Lib.hid (by rw [cls_lv ⟨h1, h2⟩ h0]; rfl)
    go_enter Tryz.func171, Tryz.ntmps171
    go_wp2_with fail
    go_ret
    rw [HF.out]
    exact ⟨rfl, rfl⟩
  · have HF : Hid ((cls c : Int) = 13) := Lib.hid (by rw [cls_lvt ⟨h1, h2⟩ h0]; rfl)
    go_enter Tryz.func171, Tryz.ntmps171
    go_wp2_with fail
    go_ret
    rw [HF.out]
    exact ⟨rfl, rfl⟩
set_option maxHeartbeats 800000 in
theorem of_any (c : Int) (w : World) :
    Calls Tryz.prog 159 #[.int .i64 c] w fun e w' => e = .returned (.int .i64 (cls c)) ∧ Q w w' := by
  have hcw : (w.alloc (.cells #[.int .i64 c] 3)).cell? ⟨w.heap.size, 0, none⟩ = some (.int .i64 c) := by
    rw [World.cell?_alloc_at _ _ _ _ rfl]; rfl
  by_cases hs : syll c
  · have HS := Lib.hid (fun w => syllable_any c w hs)
    obtain ⟨h1, h2⟩ := hs
    go_enter Tryz.func159, Tryz.ntmps159
    go_wp2_with fail
    refine (HS.out _).mono ?_
    rintro e w' ⟨rfl, rfl⟩
    go_wp2_with fail
    go_ret
    exact ⟨rfl, (Q.refl _).alloc _⟩
  · have hs' : ¬ (44032 ≤ c ∧ c ≤ 55203) := hs
    have HN := Lib.hid hs
    have hcase : (44032 ≤ c ∧ ¬ c ≤ 55203) ∨ ¬ 44032 ≤ c := by omega
    clear hs hs'
    rcases hcase with ⟨h1, h2⟩ | h1
    all_goals
      go_enter Tryz.func159, Tryz.ntmps159
      go_wp2_with fail
      go_loopw [14] (fun i wr => ∃ j : Nat, i = .int .i64 j ∧ j ≤ 15 ∧ Q (w.alloc (.cells #[.int .i64 c] 3)) wr ∧ ∀ m, m < j → anyK c m = false) (fun i _ => 15 - (intOf i).toNat)
      case atStart => exact ⟨0, rfl, by omega, Q.refl _, fun m h => by omega⟩
      case round =>
        obtain ⟨j, rfl, hj, hq, hall⟩ := hrel
        have HA := Lib.hid hall
        clear hall
        by_cases hlt : j < 15
        · have hsz : w.heap.size < wr.heap.size := by have := hq.le; simp at this; omega
          have hcr : wr.cell? ⟨w.heap.size, 0, none⟩ = some (.int .i64 c) := (World.cell?_of_block (w := w.alloc (.cells #[.int .i64 c] 3)) (hq.block (by simp))).trans hcw
          have he := each_of j c w.heap.size wr hsz hcr
          have e1 : (rowZ (j : Int)).any (inR c) = anyK c j := by rw [rowZ_nat]; rfl
          rw [e1] at he
          clear e1
          cases hb : anyK c j
          all_goals
            rw [hb] at he
            have HE := Lib.hid he
            have HB := Lib.hid hb
            clear he hb
            go_wp2_with fail
            refine HE.out.mono ?_
            rintro e w1 ⟨rfl, hq1⟩
            go_wp2_with fail
          · go_roundw
            case rel => exact ⟨j + 1, by go_num, by omega, hq.trans hq1, fun m hm => by
              by_cases h : m = j
              · subst h; exact HB.out
              · exact HA.out m (by omega)⟩
            case measure => simp [intOf]; omega
          · go_ret
            rw [cls_at HN.out hlt HA.out HB.out]
            exact ⟨rfl, (((Q.refl _).alloc _).trans hq).trans hq1⟩
        · have hje : j = 15 := by omega
          have hF : (cls c : Int) = 0 := by rw [cls_no HN.out (by rw [← hje]; exact HA.out)]; rfl
          have HF := Lib.hid hF
          clear hF hje
          go_wp2_with fail
          go_ret
          rw [HF.out]
          exact ⟨rfl, ((Q.refl _).alloc _).trans hq⟩
end Go.Proofs.YtnlfeamhedihpaaGreatDoor
namespace Go.Proofs.YtnlfeamhedihpaaGreatDoor
open Go.RowKit Cm
set_option maxHeartbeats 800000 in
theorem plain_any (v : Value) (xs : List Int) (w : World) (hv : Lst w v xs) (hx : xs.length ≤ 1073741824) :
    Calls Tryz.prog 131 #[v] w fun e w' => e = .returned (.bool (plainB xs)) ∧ Q w w' := by
  obtain ⟨a, cp, rfl⟩ := hv.shape
  obtain ⟨n, hn⟩ : ∃ n, n = xs.length := ⟨_, rfl⟩
  rw [← hn] at hv hx ⊢
  have HN := Lib.hid hn
  clear hn
  go_enter Tryz.func131, Tryz.ntmps131
  go_wp2_with fail
  go_loopw [8] (fun i wr => ∃ j : Nat, i = .int .i64 j ∧ j ≤ n ∧ Q w wr ∧ plP (xs.take j) = true) (fun i _ => n - (intOf i).toNat)
  case atStart => exact ⟨0, rfl, by omega, Q.refl _, rfl⟩
  case round =>
    obtain ⟨j, rfl, hj, hq, hpl⟩ := hrel
    have HP := Lib.hid hpl
    clear hpl
    by_cases hlt : j < n
    · obtain ⟨g, off, cap, hvv, hg, _, _, hca⟩ := hv.cellOf HN.out.symm hlt
      cases hvv
      have c1 : wr.cell? ⟨g, off + j, none⟩ = some (.int .i64 (xs.getD j 0)) := (World.cell?_of_block (w := w) (hq.block hg)).trans hca
      have HT := Lib.hid (plP_take xs j (by rw [← HN.out]; exact hlt))
      have HFT := Lib.hid (plP_false_take xs (j + 1))
      clear hca
      obtain ⟨c, hc⟩ : ∃ c, c = xs.getD j 0 := ⟨_, rfl⟩
      rw [← hc] at c1 HT
      clear hc
      obtain ⟨k, hk⟩ : ∃ k, k = cls c := ⟨_, rfl⟩
      have hof := fun w => of_any c w
      rw [← hk] at hof HT
      have HOF := Lib.hid hof
      clear hof hk
      have hres : ∀ b, plP (xs.take (j + 1)) = b → b = false → plainB xs = false := by
        intro b h1 h2
        unfold plainB
        rw [HFT.out (h1.trans h2)]; rfl
      have HRES := Lib.hid hres
      clear hres
      have hcase : (k = 0 ∧ j = 0) ∨ (k = 0 ∧ 0 < j) ∨ (k = 4 ∧ j = 0) ∨ (k = 4 ∧ 0 < j) ∨ (¬ k = 0 ∧ ¬ k = 4) := by omega
      rcases hcase with ⟨rfl, rfl⟩ | ⟨rfl, h0⟩ | ⟨rfl, rfl⟩ | ⟨rfl, h0⟩ | ⟨h0, h4⟩
      · have HB : Hid (plP (xs.take (0 + 1)) = true) := Lib.hid (by rw [HT.out, HP.out]; simp)
        rw [Nat.add_zero] at c1
        go_wp2_with fail
        refine (HOF.out _).mono ?_
        rintro e w1 ⟨rfl, hq1⟩
        go_wp2_with fail
        go_roundw
        case rel => exact ⟨0 + 1, by go_num, by omega, hq.trans hq1, HB.out⟩
        case measure => simp [intOf]; omega
      · have HB : Hid (plP (xs.take (j + 1)) = true) := Lib.hid (by rw [HT.out, HP.out]; simp)
        have e1 : ((j : Int) == 0) = false := by rw [beq_eq_false_iff_ne]; omega
        go_wp2_with fail
        refine (HOF.out _).mono ?_
        rintro e w1 ⟨rfl, hq1⟩
        go_wp2_with fail
        go_roundw
        case rel => exact ⟨j + 1, by go_num, by omega, hq.trans hq1, HB.out⟩
        case measure => simp [intOf]; omega
      · have HB : Hid (plainB xs = false) := Lib.hid (HRES.out _ rfl (by rw [HT.out, HP.out]; simp))
        rw [Nat.add_zero] at c1
        go_wp2_with fail
        refine (HOF.out _).mono ?_
        rintro e w1 ⟨rfl, hq1⟩
        go_wp2_with fail
        go_ret
        rw [HB.out]
        exact ⟨rfl, hq.trans hq1⟩
      · have HB : Hid (plP (xs.take (j + 1)) = true) := Lib.hid (by rw [HT.out, HP.out]; simp [h0])
        have e1 : ((j : Int) == 0) = false := by rw [beq_eq_false_iff_ne]; omega
        go_wp2_with fail
        refine (HOF.out _).mono ?_
        rintro e w1 ⟨rfl, hq1⟩
        go_wp2_with fail
        go_roundw
        case rel => exact ⟨j + 1, by go_num, by omega, hq.trans hq1, HB.out⟩
        case measure => simp [intOf]; omega
      · have HB : Hid (plainB xs = false) := Lib.hid (HRES.out _ rfl (by rw [HT.out, HP.out]; simp [h0, h4]))
        have e1 : ((k : Int) == 0) = false := by rw [beq_eq_false_iff_ne]; omega
        have e2 : ((k : Int) == 4) = false := by rw [beq_eq_false_iff_ne]; omega
        have e3 : ((k : Int) != 0) = true := by rw [bne_iff_ne]; omega
        have e4 : ((k : Int) != 4) = true := by rw [bne_iff_ne]; omega
        go_wp2_with fail
        refine (HOF.out _).mono ?_
        rintro e w1 ⟨rfl, hq1⟩
        go_wp2_with fail
        all_goals
          go_ret
          rw [HB.out]
          exact ⟨rfl, hq.trans hq1⟩
    · have hje : j = n := by omega
      have hF : plainB xs = decide (0 < n) := by
        have := HP.out
        rw [List.take_of_length_le (by rw [← HN.out]; omega)] at this
        unfold plainB
        rw [this, ← HN.out]; rfl
      have HF := Lib.hid hF
      clear hF hje
      go_wp2_with fail
      go_ret
      rw [HF.out]
      exact ⟨retB (by simp), hq⟩
end Go.Proofs.YtnlfeamhedihpaaGreatDoor
