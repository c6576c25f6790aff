/- The document's own answers on patterns: in, kind, tokens. The document's own answers on patterns: tokens, joined. The document's own answers on patterns: joined, SamePieces. -/
import Derived.Test.YtglljkbpdbnhaaaGreatDoorRows
import Derived.Test.YtglljkbpdbnhaaaGreatDoorMA
import Derived.Test.YtglljkbpdbnhaaaGreatDoorMB
import Derived.Test.YtglljkbpdbnhaaaGreatDoorMC
import Derived.Test.YtglljkbpdbnhaaaGreatDoorMBP
import Derived.Deep.QuietTactic
import Derived.BigQuiet
set_option linter.unusedVariables false
set_option linter.unusedSimpArgs false
namespace Go.Proofs.YtglljkbpdbnhaaaGreatDoor
open Go.RowKit
namespace Pr
open Pt Um

/-- Does a character stand in a text of few signs? -/
def inS (c : Int) (l : List UInt8) : Bool := l.any fun b => c == ((b.toNat : Nat) : Int)
theorem inS_at {c : Int} {s : ByteArray} {k : Nat} (hk : k < s.size) (h : c = (((s[k]'hk).toNat : Nat) : Int)) : inS c s.data.toList = true := by
  unfold inS
  rw [List.any_eq_true]
  refine ⟨s[k], ?_, by rw [h]; simp⟩
  exact List.getElem_mem (l := s.data.toList) (n := k) (by rw [size_list]; exact hk)
theorem inS_no {c : Int} {s : ByteArray} (h : ∀ k (hk : k < s.size), c ≠ (((s[k]'hk).toNat : Nat) : Int)) : inS c s.data.toList = false := by
  unfold inS
  rw [List.any_eq_false]
  intro b hb
  obtain ⟨k, hk, he⟩ := List.mem_iff_getElem.1 hb
  rw [size_list] at hk
  have := h k hk
  intro hb
  rw [beq_iff_eq] at hb
  refine this ?_
  rw [hb, ← he]; rfl
set_option maxHeartbeats 800000 in
theorem in_any (c : Int) (s : ByteArray) (w : World) (hs : s.size ≤ 1000000) :
    Calls Tryz.prog 129 #[.int .i64 c, .string s] w fun e w' => e = .returned (.bool (inS c s.data.toList)) ∧ w = w' := by
  have HA := Lib.hid (fun k hk => @inS_at c s k hk)
  have HN := Lib.hid (@inS_no c s)
  generalize inS c s.data.toList = r at *
  go_enter Tryz.func129, Tryz.ntmps129
  go_wp2_with fail
  go_loopw [5] (fun i wr => ∃ k : Nat, i = .int .i64 k ∧ k ≤ s.size ∧ (∀ j (hj : j < s.size), j < k → c ≠ (((s[j]'hj).toNat : Nat) : Int)) ∧ w = wr) (fun i _ => s.size - (intOf i).toNat)
  case atStart => exact ⟨0, rfl, by omega, fun j _ h => absurd h (Nat.not_lt_zero j), rfl⟩
  case round =>
    obtain ⟨k, rfl, hk, hno, rfl⟩ := hrel
    have HNO := Lib.hid hno
    clear hno
    by_cases hlt : k < s.size
    · have hlti : (k : Int) < (s.size : Int) := by omega
      have hub := Ur.u8b (s[k]'hlt)
      by_cases hc : c = (((s[k]'hlt).toNat : Nat) : Int)
      · have HF := Lib.hid (HA.out k hlt hc)
        have hcb : (c == (((s[k]'hlt).toNat : Nat) : Int)) = true := by rw [hc]; simp
        have HC := Lib.hid hc
        clear hc
        go_wp2_with fail
        go_ret
        rw [HF.out]
        exact ⟨rfl, rfl⟩
      · have hcb : (c == (((s[k]'hlt).toNat : Nat) : Int)) = false := beq_eq_false_iff_ne.2 hc
        have HC := Lib.hid hc
        clear hc
        go_wp2_with fail
        refine ⟨⟨k + 1, by go_num, by omega, fun j hj hjk => ?_, trivial⟩, by simp [intOf]; omega⟩
        by_cases h : j = k
        · subst h; exact HC.out
        · exact HNO.out j hj (by omega)
    · have HF := Lib.hid (HN.out fun j hj => HNO.out j hj (by omega))
      go_wp2_with fail
      go_ret
      rw [HF.out]
      exact ⟨rfl, rfl⟩

theorem in_four (c : Int) : inS c [35, 48, 44, 46] = (c == 35 || (c == 48 || (c == 44 || c == 46))) := by simp [inS]
theorem in_bad (c : Int) : inS c [49, 50, 51, 52, 53, 54, 55, 56, 57, 64, 42, 43, 69] = true ↔ ((49 ≤ c ∧ c ≤ 57) ∨ c = 64 ∨ c = 42 ∨ c = 43 ∨ c = 69) := by
  simp [inS]; omega
set_option maxHeartbeats 800000 in
theorem kind_any (c : Int) (w : World) :
    Calls Tryz.prog 101 #[.int .i64 c] w fun e w' => e = .returned (.int .i64 (kindC c)) ∧ w = w' := by
  have hi4 := fun w => in_any c ⟨#[35, 48, 44, 46]⟩ w (by decide)
  have hi6 := fun w => in_any c ⟨#[49, 50, 51, 52, 53, 54, 55, 56, 57, 64, 42, 43, 69]⟩ w (by decide)
  have e4 : inS c (⟨#[35, 48, 44, 46]⟩ : ByteArray).data.toList = decide (c = 35 ∨ c = 48 ∨ c = 44 ∨ c = 46) := by
    rw [show (⟨#[35, 48, 44, 46]⟩ : ByteArray).data.toList = [35, 48, 44, 46] from rfl, in_four, Bool.eq_iff_iff]; simp
  have e6 : inS c (⟨#[49, 50, 51, 52, 53, 54, 55, 56, 57, 64, 42, 43, 69]⟩ : ByteArray).data.toList = decide ((49 ≤ c ∧ c ≤ 57) ∨ c = 64 ∨ c = 42 ∨ c = 43 ∨ c = 69) := by
    rw [show (⟨#[49, 50, 51, 52, 53, 54, 55, 56, 57, 64, 42, 43, 69]⟩ : ByteArray).data.toList = [49, 50, 51, 52, 53, 54, 55, 56, 57, 64, 42, 43, 69] from rfl, Bool.eq_iff_iff, in_bad]; simp
  rw [e4] at hi4
  rw [e6] at hi6
  obtain ⟨K, hK⟩ : ∃ K, K = kindC c := ⟨_, rfl⟩
  rw [← hK]
  unfold kindC at hK
  have main : ∀ (b4 b6 : Bool), decide (c = 35 ∨ c = 48 ∨ c = 44 ∨ c = 46) = b4 → decide ((49 ≤ c ∧ c ≤ 57) ∨ c = 64 ∨ c = 42 ∨ c = 43 ∨ c = 69) = b6 →
      Calls Tryz.prog 101 #[.int .i64 c] w fun e w' => e = .returned (.int .i64 K) ∧ w = w' := by
    intro b4 b6 h4 h6
    rw [h4] at hi4
    rw [h6] at hi6
    have HI4 := Lib.hid hi4
    have HI6 := Lib.hid hi6
    clear hi4 hi6 e4 e6
    by_cases h1 : c = 164
    · have HF : Hid (K = 1) := Lib.hid (by rw [hK, if_pos h1])
      subst h1
      clear hK h4 h6
      go_enter Tryz.func101, Tryz.ntmps101
      go_wp2_with fail
      go_ret
      rw [HF.out]
      exact ⟨rfl, rfl⟩
    · rw [if_neg h1] at hK
      by_cases h2 : c = 37
      · have HF : Hid (K = 2) := Lib.hid (by rw [hK, if_pos h2])
        subst h2
        clear hK h4 h6
        go_enter Tryz.func101, Tryz.ntmps101
        go_wp2_with fail
        go_ret
        rw [HF.out]
        exact ⟨rfl, rfl⟩
      · rw [if_neg h2] at hK
        by_cases h3 : c = 45
        · have HF : Hid (K = 3) := Lib.hid (by rw [hK, if_pos h3])
          subst h3
          clear hK h4 h6
          go_enter Tryz.func101, Tryz.ntmps101
          go_wp2_with fail
          go_ret
          rw [HF.out]
          exact ⟨rfl, rfl⟩
        · rw [if_neg h3] at hK
          have g1 : (c == 164) = false := beq_eq_false_iff_ne.2 h1
          have g2 : (c == 37) = false := beq_eq_false_iff_ne.2 h2
          have g3 : (c == 45) = false := beq_eq_false_iff_ne.2 h3
          cases b4
          · rw [if_neg (of_decide_eq_false h4)] at hK
            by_cases h5 : c = 59
            · have HF : Hid (K = 5) := Lib.hid (by rw [hK, if_pos h5])
              subst h5
              clear hK h4 h6
              go_enter Tryz.func101, Tryz.ntmps101
              go_wp2_with fail
              refine (HI4.out _).mono ?_
              rintro e w1 ⟨rfl, rfl⟩
              go_wp2_with fail
              go_ret
              rw [HF.out]
              exact ⟨rfl, rfl⟩
            · rw [if_neg h5] at hK
              have g5 : (c == 59) = false := beq_eq_false_iff_ne.2 h5
              cases b6
              · have HF : Hid (K = 0) := Lib.hid (by rw [hK, if_neg (of_decide_eq_false h6)])
                clear hK h4 h6 h1 h2 h3 h5
                go_enter Tryz.func101, Tryz.ntmps101
                go_wp2_with fail
                refine (HI4.out _).mono ?_
                rintro e w1 ⟨rfl, rfl⟩
                go_wp2_with fail
                refine (HI6.out _).mono ?_
                rintro e w1 ⟨rfl, rfl⟩
                go_wp2_with fail
                go_ret
                rw [HF.out]
                exact ⟨rfl, rfl⟩
              · have HF : Hid (K = 6) := Lib.hid (by rw [hK, if_pos (of_decide_eq_true h6)])
                clear hK h4 h6 h1 h2 h3 h5
                go_enter Tryz.func101, Tryz.ntmps101
                go_wp2_with fail
                refine (HI4.out _).mono ?_
                rintro e w1 ⟨rfl, rfl⟩
                go_wp2_with fail
                refine (HI6.out _).mono ?_
                rintro e w1 ⟨rfl, rfl⟩
                go_wp2_with fail
                go_ret
                rw [HF.out]
                exact ⟨rfl, rfl⟩
          · have HF : Hid (K = 4) := Lib.hid (by rw [hK, if_pos (of_decide_eq_true h4)])
            clear hK h4 h6 h1 h2 h3
            go_enter Tryz.func101, Tryz.ntmps101
            go_wp2_with fail
            refine (HI4.out _).mono ?_
            rintro e w1 ⟨rfl, rfl⟩
            go_wp2_with fail
            go_ret
            rw [HF.out]
            exact ⟨rfl, rfl⟩
  exact main _ _ rfl rfl

end Pr
end Go.Proofs.YtglljkbpdbnhaaaGreatDoor

set_option linter.unusedVariables false
set_option linter.unusedSimpArgs false
namespace Go.Proofs.YtglljkbpdbnhaaaGreatDoor
open Go.RowKit
namespace Pr
open Pt Um

theorem elB : Pc.El 110 34 := ⟨by kernel_rfl, Tryz.underlying34⟩
abbrev OwnB (w : World) (B : Nat) (v : Value) (l : List Pc.E) : Prop := Pc.OwnE 110 w B v l
/-- Tokens, with their texts. -/
def tkP (l : List (Int × Int)) : List Pc.E := l.map fun x => (x.1, encL x.2)
theorem tkP_app (a : List (Int × Int)) (x : Int × Int) : tkP (a ++ [x]) = tkP a ++ [(x.1, encL x.2)] := by simp [tkP]
theorem encL_quote : encL 39 = [39] := by decide +kernel
theorem tok_turn (q : Bool) (r : List Int) (h : r = [] ∨ r.getD 0 0 ≠ 39) : tokS q true r = tokS (!q) false r := by
  cases r with
  | nil => cases q <;> rfl
  | cons c r =>
    have hc : c ≠ 39 := by
      rcases h with h | h
      · cases h
      · simpa using h
    rw [tokS_cons, tokS_cons, if_neg hc, if_neg hc]
    cases q <;> rfl
theorem drop_at (cs : List Int) (k : Nat) (hk : k < cs.length) : cs.drop k = cs.getD k 0 :: cs.drop (k + 1) := by
  rw [List.getD_eq_getElem?_getD, List.getElem?_eq_getElem hk]
  exact List.drop_eq_getElem_cons hk
theorem tokS_len (cs : List Int) : ∀ q p l, tokS q p cs = some l → l.length ≤ cs.length := by
  induction cs with
  | nil =>
    intro q p l h
    unfold tokS at h
    split at h
    · cases h
    · cases h; simp
  | cons c r ih =>
    intro q p l h
    rw [tokS_cons] at h
    split at h
    · split at h
      · obtain ⟨m, hm, rfl⟩ := Option.map_eq_some_iff.1 h
        have := ih _ _ _ hm
        simp; omega
      · have := ih _ _ _ h
        simp; omega
    · split at h
      · obtain ⟨m, hm, rfl⟩ := Option.map_eq_some_iff.1 h
        have := ih _ _ _ hm
        simp; omega
      · split at h
        · cases h
        · obtain ⟨m, hm, rfl⟩ := Option.map_eq_some_iff.1 h
          have := ih _ _ _ hm
          simp; omega

/-- How far the loop has come: o is out, the rest stands. -/
def Far (cs : List Int) (k : Nat) (q : Bool) (o : List (Int × Int)) : Prop := (tokS q false (cs.drop k)).map (o ++ ·) = tkn cs ∧ o.length ≤ k
theorem Far.start (cs : List Int) : Far cs 0 false [] := ⟨by unfold tkn; simp, by simp⟩
theorem Far.two {cs : List Int} {k : Nat} {q : Bool} {o : List (Int × Int)} (h : Far cs k q o) (hk : k + 1 < cs.length) (h1 : cs.getD k 0 = 39) (h2 : cs.getD (k + 1) 0 = 39) : Far cs (k + 2) q (o ++ [(0, 39)]) := by
  obtain ⟨h, hl⟩ := h
  rw [drop_at cs k (by omega), h1, drop_at cs (k + 1) hk, h2, tokS_cons, if_pos rfl, if_neg (by decide), tokS_cons, if_pos rfl, if_pos rfl, Option.map_map] at h
  refine ⟨?_, by simp; omega⟩
  rw [← h]
  congr 1
  funext x; simp
theorem Far.turn {cs : List Int} {k : Nat} {q : Bool} {o : List (Int × Int)} (h : Far cs k q o) (hk : k < cs.length) (h1 : cs.getD k 0 = 39) (h2 : ¬ (k + 1 < cs.length ∧ cs.getD (k + 1) 0 = 39)) : Far cs (k + 1) (!q) o := by
  obtain ⟨h, hl⟩ := h
  rw [drop_at cs k hk, h1, tokS_cons, if_pos rfl, if_neg (by decide)] at h
  refine ⟨?_, by omega⟩
  rw [← h, tok_turn q]
  by_cases hn : k + 1 < cs.length
  · right
    rw [drop_at cs (k + 1) hn]
    simpa using fun e => h2 ⟨hn, by simpa using e⟩
  · left
    exact List.drop_eq_nil_of_le (by omega)
theorem Far.in {cs : List Int} {k : Nat} {o : List (Int × Int)} (h : Far cs k true o) (hk : k < cs.length) (h1 : cs.getD k 0 ≠ 39) : Far cs (k + 1) true (o ++ [(0, cs.getD k 0)]) := by
  obtain ⟨h, hl⟩ := h
  rw [drop_at cs k hk, tokS_cons, if_neg h1, if_pos (by decide), Option.map_map] at h
  refine ⟨?_, by simp; omega⟩
  rw [← h]
  congr 1
  funext x; simp
theorem Far.bad {cs : List Int} {k : Nat} {o : List (Int × Int)} (h : Far cs k false o) (hk : k < cs.length) (h1 : cs.getD k 0 ≠ 39) (h6 : kindC (cs.getD k 0) = 6) : tkn cs = none := by
  obtain ⟨h, hl⟩ := h
  rw [drop_at cs k hk, tokS_cons, if_neg h1, if_neg (by decide), if_pos h6] at h
  exact h.symm
theorem Far.out {cs : List Int} {k : Nat} {o : List (Int × Int)} (h : Far cs k false o) (hk : k < cs.length) (h1 : cs.getD k 0 ≠ 39) (h6 : kindC (cs.getD k 0) ≠ 6) : Far cs (k + 1) false (o ++ [(kindC (cs.getD k 0), cs.getD k 0)]) := by
  obtain ⟨h, hl⟩ := h
  rw [drop_at cs k hk, tokS_cons, if_neg h1, if_neg (by decide), if_neg h6, Option.map_map] at h
  refine ⟨?_, by simp; omega⟩
  rw [← h]
  congr 1
  funext x; simp
theorem Far.fin {cs : List Int} {q : Bool} {o : List (Int × Int)} (h : Far cs cs.length q o) : tkn cs = if q = true then none else some o := by
  obtain ⟨h, hl⟩ := h
  rw [List.drop_eq_nil_of_le (Nat.le_refl _)] at h
  rw [← h]
  cases q <;> simp [tokS]

set_option maxHeartbeats 4000000 in
theorem tokens_any (s : ByteArray) (w : World) (hs : s.size ≤ 1000000) :
    Calls Tryz.prog 53 #[.string s] w fun e w' => ∃ v, e = .returned (.tuple #[v, .bool (tkn (allL s.data.toList)).isSome]) ∧ (∀ l, tkn (allL s.data.toList) = some l → OwnB w' w.heap.size v (tkP l)) ∧ Q w w' := by
  have hal := fun w => Ur.all_any s w (by omega)
  have hml := marks_length s.data.toList
  rw [size_list] at hml
  have hcl : (allL s.data.toList).length ≤ 1000000 := by unfold allL; simp; omega
  clear hml
  generalize allL s.data.toList = cs at *
  obtain ⟨n, hn⟩ : ∃ n, n = cs.length := ⟨_, rfl⟩
  have HN := Lib.hid hn
  rw [← hn] at hcl
  obtain ⟨R, hR⟩ : ∃ R, R = tkn cs := ⟨_, rfl⟩
  have HR := Lib.hid hR
  rw [← hR]
  clear hn hR
  go_enter Tryz.func53, Tryz.ntmps53
  go_wp2_with fail
  refine (hal _).mono ?_
  rintro e w2 ⟨v, u, rfl, hv, hu, _, hq2⟩
  have HV := Lib.hid hv.lst
  obtain ⟨a, cp, rfl, _, _⟩ := hv.lst.form0 HN.out.symm
  clear hv hal hu
  go_wp2_with fail
  go_loopw [7, 8, 9] (fun u q i wr => ∃ (k : Nat) (b : Bool) (o : List (Int × Int)), i = .int .i64 k ∧ q = .bool b ∧ k ≤ n ∧ OwnB wr w2.heap.size u (tkP o) ∧ Far cs k b o ∧ Q w2 wr) (fun _ _ i _ => n - (intOf i).toNat)
  case atStart => exact ⟨0, false, [], rfl, rfl, by omega, Pc.OwnE.nil _ _ _, Far.start cs, Q.refl _⟩
  case round =>
    obtain ⟨k, b, o, rfl, rfl, hk, ho, hf, hq⟩ := hrel
    have hqs := hq.le
    have HF := Lib.hid hf
    have hol : (tkP o).length < 1073741824 := by unfold tkP; rw [List.length_map]; have := hf.2; omega
    clear hf
    by_cases hlt : k < n
    · have hlti : (k : Int) < (n : Int) := by omega
      have hkl : k < cs.length := by have := HN.out; omega
      obtain ⟨g, off, cap, hvv, hg, hnc, hcm, hca⟩ := HV.out.cellOf HN.out.symm hlt
      cases hvv
      have hcell : ∀ j, j < n → wr.cell? ⟨g, off + j, none⟩ = some (.int .i64 (cs.getD j 0)) := by
        intro j hj
        obtain ⟨g', off', cap', hvv', hg', _, _, hcj⟩ := HV.out.cellOf HN.out.symm hj
        cases hvv'
        exact (World.cell?_of_block (w := w2) (hq.block hg')).trans hcj
      have c1 := hcell k hlt
      have HCE := Lib.hid hcell
      clear hca hcell
      have F1 := fun h1 h2 h3 => HF.out.two h1 h2 h3
      have F2 := fun h1 h2 => HF.out.turn hkl h1 h2
      obtain ⟨c, hc⟩ : ∃ c, c = cs.getD k 0 := ⟨_, rfl⟩
      rw [← hc] at c1 F1 F2
      have HC := Lib.hid hc
      clear hc
      by_cases h39 : c = 39
      · subst h39
        by_cases hn1 : k + 1 < n
        · have hn1i : (k : Int) + 1 < (n : Int) := by omega
          have hmin : min ((k : Int) + 1) ((n : Int) - 1) = ((k + 1 : Nat) : Int) := by omega
          have c2 := HCE.out (k + 1) hn1
          obtain ⟨d, hd⟩ : ∃ d, d = cs.getD (k + 1) 0 := ⟨_, rfl⟩
          rw [← hd] at c2 F1 F2
          have HD := Lib.hid hd
          clear hd
          by_cases hd9 : d = 39
          · subst hd9
            have HF2 := Lib.hid (F1 (by have := HN.out; omega) rfl rfl)
            clear F1 F2
            go_wp2_with (at_builtin; refine Pc.push elB ho rfl _ _ rfl 0 ⟨#[39]⟩ (by rfl) (by rfl) hol hqs ?_)
            intro v' w4 ho4 hg4 hat4
            have HO4 : Hid (OwnB w4 w2.heap.size v' (tkP (o ++ [(0, 39)]))) := Lib.hid (by rw [tkP_app, encL_quote]; exact ho4)
            have hq4 := hq.grown hg4 (fun j h => (ho.lt j h).1)
            clear ho4
            go_wp2_with fail
            go_roundw
            case rel => exact ⟨k + 2, b, o ++ [(0, 39)], by go_num, rfl, by omega, HO4.out, HF2.out, hq4⟩
            case measure => simp [intOf]; omega
          · have hdb : (d == 39) = false := beq_eq_false_iff_ne.2 hd9
            have HF2 := Lib.hid (F2 rfl (fun h => hd9 h.2))
            clear F1 F2
            go_wp2_with fail
            go_roundw
            case rel => exact ⟨k + 1, !b, o, by go_num, rfl, by omega, ho, HF2.out, hq⟩
            case measure => simp [intOf]; omega
        · have hn1i : ¬ (k : Int) + 1 < (n : Int) := by omega
          have HF2 := Lib.hid (F2 rfl (fun h => hn1 (by have := HN.out; omega)))
          clear F1 F2
          go_wp2_with fail
          go_roundw
          case rel => exact ⟨k + 1, !b, o, by go_num, rfl, by omega, ho, HF2.out, hq⟩
          case measure => simp [intOf]; omega
      · have hcb : (c == 39) = false := beq_eq_false_iff_ne.2 h39
        clear F1 F2
        cases b
        · have G1 := fun h => HF.out.bad hkl (by rw [← HC.out]; exact h39) h
          have G2 := fun h => HF.out.out hkl (by rw [← HC.out]; exact h39) h
          have K1 := fun w => kind_any c w
          rw [← HC.out] at G1 G2
          obtain ⟨kc, hkc⟩ : ∃ kc, kc = kindC c := ⟨_, rfl⟩
          rw [← hkc] at G1 G2 K1
          have HK1 := Lib.hid K1
          clear hkc K1
          by_cases h6 : kc = 6
          · subst h6
            have HRN : Hid (R = none) := Lib.hid (HR.out.trans (G1 rfl))
            clear G1 G2
            go_wp2_with fail
            refine (HK1.out _).mono ?_
            rintro e w3 ⟨rfl, rfl⟩
            go_wp2_with fail
            go_ret2
            rw [HRN.out]
            exact ⟨_, rfl, fun l h => (nomatch h), hq2.trans hq⟩
          · have h6b : (kc == 6) = false := beq_eq_false_iff_ne.2 h6
            have HF2 := Lib.hid (G2 h6)
            clear G1 G2
            go_wp2_with fail
            refine (HK1.out _).mono ?_
            rintro e w3 ⟨rfl, rfl⟩
            go_wp2_with fail
            refine (Ur.encode_any _ _).mono ?_
            rintro e w3 ⟨rfl, hq3⟩
            have ho3 := ho.q hq3
            have hq23 := hq.trans hq3
            have hqs3 := hq23.le
            go_wp2_with (at_builtin; refine Pc.push elB ho3 rfl _ _ rfl kc (encB c) (by rfl) (by rfl) hol hqs3 ?_)
            intro v' w4 ho4 hg4 hat4
            have HO4 : Hid (OwnB w4 w2.heap.size v' (tkP (o ++ [(kc, c)]))) := Lib.hid (by rw [tkP_app]; exact ho4)
            have hq4 := hq23.grown hg4 (fun j h => (ho3.lt j h).1)
            clear ho4
            go_wp2_with fail
            go_roundw
            case rel => exact ⟨k + 1, false, o ++ [(kc, c)], by go_num, rfl, by omega, HO4.out, HF2.out, hq4⟩
            case measure => simp [intOf]; omega
        · have G2 := HF.out.in hkl (by rw [← HC.out]; exact h39)
          rw [← HC.out] at G2
          have HF2 := Lib.hid G2
          clear G2
          go_wp2_with fail
          refine (Ur.encode_any _ _).mono ?_
          rintro e w3 ⟨rfl, hq3⟩
          have ho3 := ho.q hq3
          have hq23 := hq.trans hq3
          have hqs3 := hq23.le
          go_wp2_with (at_builtin; refine Pc.push elB ho3 rfl _ _ rfl 0 (encB c) (by rfl) (by rfl) hol hqs3 ?_)
          intro v' w4 ho4 hg4 hat4
          have HO4 : Hid (OwnB w4 w2.heap.size v' (tkP (o ++ [(0, c)]))) := Lib.hid (by rw [tkP_app]; exact ho4)
          have hq4 := hq23.grown hg4 (fun j h => (ho3.lt j h).1)
          clear ho4
          go_wp2_with fail
          go_roundw
          case rel => exact ⟨k + 1, true, o ++ [(0, c)], by go_num, rfl, by omega, HO4.out, HF2.out, hq4⟩
          case measure => simp [intOf]; omega
    · have hke : k = cs.length := by have := HN.out; omega
      have hnlt : ¬ (k : Int) < (n : Int) := by omega
      have hfin := HF.out
      rw [hke] at hfin
      have HRF := Lib.hid (HR.out.trans hfin.fin)
      clear hfin hke
      cases b
      · go_wp2_with fail
        go_ret2
        rw [HRF.out]
        exact ⟨_, rfl, fun l h => by cases h; exact ho.mono hq2.le, hq2.trans hq⟩
      · go_wp2_with fail
        go_ret2
        rw [HRF.out]
        exact ⟨_, rfl, fun l h => (nomatch h), hq2.trans hq⟩

end Pr
end Go.Proofs.YtglljkbpdbnhaaaGreatDoor

set_option linter.unusedVariables false
set_option linter.unusedSimpArgs false
namespace Go.Proofs.YtglljkbpdbnhaaaGreatDoor
open Go.RowKit
namespace Pr
open Pt Um

/-- Pieces joined, over what they bear. -/
def joinE : List UInt8 → List Pc.E → List Pc.E
  | t, [] => if t = [] then [] else [(0, t)]
  | t, p :: r => if p.1 = 0 then joinE (t ++ p.2) r else (if t = [] then [] else [(0, t)]) ++ (p.1, []) :: joinE [] r
theorem joinE_tk (l : List (Int × Int)) : ∀ t, joinE t (tkP l) = joinT t l := by
  induction l with
  | nil => intro t; rfl
  | cons x r ih =>
    intro t
    show (if x.1 = 0 then joinE (t ++ encL x.2) (tkP r) else (if t = [] then [] else [(0, t)]) ++ (x.1, []) :: joinE [] (tkP r)) = _
    rw [ih, ih]; rfl
theorem joinE_cons (t : List UInt8) (p : Pc.E) (r : List Pc.E) : joinE t (p :: r) = if p.1 = 0 then joinE (t ++ p.2) r else (if t = [] then [] else [(0, t)]) ++ (p.1, []) :: joinE [] r := rfl
theorem joinE_nil (t : List UInt8) : joinE t [] = if t = [] then [] else [(0, t)] := rfl
theorem joinE_len (l : List Pc.E) : ∀ t, (joinE t l).length ≤ 2 * l.length + 1 := by
  induction l with
  | nil => intro t; unfold joinE; split <;> simp
  | cons p r ih =>
    intro t
    rw [joinE_cons]
    split
    · have := ih (t ++ p.2); simp; omega
    · have := ih []
      split <;> simp <;> omega
theorem dropE_at (l : List Pc.E) (k : Nat) (hk : k < l.length) : l.drop k = l.getD k (0, []) :: l.drop (k + 1) := by
  rw [List.getD_eq_getElem?_getD, List.getElem?_eq_getElem hk]
  exact List.drop_eq_getElem_cons hk
theorem app_eq (a : List UInt8) (b : List UInt8) : (⟨a.toArray⟩ : ByteArray) ++ ⟨b.toArray⟩ = ⟨(a ++ b).toArray⟩ := by
  apply ba_ext
  rw [ByteArray.data_append]
  simp
theorem empty_iff (t : List UInt8) : (⟨t.toArray⟩ : ByteArray).toList.isEmpty = decide (t = []) := by
  rw [ByteArray.toList_eq, Bool.eq_iff_iff]; simp
theorem empty_iff2 (t : List UInt8) : ((⟨t.toArray⟩ : ByteArray).toList == []) = decide (t = []) := by
  rw [ByteArray.toList_eq, Bool.eq_iff_iff]; simp

set_option maxHeartbeats 4000000 in
theorem joined_any (v : Value) (l : List Pc.E) (w : World) (hv : Pc.LstP w v l) (hl : l.length ≤ 1000000) (hb : ∀ p ∈ l, p.2.length ≤ 1000000) :
    Calls Tryz.prog 103 #[v] w fun e w' => ∃ u, e = .returned u ∧ OwnB w' w.heap.size u (joinE [] l) ∧ Q w w' := by
  obtain ⟨n, hn⟩ : ∃ n, n = l.length := ⟨_, rfl⟩
  have HN := Lib.hid hn
  have HV := Lib.hid hv
  have HB := Lib.hid hb
  obtain ⟨a, cp, rfl, _, _⟩ := hv.form0 hn.symm
  rw [← hn] at hl
  clear hv hn hb
  go_enter Tryz.func103, Tryz.ntmps103
  go_wp2_with fail
  go_loopw [3, 4, 5] (fun u t i wr => ∃ (k : Nat) (x : List UInt8) (o : List Pc.E), i = .int .i64 k ∧ t = .string ⟨x.toArray⟩ ∧ k ≤ n ∧ OwnB wr w.heap.size u o ∧ x.length ≤ 1000000 * k ∧ o.length ≤ 2 * k ∧ o ++ joinE x (l.drop k) = joinE [] l ∧ Q w wr) (fun _ _ i _ => n - (intOf i).toNat)
  case atStart => exact ⟨0, [], [], rfl, rfl, by omega, Pc.OwnE.nil _ _ _, by simp, by simp, by simp, Q.refl _⟩
  case round =>
    obtain ⟨k, x, o, rfl, rfl, hk, ho, hx, hol, hj, hq⟩ := hrel
    have hqs := hq.le
    have HJ := Lib.hid hj
    have hol2 : o.length < 1073741824 := by omega
    have he1 := empty_iff x
    have he2 := empty_iff2 x
    have hsz : (⟨x.toArray⟩ : ByteArray).size = x.length := by rw [← size_list]
    obtain ⟨X, hX⟩ : ∃ X, X = (⟨x.toArray⟩ : ByteArray) := ⟨_, rfl⟩
    rw [← hX] at he1 he2 hsz ⊢
    have HX := Lib.hid hX
    clear hj hX
    by_cases hlt : k < n
    · have hlti : (k : Int) < (n : Int) := by omega
      have hkl : k < l.length := by have := HN.out; omega
      have hj := HJ.out
      rw [dropE_at l k hkl] at hj
      have hbk : (l.getD k (0, [])).2.length ≤ 1000000 := HB.out _ (by rw [List.getD_eq_getElem?_getD, List.getElem?_eq_getElem hkl]; exact List.getElem_mem hkl)
      obtain ⟨g, off, cap, hvv, hg, hnc, hcm, d1, d2⟩ := HV.out.cellOf HN.out.symm hlt
      cases hvv
      have c1 := (World.cell?_of_block (w := w) (hq.block hg) (a := ⟨g, off + k * 2, none⟩)).trans d1
      have c2 := (World.cell?_of_block (w := w) (hq.block hg) (a := ⟨g, off + k * 2 + 1, none⟩)).trans d2
      unfold Pc.txt at c2
      generalize l.getD k (0, []) = p at c1 c2 d1 hj hbk
      obtain ⟨pk, pt⟩ := p
      simp only at c1 c2 d1 hbk
      have hpz : (⟨pt.toArray⟩ : ByteArray).size = pt.length := by rw [← size_list]
      have hap := app_eq x pt
      obtain ⟨T, hT⟩ : ∃ T, T = (⟨pt.toArray⟩ : ByteArray) := ⟨_, rfl⟩
      rw [← hT] at c2 hpz hap
      rw [← HX.out] at hap
      have HAP := Lib.hid hap
      have HD1 := Lib.hid d1
      clear hT hap d1 d2
      by_cases h0 : pk = 0
      · subst h0
        rw [joinE_cons, if_pos rfl] at hj
        have HJ2 := Lib.hid hj
        have hcat : X.size + T.size ≤ 9223372036854775807 := by omega
        clear hj he1 he2
        go_wp2_with fail
        go_roundw
        case rel => exact ⟨k + 1, x ++ pt, o, by go_num, by rw [HAP.out], by omega, ho, by rw [List.length_append]; omega, by omega, HJ2.out, hq⟩
        case measure => simp [intOf]; omega
      · have h0b : (pk == 0) = false := beq_eq_false_iff_ne.2 h0
        rw [joinE_cons, if_neg h0] at hj
        have HJ2 := Lib.hid hj
        clear hj h0
        by_cases hxe : x = []
        · have he3 : X.toList.isEmpty = true := by rw [he1]; exact decide_eq_true hxe
          have he4 : (X.toList == []) = true := by rw [he2]; exact decide_eq_true hxe
          have HJ3 : Hid (o ++ [(pk, [])] ++ joinE [] (l.drop (k + 1)) = joinE [] l) := Lib.hid (by rw [← HJ2.out, if_pos hxe]; simp)
          have HXE := Lib.hid hxe
          clear he1 he2 hxe
          go_wp2_with (at_builtin; refine Pc.push elB ho rfl _ _ rfl pk ⟨#[]⟩ (by rfl) (by rfl) hol2 hqs ?_)
          intro v' w4 ho4 hg4 hat4
          have HO4 : Hid (OwnB w4 w.heap.size v' (o ++ [(pk, [])])) := Lib.hid ho4
          have hq4 := hq.grown hg4 (fun j h => (ho.lt j h).1)
          clear ho4
          go_wp2_with fail
          go_roundw
          case rel => exact ⟨k + 1, x, o ++ [(pk, [])], by go_num, by rw [HX.out], by omega, HO4.out, by omega, by simp; omega, by rw [HXE.out]; exact HJ3.out, hq4⟩
          case measure => simp [intOf]; omega
        · have he3 : X.toList.isEmpty = false := by rw [he1]; exact decide_eq_false hxe
          have he4 : (X.toList == []) = false := by rw [he2]; exact decide_eq_false hxe
          have HJ3 : Hid (o ++ [(0, x)] ++ [(pk, [])] ++ joinE [] (l.drop (k + 1)) = joinE [] l) := Lib.hid (by rw [← HJ2.out, if_neg hxe]; simp)
          clear he1 he2 hxe
          go_wp2_with (at_builtin; refine Pc.push elB ho rfl _ _ rfl 0 X (by rfl) (by rfl) hol2 hqs ?_)
          intro v' w4 ho4 hg4 hat4
          have ho5 : OwnB w4 w.heap.size v' (o ++ [(0, x)]) := by
            have := ho4
            rw [HX.out] at this
            exact this
          have hq4 := hq.grown hg4 (fun j h => (ho.lt j h).1)
          have hqs4 := hq4.le
          have hol3 : (o ++ [((0 : Int), x)]).length < 1073741824 := by rw [List.length_append]; simp; omega
          have c14 := (World.cell?_of_block (w := w) (hq4.block hg) (a := ⟨g, off + k * 2, none⟩)).trans HD1.out
          clear ho4 ho c1 c2
          go_wp2_with (at_builtin; refine Pc.push elB ho5 rfl _ _ rfl pk ⟨#[]⟩ (by rfl) (by rfl) hol3 hqs4 ?_)
          intro v6 w6 ho6 hg6 hat6
          have HO6 : Hid (OwnB w6 w.heap.size v6 (o ++ [(0, x)] ++ [(pk, [])])) := Lib.hid (by first | exact ho6 | (rw [List.append_assoc]; exact ho6))
          have hq6 := hq4.grown hg6 (fun j h => (ho5.lt j h).1)
          clear ho6
          go_wp2_with fail
          go_roundw
          case rel => exact ⟨k + 1, [], o ++ [(0, x)] ++ [(pk, [])], by go_num, rfl, by omega, HO6.out, by simp, by simp; omega, HJ3.out, hq6⟩
          case measure => simp [intOf]; omega
    · have hnlt : ¬ (k : Int) < (n : Int) := by omega
      have hj := HJ.out
      rw [List.drop_eq_nil_of_le (by have := HN.out; omega)] at hj
      rw [joinE_nil] at hj
      by_cases hxe : x = []
      · have he3 : X.toList.isEmpty = true := by rw [he1]; exact decide_eq_true hxe
        have he4 : (X.toList == []) = true := by rw [he2]; exact decide_eq_true hxe
        rw [if_pos hxe, List.append_nil] at hj
        have HJ3 := Lib.hid hj
        clear he1 he2 hxe hj
        go_wp2_with fail
        go_ret
        rw [← HJ3.out]
        exact ⟨_, rfl, ho, hq⟩
      · have he3 : X.toList.isEmpty = false := by rw [he1]; exact decide_eq_false hxe
        have he4 : (X.toList == []) = false := by rw [he2]; exact decide_eq_false hxe
        rw [if_neg hxe] at hj
        have HJ3 := Lib.hid hj
        clear he1 he2 hxe hj
        go_wp2_with (at_builtin; refine Pc.push elB ho rfl _ _ rfl 0 X (by rfl) (by rfl) hol2 hqs ?_)
        intro v' w4 ho4 hg4 hat4
        have HO4 : Hid (OwnB w4 w.heap.size v' (o ++ [(0, x)])) := Lib.hid (by
          have := ho4
          rw [HX.out] at this
          exact this)
        have hq4 := hq.grown hg4 (fun j h => (ho.lt j h).1)
        clear ho4
        go_wp2_with fail
        go_ret
        rw [← HJ3.out]
        exact ⟨_, rfl, HO4.out, hq4⟩

end Pr
end Go.Proofs.YtglljkbpdbnhaaaGreatDoor
