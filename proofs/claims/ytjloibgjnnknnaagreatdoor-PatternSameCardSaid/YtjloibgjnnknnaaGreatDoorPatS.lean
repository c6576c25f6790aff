/- The document's own answers on patterns: tokens, joined. -/
import Derived.Test.YtjloibgjnnknnaaGreatDoorRows
import Derived.Test.YtjloibgjnnknnaaGreatDoorInts
import Derived.Test.YtjloibgjnnknnaaGreatDoorUtfM
import Derived.Test.YtjloibgjnnknnaaGreatDoorUtfG
import Derived.Test.YtjloibgjnnknnaaGreatDoorUtfR
import Derived.Test.YtjloibgjnnknnaaGreatDoorPcs
import Derived.Test.YtjloibgjnnknnaaGreatDoorPatM
import Derived.Test.YtjloibgjnnknnaaGreatDoorPatR
import Derived.Deep.QuietTactic
import Derived.BigQuiet
set_option linter.unusedVariables false
set_option linter.unusedSimpArgs false
namespace Go.Proofs.YtjloibgjnnknnaaGreatDoor
open Go.RowKit
namespace Pr
open Pt Um

theorem elB : Pc.El 48 33 := ⟨by kernel_rfl, Tryz.underlying33⟩
abbrev OwnB (w : World) (B : Nat) (v : Value) (l : List Pc.E) : Prop := Pc.OwnE 48 w B v l
/-- Tokens, with their texts. -/
def tkP (l : List (Int × Int)) : List Pc.E := l.map fun x => (x.1, encL x.2)
theorem tkP_app (a : List (Int × Int)) (x : Int × Int) : tkP (a ++ [x]) = tkP a ++ [(x.1, encL x.2)] := by simp [tkP]
theorem encL_quote : encL 39 = [39] := by decide +kernel
theorem tok_turn (q : Bool) (r : List Int) (h : r = [] ∨ r.getD 0 0 ≠ 39) : tokS q true r = tokS (!q) false r := by
  cases r with
  | nil => cases q <;> rfl
  | cons c r =>
    have hc : c ≠ 39 := by
      rcases h with h | h
      · cases h
      · simpa using h
    rw [tokS_cons, tokS_cons, if_neg hc, if_neg hc]
    cases q <;> rfl
theorem drop_at (cs : List Int) (k : Nat) (hk : k < cs.length) : cs.drop k = cs.getD k 0 :: cs.drop (k + 1) := by
  rw [List.getD_eq_getElem?_getD, List.getElem?_eq_getElem hk]
  exact List.drop_eq_getElem_cons hk
theorem tokS_len (cs : List Int) : ∀ q p l, tokS q p cs = some l → l.length ≤ cs.length := by
  induction cs with
  | nil =>
    intro q p l h
    unfold tokS at h
    split at h
    · cases h
    · cases h; simp
  | cons c r ih =>
    intro q p l h
    rw [tokS_cons] at h
    split at h
    · split at h
      · obtain ⟨m, hm, rfl⟩ := Option.map_eq_some_iff.1 h
        have := ih _ _ _ hm
        simp; omega
      · have := ih _ _ _ h
        simp; omega
    · split at h
      · obtain ⟨m, hm, rfl⟩ := Option.map_eq_some_iff.1 h
        have := ih _ _ _ hm
        simp; omega
      · split at h
        · cases h
        · obtain ⟨m, hm, rfl⟩ := Option.map_eq_some_iff.1 h
          have := ih _ _ _ hm
          simp; omega

/-- How far the loop has come: o is out, the rest stands. -/
def Far (cs : List Int) (k : Nat) (q : Bool) (o : List (Int × Int)) : Prop := (tokS q false (cs.drop k)).map (o ++ ·) = tkn cs ∧ o.length ≤ k
theorem Far.start (cs : List Int) : Far cs 0 false [] := ⟨by unfold tkn; simp, by simp⟩
theorem Far.two {cs : List Int} {k : Nat} {q : Bool} {o : List (Int × Int)} (h : Far cs k q o) (hk : k + 1 < cs.length) (h1 : cs.getD k 0 = 39) (h2 : cs.getD (k + 1) 0 = 39) : Far cs (k + 2) q (o ++ [(0, 39)]) := by
  obtain ⟨h, hl⟩ := h
  rw [drop_at cs k (by omega), h1, drop_at cs (k + 1) hk, h2, tokS_cons, if_pos rfl, if_neg (by decide), tokS_cons, if_pos rfl, if_pos rfl, Option.map_map] at h
  refine ⟨?_, by simp; omega⟩
  rw [← h]
  congr 1
  funext x; simp
theorem Far.turn {cs : List Int} {k : Nat} {q : Bool} {o : List (Int × Int)} (h : Far cs k q o) (hk : k < cs.length) (h1 : cs.getD k 0 = 39) (h2 : ¬ (k + 1 < cs.length ∧ cs.getD (k + 1) 0 = 39)) : Far cs (k + 1) (!q) o := by
  obtain ⟨h, hl⟩ := h
  rw [drop_at cs k hk, h1, tokS_cons, if_pos rfl, if_neg (by decide)] at h
  refine ⟨?_, by omega⟩
  rw [← h, tok_turn q]
  by_cases hn : k + 1 < cs.length
  · right
    rw [drop_at cs (k + 1) hn]
    simpa using fun e => h2 ⟨hn, by simpa using e⟩
  · left
    exact List.drop_eq_nil_of_le (by omega)
theorem Far.in {cs : List Int} {k : Nat} {o : List (Int × Int)} (h : Far cs k true o) (hk : k < cs.length) (h1 : cs.getD k 0 ≠ 39) : Far cs (k + 1) true (o ++ [(0, cs.getD k 0)]) := by
  obtain ⟨h, hl⟩ := h
  rw [drop_at cs k hk, tokS_cons, if_neg h1, if_pos (by decide), Option.map_map] at h
  refine ⟨?_, by simp; omega⟩
  rw [← h]
  congr 1
  funext x; simp
theorem Far.bad {cs : List Int} {k : Nat} {o : List (Int × Int)} (h : Far cs k false o) (hk : k < cs.length) (h1 : cs.getD k 0 ≠ 39) (h6 : kindC (cs.getD k 0) = 6) : tkn cs = none := by
  obtain ⟨h, hl⟩ := h
  rw [drop_at cs k hk, tokS_cons, if_neg h1, if_neg (by decide), if_pos h6] at h
  exact h.symm
theorem Far.out {cs : List Int} {k : Nat} {o : List (Int × Int)} (h : Far cs k false o) (hk : k < cs.length) (h1 : cs.getD k 0 ≠ 39) (h6 : kindC (cs.getD k 0) ≠ 6) : Far cs (k + 1) false (o ++ [(kindC (cs.getD k 0), cs.getD k 0)]) := by
  obtain ⟨h, hl⟩ := h
  rw [drop_at cs k hk, tokS_cons, if_neg h1, if_neg (by decide), if_neg h6, Option.map_map] at h
  refine ⟨?_, by simp; omega⟩
  rw [← h]
  congr 1
  funext x; simp
theorem Far.fin {cs : List Int} {q : Bool} {o : List (Int × Int)} (h : Far cs cs.length q o) : tkn cs = if q = true then none else some o := by
  obtain ⟨h, hl⟩ := h
  rw [List.drop_eq_nil_of_le (Nat.le_refl _)] at h
  rw [← h]
  cases q <;> simp [tokS]

set_option maxHeartbeats 4000000 in
theorem tokens_any (s : ByteArray) (w : World) (hs : s.size ≤ 1000000) :
    Calls Tryz.prog 14 #[.string s] w fun e w' => ∃ v, e = .returned (.tuple #[v, .bool (tkn (allL s.data.toList)).isSome]) ∧ (∀ l, tkn (allL s.data.toList) = some l → OwnB w' w.heap.size v (tkP l)) ∧ Q w w' := by
  have hal := fun w => Ur.all_any s w (by omega)
  have hml := marks_length s.data.toList
  rw [size_list] at hml
  have hcl : (allL s.data.toList).length ≤ 1000000 := by unfold allL; simp; omega
  clear hml
  generalize allL s.data.toList = cs at *
  obtain ⟨n, hn⟩ : ∃ n, n = cs.length := ⟨_, rfl⟩
  have HN := Lib.hid hn
  rw [← hn] at hcl
  obtain ⟨R, hR⟩ : ∃ R, R = tkn cs := ⟨_, rfl⟩
  have HR := Lib.hid hR
  rw [← hR]
  clear hn hR
  go_enter Tryz.func14, Tryz.ntmps14
  go_wp2_with fail
  refine (hal _).mono ?_
  rintro e w2 ⟨v, u, rfl, hv, hu, _, hq2⟩
  have HV := Lib.hid hv.lst
  obtain ⟨a, cp, rfl, _, _⟩ := hv.lst.form0 HN.out.symm
  clear hv hal hu
  go_wp2_with fail
  go_loopw [7, 8, 9] (fun u q i wr => ∃ (k : Nat) (b : Bool) (o : List (Int × Int)), i = .int .i64 k ∧ q = .bool b ∧ k ≤ n ∧ OwnB wr w2.heap.size u (tkP o) ∧ Far cs k b o ∧ Q w2 wr) (fun _ _ i _ => n - (intOf i).toNat)
  case atStart => exact ⟨0, false, [], rfl, rfl, by omega, Pc.OwnE.nil _ _ _, Far.start cs, Q.refl _⟩
  case round =>
    obtain ⟨k, b, o, rfl, rfl, hk, ho, hf, hq⟩ := hrel
    have hqs := hq.le
    have HF := Lib.hid hf
    have hol : (tkP o).length < 1073741824 := by unfold tkP; rw [List.length_map]; have := hf.2; omega
    clear hf
    by_cases hlt : k < n
    · have hlti : (k : Int) < (n : Int) := by omega
      have hkl : k < cs.length := by have := HN.out; omega
      obtain ⟨g, off, cap, hvv, hg, hnc, hcm, hca⟩ := HV.out.cellOf HN.out.symm hlt
      cases hvv
      have hcell : ∀ j, j < n → wr.cell? ⟨g, off + j, none⟩ = some (.int .i64 (cs.getD j 0)) := by
        intro j hj
        obtain ⟨g', off', cap', hvv', hg', _, _, hcj⟩ := HV.out.cellOf HN.out.symm hj
        cases hvv'
        exact (World.cell?_of_block (w := w2) (hq.block hg')).trans hcj
      have c1 := hcell k hlt
      have HCE := Lib.hid hcell
      clear hca hcell
      have F1 := fun h1 h2 h3 => HF.out.two h1 h2 h3
      have F2 := fun h1 h2 => HF.out.turn hkl h1 h2
      obtain ⟨c, hc⟩ : ∃ c, c = cs.getD k 0 := ⟨_, rfl⟩
      rw [← hc] at c1 F1 F2
      have HC := Lib.hid hc
      clear hc
      by_cases h39 : c = 39
      · subst h39
        by_cases hn1 : k + 1 < n
        · have hn1i : (k : Int) + 1 < (n : Int) := by omega
          have hmin : min ((k : Int) + 1) ((n : Int) - 1) = ((k + 1 : Nat) : Int) := by omega
          have c2 := HCE.out (k + 1) hn1
          obtain ⟨d, hd⟩ : ∃ d, d = cs.getD (k + 1) 0 := ⟨_, rfl⟩
          rw [← hd] at c2 F1 F2
          have HD := Lib.hid hd
          clear hd
          by_cases hd9 : d = 39
          · subst hd9
            have HF2 := Lib.hid (F1 (by have := HN.out; omega) rfl rfl)
            clear F1 F2
            go_wp2_with (at_builtin; refine Pc.push elB ho rfl _ _ rfl 0 ⟨#[39]⟩ (by rfl) (by rfl) hol hqs ?_)
            intro v' w4 ho4 hg4 hat4
            have HO4 : Hid (OwnB w4 w2.heap.size v' (tkP (o ++ [(0, 39)]))) := Lib.hid (by rw [tkP_app, encL_quote]; exact ho4)
            have hq4 := hq.grown hg4 (fun j h => (ho.lt j h).1)
            clear ho4
            go_wp2_with fail
            go_roundw
            case rel => exact ⟨k + 2, b, o ++ [(0, 39)], by go_num, rfl, by omega, HO4.out, HF2.out, hq4⟩
            case measure => simp [intOf]; omega
          · have hdb : (d == 39) = false := beq_eq_false_iff_ne.2 hd9
            have HF2 := Lib.hid (F2 rfl (fun h => hd9 h.2))
            clear F1 F2
            go_wp2_with fail
            go_roundw
            case rel => exact ⟨k + 1, !b, o, by go_num, rfl, by omega, ho, HF2.out, hq⟩
            case measure => simp [intOf]; omega
        · have hn1i : ¬ (k : Int) + 1 < (n : Int) := by omega
          have HF2 := Lib.hid (F2 rfl (fun h => hn1 (by have := HN.out; omega)))
          clear F1 F2
          go_wp2_with fail
          go_roundw
          case rel => exact ⟨k + 1, !b, o, by go_num, rfl, by omega, ho, HF2.out, hq⟩
          case measure => simp [intOf]; omega
      · have hcb : (c == 39) = false := beq_eq_false_iff_ne.2 h39
        clear F1 F2
        cases b
        · have G1 := fun h => HF.out.bad hkl (by rw [← HC.out]; exact h39) h
          have G2 := fun h => HF.out.out hkl (by rw [← HC.out]; exact h39) h
          have K1 := fun w => kind_any c w
          rw [← HC.out] at G1 G2
          obtain ⟨kc, hkc⟩ : ∃ kc, kc = kindC c := ⟨_, rfl⟩
          rw [← hkc] at G1 G2 K1
          have HK1 := Lib.hid K1
          clear hkc K1
          by_cases h6 : kc = 6
          · subst h6
            have HRN : Hid (R = none) := Lib.hid (HR.out.trans (G1 rfl))
            clear G1 G2
            go_wp2_with fail
            refine (HK1.out _).mono ?_
            rintro e w3 ⟨rfl, rfl⟩
            go_wp2_with fail
            go_ret2
            rw [HRN.out]
            exact ⟨_, rfl, fun l h => (nomatch h), hq2.trans hq⟩
          · have h6b : (kc == 6) = false := beq_eq_false_iff_ne.2 h6
            have HF2 := Lib.hid (G2 h6)
            clear G1 G2
            go_wp2_with fail
            refine (HK1.out _).mono ?_
            rintro e w3 ⟨rfl, rfl⟩
            go_wp2_with fail
            refine (Ur.encode_any _ _).mono ?_
            rintro e w3 ⟨rfl, hq3⟩
            have ho3 := ho.q hq3
            have hq23 := hq.trans hq3
            have hqs3 := hq23.le
            go_wp2_with (at_builtin; refine Pc.push elB ho3 rfl _ _ rfl kc (encB c) (by rfl) (by rfl) hol hqs3 ?_)
            intro v' w4 ho4 hg4 hat4
            have HO4 : Hid (OwnB w4 w2.heap.size v' (tkP (o ++ [(kc, c)]))) := Lib.hid (by rw [tkP_app]; exact ho4)
            have hq4 := hq23.grown hg4 (fun j h => (ho3.lt j h).1)
            clear ho4
            go_wp2_with fail
            go_roundw
            case rel => exact ⟨k + 1, false, o ++ [(kc, c)], by go_num, rfl, by omega, HO4.out, HF2.out, hq4⟩
            case measure => simp [intOf]; omega
        · have G2 := HF.out.in hkl (by rw [← HC.out]; exact h39)
          rw [← HC.out] at G2
          have HF2 := Lib.hid G2
          clear G2
          go_wp2_with fail
          refine (Ur.encode_any _ _).mono ?_
          rintro e w3 ⟨rfl, hq3⟩
          have ho3 := ho.q hq3
          have hq23 := hq.trans hq3
          have hqs3 := hq23.le
          go_wp2_with (at_builtin; refine Pc.push elB ho3 rfl _ _ rfl 0 (encB c) (by rfl) (by rfl) hol hqs3 ?_)
          intro v' w4 ho4 hg4 hat4
          have HO4 : Hid (OwnB w4 w2.heap.size v' (tkP (o ++ [(0, c)]))) := Lib.hid (by rw [tkP_app]; exact ho4)
          have hq4 := hq23.grown hg4 (fun j h => (ho3.lt j h).1)
          clear ho4
          go_wp2_with fail
          go_roundw
          case rel => exact ⟨k + 1, true, o ++ [(0, c)], by go_num, rfl, by omega, HO4.out, HF2.out, hq4⟩
          case measure => simp [intOf]; omega
    · have hke : k = cs.length := by have := HN.out; omega
      have hnlt : ¬ (k : Int) < (n : Int) := by omega
      have hfin := HF.out
      rw [hke] at hfin
      have HRF := Lib.hid (HR.out.trans hfin.fin)
      clear hfin hke
      cases b
      · go_wp2_with fail
        go_ret2
        rw [HRF.out]
        exact ⟨_, rfl, fun l h => by cases h; exact ho.mono hq2.le, hq2.trans hq⟩
      · go_wp2_with fail
        go_ret2
        rw [HRF.out]
        exact ⟨_, rfl, fun l h => (nomatch h), hq2.trans hq⟩

end Pr
end Go.Proofs.YtjloibgjnnknnaaGreatDoor
