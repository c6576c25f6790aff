/- What the program's signs answers: a text's characters, each with what it is, or that a quotation does not end; how far signs go that are so. -/
import Derived.Test.YtjloibgjnnknnaaDoorRows
import Derived.Test.YtjloibgjnnknnaaDoorInts
import Derived.Test.YtjloibgjnnknnaaDoorUtfM
import Derived.Test.YtjloibgjnnknnaaDoorUtfW
import Derived.Test.YtjloibgjnnknnaaDoorSto
import Derived.Test.YtjloibgjnnknnaaDoorSgs
import Derived.Test.YtjloibgjnnknnaaDoorPatM
import Derived.Test.YtjloibgjnnknnaaDoorPatN
import Derived.Test.YtjloibgjnnknnaaDoorPgA
set_option linter.unusedVariables false
set_option linter.unusedSimpArgs false
namespace Go.Proofs.YtjloibgjnnknnaaDoor
open Go.RowKit
namespace Pg
open Pt Um

theorem elG : Sg.El 91 73 := ⟨by kernel_rfl, Tryd.underlying73⟩
abbrev OwnG (w : World) (B : Nat) (v : Value) (l : List (Int × Int)) : Prop := Sg.OwnE 91 w B v l

/-- A text's characters, each with what it is, wrong ones too. None: a quotation does not end. -/
def tokQ : Bool → Bool → List Int → Option (List (Int × Int))
  | q, p, [] => if (q != p) = true then none else some []
  | q, p, c :: r =>
    if c = 39 then (if p = true then (tokQ q false r).map ((0, 39) :: ·) else tokQ q true r)
    else if (q != p) = true then (tokQ true false r).map ((0, c) :: ·)
    else (tokQ false false r).map ((kindC c, c) :: ·)
theorem tokQ_cons (q p : Bool) (c : Int) (r : List Int) : tokQ q p (c :: r) = if c = 39 then (if p = true then (tokQ q false r).map ((0, 39) :: ·) else tokQ q true r) else if (q != p) = true then (tokQ true false r).map ((0, c) :: ·) else (tokQ false false r).map ((kindC c, c) :: ·) := rfl
theorem tok_q (cs : List Int) : ∀ q p l, tokS q p cs = some l → tokQ q p cs = some l := by
  induction cs with
  | nil => intro q p l h; exact h
  | cons c r ih =>
    intro q p l h
    rw [tokS_cons] at h
    rw [tokQ_cons]
    split at h
    · rename_i h1
      rw [if_pos h1]
      split at h
      · rename_i h2
        rw [if_pos h2]
        obtain ⟨m, hm, rfl⟩ := Option.map_eq_some_iff.1 h
        rw [ih _ _ _ hm]; rfl
      · rename_i h2
        rw [if_neg h2]
        exact ih _ _ _ h
    · rename_i h1
      rw [if_neg h1]
      split at h
      · rename_i h2
        rw [if_pos h2]
        obtain ⟨m, hm, rfl⟩ := Option.map_eq_some_iff.1 h
        rw [ih _ _ _ hm]; rfl
      · rename_i h2
        rw [if_neg h2]
        split at h
        · cases h
        · obtain ⟨m, hm, rfl⟩ := Option.map_eq_some_iff.1 h
          rw [ih _ _ _ hm]; rfl
theorem tokQ_turn (q : Bool) (r : List Int) (h : r = [] ∨ r.getD 0 0 ≠ 39) : tokQ q true r = tokQ (!q) false r := by
  cases r with
  | nil => cases q <;> rfl
  | cons c r =>
    have hc : c ≠ 39 := by
      rcases h with h | h
      · cases h
      · simpa using h
    rw [tokQ_cons, tokQ_cons, if_neg hc, if_neg hc]
    cases q <;> rfl
theorem drop_at (cs : List Int) (k : Nat) (hk : k < cs.length) : cs.drop k = cs.getD k 0 :: cs.drop (k + 1) := by
  rw [List.getD_eq_getElem?_getD, List.getElem?_eq_getElem hk]
  exact List.drop_eq_getElem_cons hk

/-- How far the loop has come: o is out, the rest stands. -/
def Far (cs : List Int) (k : Nat) (q : Bool) (o : List (Int × Int)) : Prop := (tokQ q false (cs.drop k)).map (o ++ ·) = tokQ false false cs ∧ o.length ≤ k
theorem Far.start (cs : List Int) : Far cs 0 false [] := ⟨by simp, by simp⟩
theorem Far.two {cs : List Int} {k : Nat} {q : Bool} {o : List (Int × Int)} (h : Far cs k q o) (hk : k + 1 < cs.length) (h1 : cs.getD k 0 = 39) (h2 : cs.getD (k + 1) 0 = 39) : Far cs (k + 2) q (o ++ [(0, 39)]) := by
  obtain ⟨h, hl⟩ := h
  rw [drop_at cs k (by omega), h1, drop_at cs (k + 1) hk, h2, tokQ_cons, if_pos rfl, if_neg (by decide), tokQ_cons, if_pos rfl, if_pos rfl, Option.map_map] at h
  refine ⟨?_, by simp; omega⟩
  rw [← h]
  congr 1
  funext x; simp
theorem Far.turn {cs : List Int} {k : Nat} {q : Bool} {o : List (Int × Int)} (h : Far cs k q o) (hk : k < cs.length) (h1 : cs.getD k 0 = 39) (h2 : ¬ (k + 1 < cs.length ∧ cs.getD (k + 1) 0 = 39)) : Far cs (k + 1) (!q) o := by
  obtain ⟨h, hl⟩ := h
  rw [drop_at cs k hk, h1, tokQ_cons, if_pos rfl, if_neg (by decide)] at h
  refine ⟨?_, by omega⟩
  rw [← h, tokQ_turn q]
  by_cases hn : k + 1 < cs.length
  · right
    rw [drop_at cs (k + 1) hn]
    simpa using fun e => h2 ⟨hn, by simpa using e⟩
  · left
    exact List.drop_eq_nil_of_le (by omega)
theorem Far.in {cs : List Int} {k : Nat} {o : List (Int × Int)} (h : Far cs k true o) (hk : k < cs.length) (h1 : cs.getD k 0 ≠ 39) : Far cs (k + 1) true (o ++ [(0, cs.getD k 0)]) := by
  obtain ⟨h, hl⟩ := h
  rw [drop_at cs k hk, tokQ_cons, if_neg h1, if_pos (by decide), Option.map_map] at h
  refine ⟨?_, by simp; omega⟩
  rw [← h]
  congr 1
  funext x; simp
theorem Far.out {cs : List Int} {k : Nat} {o : List (Int × Int)} (h : Far cs k false o) (hk : k < cs.length) (h1 : cs.getD k 0 ≠ 39) : Far cs (k + 1) false (o ++ [(kindC (cs.getD k 0), cs.getD k 0)]) := by
  obtain ⟨h, hl⟩ := h
  rw [drop_at cs k hk, tokQ_cons, if_neg h1, if_neg (by decide), Option.map_map] at h
  refine ⟨?_, by simp; omega⟩
  rw [← h]
  congr 1
  funext x; simp
theorem Far.fin {cs : List Int} {q : Bool} {o : List (Int × Int)} (h : Far cs cs.length q o) : tokQ false false cs = if q = true then none else some o := by
  obtain ⟨h, hl⟩ := h
  rw [List.drop_eq_nil_of_le (Nat.le_refl _)] at h
  rw [← h]
  cases q <;> simp [tokQ]

set_option maxHeartbeats 4000000 in
theorem signs_any (s : ByteArray) (w : World) (hs : s.size ≤ 1000000) (hok : okL s.data.toList = true) :
    Calls Tryd.prog 33 #[.string s] w fun e w' => Q w w' ∧
      ((∃ v l, tokQ false false (allL s.data.toList) = some l ∧ e = .returned v ∧ OwnG w' w.heap.size v l ∧ l.length ≤ s.size) ∨ (tokQ false false (allL s.data.toList) = none ∧ e = .panicked form)) := by
  have hva := fun w => valid_any s w (by unfold maxLen; omega)
  rw [hok] at hva
  have hal := fun w => all_any s w (by omega)
  have hml := marks_length s.data.toList
  rw [size_list] at hml
  have hcl : (allL s.data.toList).length ≤ s.size := by unfold allL; simp; omega
  clear hml hok
  generalize allL s.data.toList = cs at *
  obtain ⟨n, hn⟩ : ∃ n, n = cs.length := ⟨_, rfl⟩
  have HN := Lib.hid hn
  rw [← hn] at hcl
  obtain ⟨R, hR⟩ : ∃ R, R = tokQ false false cs := ⟨_, rfl⟩
  have HR := Lib.hid hR
  rw [← hR]
  clear hn hR
  go_enter Tryd.func33, Tryd.ntmps33
  go_wp2_with fail
  refine (hva _).mono ?_
  rintro e w1 ⟨rfl, hq1⟩
  go_wp2_with fail
  refine (need_yes _).mono ?_
  rintro e w1' ⟨rfl, rfl⟩
  go_wp2_with fail
  refine (hal _).mono ?_
  rintro e w2 ⟨v, rfl, hv, hq2'⟩
  have hq2 := hq1.trans hq2'
  clear hq1 hq2'
  have HV := Lib.hid hv.lst
  obtain ⟨a, cp, rfl, _, _⟩ := hv.lst.form0 HN.out.symm
  clear hv hal hva
  go_wp2_with fail
  go_loopw [3, 5, 6] (fun u q i wr => ∃ (k : Nat) (b : Bool) (o : List (Int × Int)), i = .int .i64 k ∧ q = .bool b ∧ k ≤ n ∧ OwnG wr w2.heap.size u o ∧ Far cs k b o ∧ Q w2 wr) (fun _ _ i _ => n - (intOf i).toNat)
  case atStart => exact ⟨0, false, [], rfl, rfl, by omega, Sg.OwnE.nil _ _ _, Far.start cs, Q.refl _⟩
  case round =>
    obtain ⟨k, b, o, rfl, rfl, hk, ho, hf, hq⟩ := hrel
    have hqs := hq.le
    have HF := Lib.hid hf
    have hol : o.length < 1073741824 := by have := hf.2; omega
    clear hf
    by_cases hlt : k < n
    · have hlti : (k : Int) < (n : Int) := by omega
      have hkl : k < cs.length := by have := HN.out; omega
      obtain ⟨g, off, cap, hvv, hg, hnc, hcm, hca⟩ := HV.out.cellOf HN.out.symm hlt
      cases hvv
      have hcell : ∀ j, j < n → wr.cell? ⟨g, off + j, none⟩ = some (.int .i64 (cs.getD j 0)) := by
        intro j hj
        obtain ⟨g', off', cap', hvv', hg', _, _, hcj⟩ := HV.out.cellOf HN.out.symm hj
        cases hvv'
        exact (World.cell?_of_block (w := w2) (hq.block hg')).trans hcj
      have c1 := hcell k hlt
      have HCE := Lib.hid hcell
      clear hca hcell
      have F1 := fun h1 h2 h3 => HF.out.two h1 h2 h3
      have F2 := fun h1 h2 => HF.out.turn hkl h1 h2
      obtain ⟨c, hc⟩ : ∃ c, c = cs.getD k 0 := ⟨_, rfl⟩
      rw [← hc] at c1 F1 F2
      have HC := Lib.hid hc
      clear hc
      by_cases h39 : c = 39
      · subst h39
        by_cases hn1 : k + 1 < n
        · have hn1i : (k : Int) + 1 < (n : Int) := by omega
          have c2 := HCE.out (k + 1) hn1
          obtain ⟨d, hd⟩ : ∃ d, d = cs.getD (k + 1) 0 := ⟨_, rfl⟩
          rw [← hd] at c2 F1 F2
          have HD := Lib.hid hd
          clear hd
          by_cases hd9 : d = 39
          · subst hd9
            have HF2 := Lib.hid (F1 (by have := HN.out; omega) rfl rfl)
            clear F1 F2
            go_wp2_with (at_builtin; refine Sg.push elG ho rfl _ _ rfl 0 39 (by rfl) (by rfl) hol hqs ?_)
            intro v' w4 ho4 hg4 hat4
            have hq4 := hq.grown hg4 (fun j h => (ho.lt j h).1)
            go_wp2_with fail
            go_roundw
            case rel => exact ⟨k + 2, b, o ++ [(0, 39)], by go_num, rfl, by omega, ho4, HF2.out, hq4⟩
            case measure => simp [intOf]; omega
          · have hdb : (d == 39) = false := beq_eq_false_iff_ne.2 hd9
            have HF2 := Lib.hid (F2 rfl (fun h => hd9 h.2))
            clear F1 F2
            go_wp2_with fail
            go_roundw
            case rel => exact ⟨k + 1, !b, o, by go_num, rfl, by omega, ho, HF2.out, hq⟩
            case measure => simp [intOf]; omega
        · have hn1i : ¬ (k : Int) + 1 < (n : Int) := by omega
          have HF2 := Lib.hid (F2 rfl (fun h => hn1 (by have := HN.out; omega)))
          clear F1 F2
          go_wp2_with fail
          go_roundw
          case rel => exact ⟨k + 1, !b, o, by go_num, rfl, by omega, ho, HF2.out, hq⟩
          case measure => simp [intOf]; omega
      · have hcb : (c == 39) = false := beq_eq_false_iff_ne.2 h39
        clear F1 F2
        cases b
        · have G2 := HF.out.out hkl (by rw [← HC.out]; exact h39)
          have K1 := fun w => meaning_any c w
          rw [← HC.out] at G2
          obtain ⟨kc, hkc⟩ : ∃ kc, kc = kindC c := ⟨_, rfl⟩
          rw [← hkc] at G2 K1
          have HK1 := Lib.hid K1
          have HF2 := Lib.hid G2
          clear hkc K1 G2
          go_wp2_with fail
          refine (HK1.out _).mono ?_
          rintro e w3 ⟨rfl, rfl⟩
          go_wp2_with (at_builtin; refine Sg.push elG ho rfl _ _ rfl kc c (by rfl) (by rfl) hol hqs ?_)
          intro v' w4 ho4 hg4 hat4
          have hq4 := hq.grown hg4 (fun j h => (ho.lt j h).1)
          go_wp2_with fail
          go_roundw
          case rel => exact ⟨k + 1, false, o ++ [(kc, c)], by go_num, rfl, by omega, ho4, HF2.out, hq4⟩
          case measure => simp [intOf]; omega
        · have G2 := HF.out.in hkl (by rw [← HC.out]; exact h39)
          rw [← HC.out] at G2
          have HF2 := Lib.hid G2
          clear G2
          go_wp2_with (at_builtin; refine Sg.push elG ho rfl _ _ rfl 0 c (by rfl) (by rfl) hol hqs ?_)
          intro v' w4 ho4 hg4 hat4
          have hq4 := hq.grown hg4 (fun j h => (ho.lt j h).1)
          go_wp2_with fail
          go_roundw
          case rel => exact ⟨k + 1, true, o ++ [(0, c)], by go_num, rfl, by omega, ho4, HF2.out, hq4⟩
          case measure => simp [intOf]; omega
    · have hke : k = cs.length := by have := HN.out; omega
      have hnlt : ¬ (k : Int) < (n : Int) := by omega
      have hfin := HF.out
      rw [hke] at hfin
      have HRF := Lib.hid (HR.out.trans hfin.fin)
      have hole : o.length ≤ s.size := by have := HF.out.2; omega
      clear hfin hke
      cases b
      · go_wp2_with fail
        refine (need_yes _).mono ?_
        rintro e w3 ⟨rfl, rfl⟩
        go_wp2_with fail
        go_ret
        exact ⟨hq2.trans hq, .inl ⟨_, _, HRF.out, rfl, ho.mono hq2.le, hole⟩⟩
      · go_wp2_with fail
        refine (need_no _).mono ?_
        rintro e w3 ⟨rfl, rfl⟩
        go_wp2_with fail
        exact ⟨rfl, hq2.trans hq, .inr ⟨HRF.out, rfl⟩⟩

end Pg
end Go.Proofs.YtjloibgjnnknnaaDoor
