/- What a map answers of clusters: one, several, where a word ends, and the map of the text in which others stand. -/
import Derived.Test.YtmobljfpkdjnpaaRows
import Derived.Test.YtmobljfpkdjnpaaInts
import Derived.Test.YtmobljfpkdjnpaaEls
import Derived.Test.YtmobljfpkdjnpaaPlcM
import Derived.Test.YtmobljfpkdjnpaaPlcW
import Derived.Test.YtmobljfpkdjnpaaJoinS
import Derived.ArgAppend
set_option linter.unusedVariables false
set_option linter.unusedSimpArgs false
namespace Go.Proofs.Ytmobljfpkdjnpaa
open Go.RowKit Um Cm Gm Pm

/-- A cluster; the empty text: there is none. -/
def cluZ (s : ByteArray) (i : Int) : ByteArray := if 0 ≤ i ∧ i < (nC s : Int) then pc s (stL1 s.data.toList) i.toNat else ⟨#[]⟩
theorem pcs_at (s : ByteArray) (k : Nat) (h : k < nC s) : (pcs s)[k]? = some (pc s (stL1 s.data.toList) k) := by
  unfold pcs
  rw [List.getElem?_map, List.getElem?_range (show k < (begL s.data.toList).length from h)]; rfl

set_option maxHeartbeats 800000 in
theorem mclu_any (b : Nat) (s : ByteArray) (i : Int) (w : World) (h : Mp w b s) :
    Calls Try.prog 20 #[.pointer (some ⟨b, 0, none⟩), .int .i64 i] w fun e w' => e = .returned (.tuple #[.string (cluZ s i), .bool (decide (0 ≤ i ∧ i < (nC s : Int)))]) ∧ w = w' := by
  have HL := Lib.hid (fun w h => mlen_any b s w h)
  have HM := Lib.hid h
  by_cases hin : 0 ≤ i ∧ i < (nC s : Int)
  · have HR := Lib.hid (show cluZ s i = pc s (stL1 s.data.toList) i.toNat from if_pos hin)
    have HD := Lib.hid (decide_eq_true hin)
    obtain ⟨hi0, hi1⟩ := hin
    obtain ⟨k, rfl⟩ : ∃ k : Nat, i = k := ⟨i.toNat, by omega⟩
    obtain ⟨hb, v, u, h0, h1, h2, hv, hu⟩ := h
    obtain ⟨g, off, cap, rfl, hg, _, _, c1⟩ := hv.cellOf (pcs_nC s) (pcs_at s k (by omega))
    generalize hn : nC s = n at *
    have hng : ¬ (n : Int) ≤ (k : Int) := by omega
    rw [Int.toNat_natCast] at HR
    clear hu hn
    go_enter Try.func20, Try.ntmps20
    go_wp2_with fail
    refine (HL.out _ HM.out).mono ?_
    rintro e w1 ⟨rfl, rfl⟩
    go_wp2_with fail
    go_ret2
    rw [HR.out, HD.out]
    exact ⟨rfl, rfl⟩
  · have HR := Lib.hid (show cluZ s i = ⟨#[]⟩ from if_neg hin)
    have HD := Lib.hid (decide_eq_false hin)
    by_cases hi0 : i < 0
    · go_enter Try.func20, Try.ntmps20
      go_wp2_with fail
      go_ret2
      rw [HR.out, HD.out]
      exact ⟨rfl, rfl⟩
    · have hgt : (nC s : Int) ≤ i := by omega
      generalize nC s = n at *
      clear hin h
      go_enter Try.func20, Try.ntmps20
      go_wp2_with fail
      refine (HL.out _ HM.out).mono ?_
      rintro e w1 ⟨rfl, rfl⟩
      go_wp2_with fail
      go_ret2
      rw [HR.out, HD.out]
      exact ⟨rfl, rfl⟩

/-- Clusters of a text from one up to another. -/
def cutL (s : ByteArray) (i j : Nat) : List ByteArray := ((pcs s).drop i).take (j - i)
theorem cutL_length (s : ByteArray) (i j : Nat) (hij : i ≤ j) (hj : j ≤ nC s) : (cutL s i j).length = j - i := by
  unfold cutL
  rw [List.length_take, List.length_drop, pcs_nC]; omega
theorem cutL_at (s : ByteArray) (i j k : Nat) (x : ByteArray) (h : (cutL s i j)[k]? = some x) : k < j - i ∧ (pcs s)[i + k]? = some x := by
  unfold cutL at h
  rw [List.getElem?_take] at h
  split at h
  · rw [List.getElem?_drop] at h
    exact ⟨by assumption, h⟩
  · cases h

set_option maxHeartbeats 800000 in
/-- They are no copy: a slice without room of the map's own row. -/
theorem mcut_in (b : Nat) (s : ByteArray) (p q : Nat) (w : World) (h : Mp w b s) (hpq : p ≤ q) (hq : q ≤ nC s) (hs : s.size ≤ 1073741824) :
    Calls Try.prog 30 #[.pointer (some ⟨b, 0, none⟩), .int .i64 p, .int .i64 q] w fun e w' => ∃ a, e = .returned (.tuple #[.slice a (q - p) (q - p), .bool true]) ∧ SLst w (.slice a (q - p) (q - p)) (cutL s p q) ∧ w = w' := by
  have HL := Lib.hid (fun w h => mlen_any b s w h)
  have HM := Lib.hid h
  have hn := nC_le s
  have hcl := cutL_length s p q hpq hq
  have hca := cutL_at s p q
  obtain ⟨hb, v, u, h0, h1, h2, hv, hu⟩ := h
  by_cases hpq2 : p = q
  · subst hpq2
    have HZ := Lib.hid (show cutL s p p = [] from by unfold cutL; simp)
    obtain ⟨a, c, rfl, hc1, hc2⟩ := hv.form0 (pcs_nC s)
    have hpc : (p : Int) ≤ (c : Int) := by omega
    have hng : ¬ (nC s : Int) < (p : Int) := by omega
    unfold maxLen at hc2
    rw [Nat.sub_self, HZ.out]
    generalize nC s = n at *
    clear hv hu hcl hca
    go_enter Try.func30, Try.ntmps30
    go_wp2_with fail
    refine (HL.out _ HM.out).mono ?_
    rintro e w1 ⟨rfl, rfl⟩
    cases a
    all_goals
      go_wp2_with fail
      go_ret2
      exact ⟨_, rfl, .nil _ _ _ _ (by unfold maxLen; omega) (fun _ => rfl), rfl⟩
  · have hlt : p < q := by omega
    obtain ⟨g, off, cap, rfl, hg, hcp, hcm, hcell⟩ : ∃ g off cap, v = .slice (some ⟨g, off, none⟩) (nC s) cap ∧ g < w.heap.size ∧ nC s ≤ cap ∧ cap ≤ maxLen ∧ ∀ i x, (pcs s)[i]? = some x → w.cell? ⟨g, off + i, none⟩ = some (.string x) := by
      rcases hv with ⟨he, _⟩ | ⟨g, off, cap, hvv, hg, e1, e2, hc⟩
      · have := pcs_nC s
        rw [he] at this; simp at this; omega
      · rw [pcs_nC] at hvv e1
        exact ⟨g, off, cap, hvv, hg, e1, e2, hc⟩
    have hpc : (q : Int) ≤ (cap : Int) := by omega
    have hng : ¬ (nC s : Int) < (q : Int) := by omega
    have hpi : (p : Int) ≤ (q : Int) := by omega
    have hne : ¬ (q = p) := by omega
    have hne2 : ¬ (q - p = 0) := by omega
    have hL : SLst w (.slice (some ⟨g, off + p, none⟩) (q - p) (q - p)) (cutL s p q) := by
      refine .inr ⟨g, off + p, q - p, by rw [hcl], hg, by omega, by unfold maxLen at *; omega, fun i x hi => ?_⟩
      rw [Nat.add_assoc]
      exact hcell _ _ (hca i x hi).2
    unfold maxLen at hcm
    have HR := Lib.hid hL
    generalize nC s = n at *
    clear hv hu hcl hca hcell hL hlt
    go_enter Try.func30, Try.ntmps30
    go_wp2_with fail
    refine (HL.out _ HM.out).mono ?_
    rintro e w1 ⟨rfl, rfl⟩
    go_wp2_with fail
    go_ret2
    exact ⟨_, rfl, HR.out, rfl⟩
set_option maxHeartbeats 800000 in
theorem mcut_out (b : Nat) (s : ByteArray) (i j : Int) (w : World) (h : Mp w b s) (hin : ¬ (0 ≤ i ∧ i ≤ j ∧ j ≤ (nC s : Int))) :
    Calls Try.prog 30 #[.pointer (some ⟨b, 0, none⟩), .int .i64 i, .int .i64 j] w fun e w' => e = .returned (.tuple #[.slice none 0 0, .bool false]) ∧ w = w' := by
  have HL := Lib.hid (fun w h => mlen_any b s w h)
  have HM := Lib.hid h
  by_cases hi0 : i < 0
  · clear hin h
    go_enter Try.func30, Try.ntmps30
    go_wp2_with fail
    go_ret2
    exact ⟨rfl, rfl⟩
  · by_cases hji : j < i
    · clear hin h
      go_enter Try.func30, Try.ntmps30
      go_wp2_with fail
      go_ret2
      exact ⟨rfl, rfl⟩
    · have hgt : (nC s : Int) < j := by omega
      generalize nC s = n at *
      clear hin h
      go_enter Try.func30, Try.ntmps30
      go_wp2_with fail
      refine (HL.out _ HM.out).mono ?_
      rintro e w1 ⟨rfl, rfl⟩
      go_wp2_with fail
      go_ret2
      exact ⟨rfl, rfl⟩

theorem cat_cut (s : ByteArray) (p q : Nat) (hpq : p ≤ q) (hq : q ≤ nC s) : cat (cutL s p q) = (s.data.toList.take ((stL1 s.data.toList).getD q 0).toNat).drop ((stL1 s.data.toList).getD p 0).toNat := pcs_drop s p q hpq hq
theorem cat_cut_le (s : ByteArray) (p q : Nat) (hpq : p ≤ q) (hq : q ≤ nC s) : (cat (cutL s p q)).length ≤ s.size := by
  rw [cat_cut s p q hpq hq, List.length_drop, List.length_take, size_list]; omega
theorem cutL_len_le (s : ByteArray) (p q : Nat) : (cutL s p q).length ≤ nC s := by
  unfold cutL
  rw [List.length_take, List.length_drop, pcs_nC]; omega

set_option maxHeartbeats 800000 in
theorem mslice_in (b : Nat) (s : ByteArray) (p q : Nat) (w : World) (h : Mp w b s) (hpq : p ≤ q) (hq : q ≤ nC s) (hs : s.size ≤ 1073741824) :
    Calls Try.prog 19 #[.pointer (some ⟨b, 0, none⟩), .int .i64 p, .int .i64 q] w fun e w' => e = .returned (.tuple #[.string ⟨(cat (cutL s p q)).toArray⟩, .bool true]) ∧ Q w w' := by
  have HC := Lib.hid (mcut_in b s p q w h hpq hq hs)
  have hn := nC_le s
  have h1 := cat_cut_le s p q hpq hq
  have h2 := cutL_len_le s p q
  have HJ := Lib.hid (fun v w h => sjoin_any v (cutL s p q) w h (by omega) (by omega))
  clear h1 h2 hn
  go_enter Try.func19, Try.ntmps19
  go_wp2_with fail
  refine HC.out.mono ?_
  rintro e w1 ⟨a, rfl, hL, rfl⟩
  go_wp2_with fail
  refine (HJ.out _ _ hL).mono ?_
  rintro e w2 ⟨rfl, hq2⟩
  go_wp2_with fail
  go_ret2
  exact ⟨rfl, hq2⟩
set_option maxHeartbeats 800000 in
theorem mslice_out (b : Nat) (s : ByteArray) (i j : Int) (w : World) (h : Mp w b s) (hin : ¬ (0 ≤ i ∧ i ≤ j ∧ j ≤ (nC s : Int))) :
    Calls Try.prog 19 #[.pointer (some ⟨b, 0, none⟩), .int .i64 i, .int .i64 j] w fun e w' => e = .returned (.tuple #[.string ⟨#[]⟩, .bool false]) ∧ Q w w' := by
  have HC := Lib.hid (mcut_out b s i j w h hin)
  have HJ := Lib.hid (fun w => sjoin_any (.slice none 0 0) [] w (.nil _ _ _ _ (by unfold maxLen; omega) (fun _ => rfl)) (by simp) (by simp [cat]))
  clear hin
  go_enter Try.func19, Try.ntmps19
  go_wp2_with fail
  refine HC.out.mono ?_
  rintro e w1 ⟨rfl, rfl⟩
  go_wp2_with fail
  refine (HJ.out _).mono ?_
  rintro e w2 ⟨rfl, hq2⟩
  go_wp2_with fail
  go_ret2
  exact ⟨rfl, hq2⟩

/-- One element more behind a list that has no room: a list of the call's own. -/
theorem gfull {α : Type} {T ST : TypeId} {z : Value} {bytes : Nat} (he : Elem T ST z bytes) {en : α → Value} {w : World} {a0 : Option Addr} {n : Nat} {zs : List α} (hv : GLst en w (.slice a0 n n) zs) (hn : zs.length = n) {ops : Array Oper} {rest : List Oper} {o : Oper} {a : Act} {R : Exit → Act → World → Prop} (hgd : o.guard = none) (s x : Operand)
    (ho : o.op = .call { callee := .builtin .append, args := #[s, x], argTypes := #[ST, ST] })
    (y : α) (h1c : (en y).oneCell' = true) (hs : a.eval s = .slice a0 n n) (hx : a.eval x = .slice (some ⟨w.heap.size, 0, none⟩) 1 1) (hlen : n < 1099511627776)
    (h : ∀ v' w', GOwn T en w' w.heap.size v' (zs ++ [y]) → Q w w' → wpList Try.prog ops R rest (a.put o.dst v') w') :
    wpList Try.prog ops R (o :: rest) a (w.alloc (.cells #[en y] T)) := by
  obtain ⟨i0, hi, hz0, hz1, hz2⟩ := info_parts he.info
  have hv2 := hv.q ((Q.refl w).alloc (.cells #[en y] T))
  refine wpList_append_grows (w.alloc (.cells #[en y] T)) hgd s x ST ho T i0 z 1 bytes he.under hi hz0 hz1 hz2 he.one (by decide) a0 n n (zs.map en) hs ?_ (by rw [List.length_map]; omega) ?_
    ⟨w.heap.size, 0, none⟩ 1 1 [en y] hx rfl (cell_one_new _ _ _) ?_ (by omega) (by unfold maxLen; omega) ?_ ?_
  · intro h0
    rcases hv2 with ⟨rfl, a1, c1, h3, h4, h5⟩ | ⟨g, off, cap, h3, _⟩
    · cases h3
      exact ⟨rfl, h5 h0⟩
    · cases h3; cases h0
  · intro b0 hb0 j u hj
    rw [List.getElem?_map] at hj
    obtain ⟨x1, hx1, rfl⟩ := Option.map_eq_some_iff.1 hj
    rcases hv2 with ⟨rfl, _⟩ | ⟨g, off, cap, h3, _, _, _, hc⟩
    · simp at hx1
    · cases h3; cases hb0
      have hadd : (⟨g, off, none⟩ : Addr).add j = ⟨g, off + j, none⟩ := by unfold Addr.add; split <;> simp_all
      rw [hadd]
      exact hc j x1 hx1
  · intro u hu; simp at hu; subst hu; exact h1c
  · have h1 : (n + 1) * bytes ≤ (n + 1) * 64 := Nat.mul_le_mul_left _ he.small
    omega
  · intro v' w' hown' hg
    refine h v' w' ?_ (((Q.refl w).alloc _).grown hg (fun k h => by cases h))
    have e1 : (zs ++ [y]).length = n + 1 := by simp [hn]
    have hh : GOwn T en w' (w.alloc (.cells #[en y] T)).heap.size v' (zs ++ [y]) := by
      unfold GOwn
      rw [e1, List.map_append]
      exact hown'
    exact hh.mono (by simp)

end Go.Proofs.Ytmobljfpkdjnpaa
