/- A builder's byte; quotes doubled; a run between quotes. -/
import Derived.Test.YtjloibgjnnknnaaDoorRows
import Derived.Test.YtjloibgjnnknnaaDoorInts
import Derived.Test.YtjloibgjnnknnaaDoorUtfM
import Derived.Test.YtjloibgjnnknnaaDoorUtfW
import Derived.Test.YtjloibgjnnknnaaDoorBld
import Derived.Test.YtjloibgjnnknnaaDoorJoinS
import Derived.Test.YtjloibgjnnknnaaDoorShelfP
import Derived.Test.YtjloibgjnnknnaaDoorPatM
import Derived.Test.YtjloibgjnnknnaaDoorPatN
import Derived.Test.YtjloibgjnnknnaaDoorPgA
import Derived.Test.YtjloibgjnnknnaaDoorPgC
import Derived.Test.YtjloibgjnnknnaaDoorPgE
set_option linter.unusedVariables false
set_option linter.unusedSimpArgs false
namespace Go.Proofs.YtjloibgjnnknnaaDoor
open Go.RowKit
namespace Bl
set_option maxHeartbeats 2000000 in
set_option maxRecDepth 100000 in
theorem byte_any (B b : Nat) (bs : List Value) (c : Int) (w : World) (h : Is B b bs w) (hlen : bs.length + 1 ≤ 140737488355328) (hBw : B ≤ w.heap.size) :
    Calls Tryd.prog 40 #[.pointer (some ⟨b, 0, none⟩), .int .u8 c] w fun e w' => e = .returned .nilIface ∧ Is B b (bs ++ [.int .u8 c]) w' ∧ Below B w w' := by
  obtain ⟨i0, hi, hz0, hz1, hz2⟩ := info_parts infoByte
  go_enter Tryd.func40, Tryd.ntmps40
  go_wp2_with (go_at_call 31; refine (check_any B b bs _ h).mono ?_)
  rintro e w1 ⟨rfl, h1, hb1, hk1⟩
  obtain ⟨hB, v, hbk, hown, hne⟩ := h1
  have c0 : w1.cell? ⟨b, 0, none⟩ = some (.pointer (some ⟨b, 0, none⟩)) := by rw [Lib.cell_of_heap hbk]; rfl
  have c1 : w1.cell? ⟨b, 1, none⟩ = some v := by rw [Lib.cell_of_heap hbk]; rfl
  go_wp2_with (at_builtin; refine wpList_append_ownF _ rfl _ _ 53 rfl B 5 i0 (.int .u8 0) 1 1 Tryd.underlying53 hi hz0 hz1 hz2 rfl (by decide) _ _ _ rfl (hown.alloc _) ⟨w1.heap.size, 0, none⟩ 1 1 [.int .u8 c] rfl rfl ?c1 ?c2 ?c3 ?c4 ?c5 ?_)
  case c1 =>
    intro j u hj
    match j, hj with
    | 0, hj => simp at hj; subst hj; simp [Addr.add]
  case c2 => intro u hu; simp at hu; subst hu; rfl
  case c3 => unfold maxLen; omega
  case c4 => omega
  case c5 => have := hb1.size; simp; omega
  intro v' w2 hown' hgrow _
  have hlt : b < w1.heap.size := (Array.getElem?_eq_some_iff.1 hbk).1
  have hb2 : w2.heap[b]? = some (.cells #[.pointer (some ⟨b, 0, none⟩), v] 55 (0, 0)) := by
    rw [hgrow.block b (by simp; omega) (fun e => hne e.symm), Lib.alloc_old w1 _ b hlt]
    exact hbk
  have d0 : w2.cell? ⟨b, 0, none⟩ = some (.pointer (some ⟨b, 0, none⟩)) := by rw [Lib.cell_of_heap hb2]; rfl
  have d1 : w2.cell? ⟨b, 1, none⟩ = some v := by rw [Lib.cell_of_heap hb2]; rfl
  have f1 : w2.frozen? ⟨b, 1, none⟩ = false := Lib.frozen_of_heap hb2 1
  obtain ⟨g, cap, rfl⟩ : ∃ g cap, v' = .slice (some ⟨g, 0, none⟩) (bs.length + 1) cap := by
    rcases hown'.2 with ⟨_, h0⟩ | ⟨g, cap, cur, fz, hv, _⟩
    · omega
    · exact ⟨g, cap, hv⟩
  go_wp2
  go_ret
  refine ⟨rfl, .inr ?_, ?_⟩
  · exact Lib.BuilderAtF.put (T := 55) (e := 5) hB hb2 (bs' := bs ++ [.int .u8 c]) (by simpa using hown') (by decide)
  · exact ((hb1.alloc (by have := hb1.size; omega) _).grown hgrow (by have := hb1.size; simp; omega) (fun k hk => (hown.lt k hk).1)).setCell (p := ⟨b, 1, none⟩) hB _
theorem Is.byte {B b : Nat} {l : List UInt8} {c : UInt8} {w : World} (h : Is B b (Lib.byteCells l ++ [.int .u8 ((c.toNat : Nat) : Int)]) w) : Is B b (Lib.byteCells (l ++ [c])) w := by
  rw [Lib.byteCells_append]
  exact h
end Bl
namespace Pg
open Pt Um

/-- Each quote doubled, in bytes. -/
def dblB (l : List UInt8) : List UInt8 := l.flatMap fun c => if c = 39 then [39, 39] else [c]
theorem dblB_cons (c : UInt8) (r : List UInt8) : dblB (c :: r) = (if c = 39 then [39, 39] else [c]) ++ dblB r := rfl
theorem dblB_app (a b : List UInt8) : dblB (a ++ b) = dblB a ++ dblB b := by simp [dblB]
theorem dblB_none (l : List UInt8) (h : ∀ c ∈ l, c ≠ 39) : dblB l = l := by
  induction l with
  | nil => rfl
  | cons c r ih =>
    rw [dblB_cons, if_neg (h c List.mem_cons_self), ih fun d hd => h d (List.mem_cons_of_mem _ hd)]; rfl
theorem count_none (l : List UInt8) (h : l.count 39 = 0) : dblB l = l := dblB_none l fun c hc e => by
  subst e
  have := List.count_pos_iff.2 hc
  omega
/-- The first quote. -/
theorem first_at (l : List UInt8) (h : 0 < l.count 39) : ∃ i : Nat, Lib.indexByte l 39 = i ∧ i < l.length ∧ dblB l = l.take i ++ [39, 39] ++ dblB (l.drop (i + 1)) ∧ (l.drop (i + 1)).count 39 + 1 = l.count 39 := by
  induction l with
  | nil => simp at h
  | cons c r ih =>
    by_cases hc : c = 39
    · subst hc
      refine ⟨0, rfl, by simp, by rw [dblB_cons, if_pos rfl]; rfl, by simp⟩
    · have hr : 0 < r.count 39 := by
        rw [List.count_cons_of_ne hc] at h
        exact h
      obtain ⟨i, h1, h2, h3, h4⟩ := ih hr
      refine ⟨i + 1, ?_, by simp; omega, ?_, ?_⟩
      · unfold Lib.indexByte
        rw [if_neg (by simpa using hc), h1]
        have : ((i : Int) == -1) = false := by rw [beq_eq_false_iff_ne]; omega
        rw [this]; simp
      · rw [dblB_cons, if_neg hc, h3]; simp
      · rw [List.drop_succ_cons, h4, List.count_cons_of_ne hc]
theorem dblB_len (l : List UInt8) : (dblB l).length ≤ 2 * l.length := by
  induction l with
  | nil => simp [dblB]
  | cons c r ih => rw [dblB_cons, List.length_append]; split <;> simp <;> omega
theorem extract_data (s : ByteArray) (a b : Nat) : (s.extract a b).data.toList = (s.data.toList.drop a).take (b - a) := by
  rw [ByteArray.data_extract, Array.toList_extract, List.extract_eq_take_drop]

set_option maxHeartbeats 4000000 in
set_option maxRecDepth 100000 in
theorem replace_any (s : ByteArray) (w : World) (hs : s.size ≤ 1000000) :
    Calls Tryd.prog 80 #[.string s, .string ⟨#[39]⟩, .string ⟨#[39, 39]⟩, .int .i64 (-1)] w fun e w' => e = .returned (.string ⟨(dblB s.data.toList).toArray⟩) ∧ Q w w' := by
  have hC := fun w => Sp.count_any s 39 w
  have hne : ((⟨#[39]⟩ : ByteArray).toList == (⟨#[39, 39]⟩ : ByteArray).toList) = false := by decide +kernel
  obtain ⟨m, hm⟩ : ∃ m, m = Lib.countByte s.data.toList 39 := ⟨_, rfl⟩
  rw [← hm] at hC
  have hmc : m = s.data.toList.count 39 := hm
  have hml : m ≤ s.size := by rw [hmc, ← size_list]; exact List.count_le_length
  have HC := Lib.hid hC
  have HM := Lib.hid hmc
  clear hC hm hmc
  by_cases h0 : m = 0
  · subst h0
    have HF := Lib.hid (show (⟨(dblB s.data.toList).toArray⟩ : ByteArray) = s by
      apply ba_ext
      rw [count_none _ HM.out.symm])
    go_enter Tryd.func80, Tryd.ntmps80
    go_wp2_with fail
    refine (HC.out _).mono ?_
    rintro e w1 ⟨rfl, rfl⟩
    go_wp2_with fail
    go_ret
    rw [HF.out]
    exact ⟨rfl, Q.refl _⟩
  · have hmb : ((m : Int) == 0) = false := beq_eq_false_iff_ne.2 (by omega)
    have hIX := Lib.hid (fun (w : World) (st : Nat) (hst : st ≤ s.size) => (by
      have := Sp.index_any (s.extract st s.size) 39 w
      rw [extract_list] at this
      exact this : Calls Tryd.prog 79 #[.string (s.extract st s.size), .string ⟨#[39]⟩] w fun e w' => e = .returned (.int .i64 (Lib.indexByte (s.data.toList.drop st) 39)) ∧ w' = w))
    have HDL := Lib.hid (dblB_len s.data.toList)
    have hfr := (Bl.Is.fresh w)
    have hq0 := (Q.refl w).alloc (.cells #[.pointer none, .slice none 0 0] 55)
    have HQ0 := Lib.hid hq0
    have HRM := Lib.hid (show ∀ (N : Int) (n : Nat), N = n → n ≤ 1099511627776 → Calls Tryd.prog 75 #[.pointer (some ⟨w.heap.size, 0, none⟩), .int .i64 N] (w.alloc (.cells #[.pointer none, .slice none 0 0] 55)) fun e w' => e = .returned (.tuple #[]) ∧ Bl.Is w.heap.size w.heap.size [] w' ∧ Below w.heap.size (w.alloc (.cells #[.pointer none, .slice none 0 0] 55)) w' from fun N n hN hn => by
      subst hN
      exact Bl.room_any w.heap.size w.heap.size n _ (Nat.le_refl _) (heap_alloc_new _ _) hq0.le hn)
    clear hfr hq0
    go_enter Tryd.func80, Tryd.ntmps80
    go_wp2_with fail
    refine (HC.out _).mono ?_
    rintro e w1 ⟨rfl, rfl⟩
    go_wp2_with fail
    refine (HRM.out _ (s.size + m) (by omega) (by omega)).mono ?_
    rintro e w2 ⟨rfl, hI2, hb2⟩
    have HI2 := Lib.hid hI2
    have HQ2 := Lib.hid (show Q w w2 from Below.trans HQ0.out hb2)
    clear hI2 hb2
    go_wp2_with fail
    go_loopw [11, 53] (fun st i wr => ∃ (k S : Nat) (bs : List UInt8), i = .int .i64 k ∧ st = .int .i64 S ∧ k ≤ m ∧ S ≤ s.size ∧ Hid ((s.data.toList.drop S).count 39 + k = m) ∧ Bl.Is w.heap.size w.heap.size (Lib.byteCells bs) wr ∧ Hid (bs ++ dblB (s.data.toList.drop S) = dblB s.data.toList) ∧ Q w wr) (fun _ i _ => m - (intOf i).toNat)
    case atStart => exact ⟨0, 0, [], rfl, rfl, by omega, by omega, Lib.hid (by rw [List.drop_zero]; exact HM.out.symm), HI2.out, Lib.hid (by rw [List.drop_zero]; rfl), HQ2.out⟩
    case round =>
      obtain ⟨k, S, bs, rfl, rfl, hk, hS, HCN, hI, HBS, hq⟩ := hrel
      have hqs := hq.le
      by_cases hlt : k < m
      · have hlti : (k : Int) < (m : Int) := by omega
        obtain ⟨i, h1, h2, h3, h4⟩ := first_at (s.data.toList.drop S) (by have := HCN.out; omega)
        rw [List.length_drop, size_list] at h2
        have hx := fun w => hIX.out w S hS
        rw [h1] at hx
        have hbl : bs.length + i + 2 ≤ 4000000 := by
          have h5 := congrArg List.length HBS.out
          have h6 := HDL.out
          rw [h3] at h5
          simp only [List.length_append, List.length_take, List.length_drop, List.length_cons, List.length_nil, size_list] at h5 h6
          omega
        have HB2 := Lib.hid (show bs ++ (s.data.toList.drop S).take i ++ [39, 39] ++ dblB (s.data.toList.drop (S + i + 1)) = dblB s.data.toList by
          have h5 := HBS.out
          rw [h3, List.drop_drop] at h5
          rw [← h5, show S + i + 1 = S + (i + 1) by omega]; simp)
        have HC2 := Lib.hid (show (s.data.toList.drop (S + i + 1)).count 39 + (k + 1) = m by
          have h5 := HCN.out
          rw [List.drop_drop] at h4
          rw [show S + i + 1 = S + (i + 1) by omega]; omega)
        have HX := Lib.hid hx
        have HED := Lib.hid (show (s.extract S (S + i)).data.toList = (s.data.toList.drop S).take i by rw [extract_data, show S + i - S = i by omega])
        have hez : (s.extract S (S + i)).size = i := by rw [ByteArray.size_extract]; omega
        have hsi : (S : Int) + (i : Int) ≤ (s.size : Int) := by omega
        have hSi : S + i ≤ s.size := by omega
        clear hx h1 h3 h4
        go_wp2_with fail
        refine (HX.out _).mono ?_
        rintro e w3 ⟨rfl, rfl⟩
        have hsi2 : (0 : Int) ≤ (S : Int) + (i : Int) := by omega
        have hsi3 : (S : Int) ≤ (S : Int) + (i : Int) := by omega
        go_wp2_with fail
        refine (Bl.write_any _ _ _ (s.extract S (S + i)) _ hI (by rw [Bl.cells_length]; omega) hqs).mono ?_
        rintro e w4 ⟨rfl, hI4, hb4, _⟩
        have hI4 := hI4.write
        rw [HED.out] at hI4
        have hq4 := Below.trans hq hb4
        have hqs4 := Q.le hq4
        have hl4 : (bs ++ (s.data.toList.drop S).take i).length + 2 ≤ 4000000 := by rw [List.length_append, List.length_take]; omega
        go_wp2_with fail
        refine (Bl.write_any _ _ _ ⟨#[39, 39]⟩ _ hI4 (by rw [Bl.cells_length]; show _ + 2 ≤ _; omega) hqs4).mono ?_
        rintro e w5 ⟨rfl, hI5, hb5, _⟩
        have hI5 := hI5.write
        go_wp2_with fail
        exact ⟨⟨k + 1, S + i + 1, bs ++ (s.data.toList.drop S).take i ++ [39, 39], by go_num, by go_num, by omega, by omega, HC2, hI5, HB2, Below.trans hq4 hb5⟩, by simp [intOf]; omega⟩
      · have hnlt : ¬ (k : Int) < (m : Int) := by omega
        have hkm : m = k := by omega
        subst hkm
        have HT := Lib.hid (show bs ++ s.data.toList.drop S = dblB s.data.toList by
          rw [← HBS.out, count_none _ (by have := HCN.out; omega)])
        have hbl : bs.length + s.size ≤ 4000000 := by
          have h5 := congrArg List.length HT.out
          have h6 := HDL.out
          simp only [List.length_append, List.length_drop, size_list] at h5 h6
          omega
        have HED := Lib.hid (extract_list s S)
        have hez : (s.extract S s.size).size ≤ s.size := by rw [ByteArray.size_extract]; omega
        go_wp2_with fail
        refine (Bl.write_any _ _ _ (s.extract S s.size) _ hI (by rw [Bl.cells_length]; omega) hqs).mono ?_
        rintro e w4 ⟨rfl, hI4, hb4, _⟩
        have hI4 := hI4.write
        rw [HED.out, HT.out] at hI4
        have hq4 := Below.trans hq hb4
        have hqs4 := Q.le hq4
        go_wp2_with fail
        refine (Bl.done_any _ _ _ _ hI4 hqs4).mono ?_
        rintro e w5 ⟨rfl, hb5⟩
        go_wp2_with fail
        go_ret
        exact ⟨rfl, Below.trans hq4 hb5⟩
theorem replaceAll_any (s : ByteArray) (w : World) (hs : s.size ≤ 1000000) :
    Calls Tryd.prog 69 #[.string s, .string ⟨#[39]⟩, .string ⟨#[39, 39]⟩] w fun e w' => e = .returned (.string ⟨(dblB s.data.toList).toArray⟩) ∧ Q w w' := by
  have hR := fun w => replace_any s w hs
  generalize (⟨(dblB s.data.toList).toArray⟩ : ByteArray) = D at *
  go_enter Tryd.func69, Tryd.ntmps69
  go_wp2_with fail
  refine (hR _).mono ?_
  rintro e w1 ⟨rfl, hq⟩
  go_wp2_with fail
  go_ret
  exact ⟨rfl, hq⟩
/-- A run as literals, in bytes. -/
def qtB (l : List UInt8) : List UInt8 := if Lib.trimB l 39 = [] then dblB l else 39 :: dblB l ++ [39]
set_option maxHeartbeats 1000000 in
theorem quotation_any (s : ByteArray) (w : World) (hs : s.size ≤ 1000000) :
    Calls Tryd.prog 56 #[.string s] w fun e w' => e = .returned (.string ⟨(qtB s.data.toList).toArray⟩) ∧ Q w w' := by
  have hR := fun w => replaceAll_any s w hs
  have hT := fun w => Sp.trim_any s 39 (by decide) w (by omega)
  have he : (⟨(Lib.trimB s.data.toList 39).toArray⟩ : ByteArray).toList.isEmpty = decide (Lib.trimB s.data.toList 39 = []) := by
    rw [ByteArray.toList_eq]
    cases Lib.trimB s.data.toList 39 <;> simp
  have hdl := dblB_len s.data.toList
  rw [size_list] at hdl
  unfold qtB
  generalize Lib.trimB s.data.toList 39 = M at *
  generalize dblB s.data.toList = D at *
  have HD := Lib.hid (show ∀ X : ByteArray, X = ⟨D.toArray⟩ → (⟨(39 :: D ++ [39]).toArray⟩ : ByteArray) = (⟨#[39]⟩ ++ X) ++ ⟨#[39]⟩ from fun X hX => by
    subst hX
    apply ba_ext
    simp [ByteArray.toList_data_append])
  have hz : (⟨D.toArray⟩ : ByteArray).size ≤ 2000000 := by simp only [ByteArray.size, List.size_toArray]; omega
  obtain ⟨X, hX⟩ : ∃ X : ByteArray, X = ⟨D.toArray⟩ := ⟨_, rfl⟩
  rw [← hX] at hR hz
  generalize (⟨M.toArray⟩ : ByteArray) = MM at *
  have HX := Lib.hid hX
  have HR := Lib.hid hR
  have HT := Lib.hid hT
  clear hR hT hX
  by_cases hM : M = []
  · have he2 : MM.toList.isEmpty = true := by rw [he]; exact decide_eq_true hM
    rw [if_pos hM, ← HX.out]
    clear he hM
    go_enter Tryd.func56, Tryd.ntmps56
    go_wp2_with fail
    refine (HR.out _).mono ?_
    rintro e w1 ⟨rfl, hq1⟩
    go_wp2_with fail
    refine (HT.out _).mono ?_
    rintro e w2 ⟨rfl, hq2⟩
    go_wp2_with fail
    go_ret
    exact ⟨rfl, hq1.trans hq2⟩
  · have he2 : MM.toList.isEmpty = false := by rw [he]; exact decide_eq_false hM
    rw [if_neg hM, HD.out X HX.out]
    clear he hM
    go_enter Tryd.func56, Tryd.ntmps56
    go_wp2_with fail
    refine (HR.out _).mono ?_
    rintro e w1 ⟨rfl, hq1⟩
    go_wp2_with fail
    refine (HT.out _).mono ?_
    rintro e w2 ⟨rfl, hq2⟩
    go_wp2_with fail
    go_ret
    exact ⟨rfl, hq1.trans hq2⟩
end Pg
end Go.Proofs.YtjloibgjnnknnaaDoor
