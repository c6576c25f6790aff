/- What the library's HasPrefix answers here, laid out of its contract. What each function on characters and their bytes answers, by a walk through its text. What the document's own answers on single numbers (may it be a character, a number made small, a number made a character) come to. What the document's own answers on characters and their bytes come to, by a walk through each. -/
import Derived.Shelf.Strings.Prefix
import Derived.Test.YtglljkbpdbnhaaaGreatDoorProg
import Derived.Test.YtglljkbpdbnhaaaGreatDoorRows
import Derived.Test.YtglljkbpdbnhaaaGreatDoorMB
import Derived.Test.YtglljkbpdbnhaaaGreatDoorMA
import Derived.WalkKit
import Derived.WalkSpells
import Derived.WalkLawsBesides
import Derived.Deep.QuietTactic
import Derived.BigQuiet
import Derived.ShutString
import Derived.Lib.Hide
import Derived.Lib.OthersKept
import Derived.Deep.RegionWith
import Derived.Laws.BytesArg
namespace Go.Proofs.YtglljkbpdbnhaaaGreatDoor
open Go.Shelf
def shelfPrefixRen : Go.Shelf.Ren := ⟨fun | 99 => 169 | 206 => 184 | n => n, fun | 9 => 9 | 4 => 4 | 3 => 3 | n => n, fun | n => n⟩
theorem shelfPrefix : Go.Proofs.Lays.n99 Tryz.prog shelfPrefixRen := {
  mixed := by kernel_rfl
  f99 := Tryz.func169.trans (congrArg some (by kernel_rfl))
  f206 := Tryz.func184.trans (congrArg some (by kernel_rfl))
  t3 := Tryz.underlying3
  a3 := Tryz.isAgg3
  z3 := Tryz.sizeOf3
  v3 := Tryz.zeroValue3
  t4 := Tryz.underlying4
  a4 := Tryz.isAgg4
  z4 := Tryz.sizeOf4
  v4 := Tryz.zeroValue4
  t9 := Tryz.underlying9
  a9 := Tryz.isAgg9
  z9 := Tryz.sizeOf9
  v9 := Tryz.zeroValue9 }
theorem hasPrefix_any (s p : ByteArray) (w : World) :
    Calls Tryz.prog 169 #[.string s, .string p] w fun e w' => e = .returned (.bool (Lib.hasPrefix s.data.toList p.data.toList)) ∧ w' = w := Any.strings_HasPrefix shelfPrefix s p w
end Go.Proofs.YtglljkbpdbnhaaaGreatDoor

set_option linter.unusedVariables false
set_option linter.unusedSimpArgs false
namespace Go.Proofs.YtglljkbpdbnhaaaGreatDoor
open Go.RowKit Um

theorem vt {c : Int} (h : 0 ≤ c ∧ c ≤ 1114111 ∧ (c < 55296 ∨ 57343 < c)) : vld c = true := (vld_iff c).2 h
theorem vf {c : Int} (h : ¬ (0 ≤ c ∧ c ≤ 1114111 ∧ (c < 55296 ∨ 57343 < c))) : vld c = false := (vld_false c).2 h

set_option maxHeartbeats 400000 in
theorem may_any (c : Int) (w : World) :
    Calls Tryz.prog 141 #[.int .i64 c] w fun e w' => e = .returned (.bool (vld c)) ∧ w = w' := by
  by_cases h1 : 0 ≤ c
  · by_cases h2 : c ≤ 1114111
    · by_cases h3 : c < 55296
      · rw [vt ⟨h1, h2, .inl h3⟩]
        go_enter Tryz.func141, Tryz.ntmps141
        go_wp2
        go_ret
        exact ⟨rfl, rfl⟩
      · by_cases h4 : 57343 < c
        · rw [vt ⟨h1, h2, .inr h4⟩]
          go_enter Tryz.func141, Tryz.ntmps141
          go_wp2
          go_ret
          exact ⟨rfl, rfl⟩
        · rw [vf (by omega)]
          go_enter Tryz.func141, Tryz.ntmps141
          go_wp2
          go_ret
          exact ⟨rfl, rfl⟩
    · rw [vf (by omega)]
      go_enter Tryz.func141, Tryz.ntmps141
      go_wp2
      go_ret
      exact ⟨rfl, rfl⟩
  · rw [vf (by omega)]
    go_enter Tryz.func141, Tryz.ntmps141
    go_wp2
    go_ret
    exact ⟨rfl, rfl⟩


set_option maxHeartbeats 400000 in
theorem encode_any (c : Int) (w : World) :
    Calls Tryz.prog 111 #[.int .i64 c] w fun e w' => e = .returned (.string (encB c)) ∧ w = w' := by
  by_cases hv : vld c = true
  · have hb := (vld_iff c).1 hv
    have HE : Hid (encB c = Utf8.encode c) := by unfold encB; exact if_pos hv
    go_enter Tryz.func111, Tryz.ntmps111
    go_wp2_with (go_at_call 141; refine (may_any _ _).mono ?_; rintro e w' ⟨rfl, rfl⟩)
    go_ret
    rw [HE.out]
    exact ⟨rfl, rfl⟩
  · have hv : vld c = false := by simpa using hv
    have HE : Hid (encB c = ⟨#[]⟩) := by unfold encB; exact if_neg (by simp [hv])
    go_enter Tryz.func111, Tryz.ntmps111
    go_wp2_with (go_at_call 141; refine (may_any _ _).mono ?_; rintro e w' ⟨rfl, rfl⟩)
    go_ret
    rw [HE.out]
    exact ⟨rfl, rfl⟩

theorem ret_bool {a b : Bool} (h : a = b) : Ending.returned (.bool a) = .returned (.bool b) := by rw [h]
theorem ret_int {k : IntKind} {a b : Int} (h : a = b) : Ending.returned (.int k a) = .returned (.int k b) := by rw [h]
theorem ret_str {a b : ByteArray} (h : a = b) : Ending.returned (.string a) = .returned (.string b) := by rw [h]

set_option maxHeartbeats 400000 in
theorem spoilt_any (s : ByteArray) (r : Int) (w : World) :
    Calls Tryz.prog 154 #[.string s, .int .i32 r] w fun e w' => e = .returned (.bool (r == 65533 && !Lib.hasPrefix s.data.toList (enc 65533))) ∧ w = w' := by
  by_cases hr : r = 65533
  · subst hr
    go_enter Tryz.func154, Tryz.ntmps154
    go_wp2_with (go_at_call 169; refine (hasPrefix_any _ _ _).mono ?_; rintro e w' ⟨rfl, rfl⟩)
    go_ret
    exact ⟨ret_bool (by simp [enc]), rfl⟩
  · go_enter Tryz.func154, Tryz.ntmps154
    go_wp2_with fail
    go_ret
    exact ⟨ret_bool (by rw [beq_eq_false_iff_ne.2 hr]; rfl), rfl⟩
/-- As the callers have it: the character is the one that the language tells. -/
theorem spoilt_dec (s : ByteArray) (hs : s.data.toList ≠ []) (r : Int) (hr : r = ((dec s.data.toList).1 : Nat)) (w : World) :
    Calls Tryz.prog 154 #[.string s, .int .i32 r] w fun e w' => e = .returned (.bool (spo s.data.toList)) ∧ w = w' := by
  refine (spoilt_any s r w).mono ?_
  rintro e w' ⟨rfl, rfl⟩
  exact ⟨ret_bool (by rw [hr]; exact spo_code _ hs), rfl⟩

set_option maxHeartbeats 400000 in
theorem first_any (s : ByteArray) (w : World) (hm : s.size ≤ maxLen) :
    Calls Tryz.prog 165 #[.string s] w fun e w' => e = .returned (.tuple #[.int .i64 (fst3 s.data.toList).1, .int .i64 (fst3 s.data.toList).2.1, .bool (fst3 s.data.toList).2.2]) ∧ Q w w' := by
  unfold maxLen at hm
  by_cases hs : s.size = 0
  · have hl : s.data.toList = [] := by apply List.eq_nil_of_length_eq_zero; simpa using hs
    have HF : Hid (fst3 s.data.toList = (0, 0, false)) := by rw [hl]; rfl
    have hnx : ∀ ty, (Instr.next (.pointer (some ⟨w.heap.size, 0, none⟩)) true ty).run Tryz.prog (w.iter s 0) = _ := fun ty => run_next_end w s 0 ty (by omega)
    clear hl hs
    go_enter Tryz.func165, Tryz.ntmps165
    go_wp2
    refine wp_loop_rounds 1 ?_
    rw [rounds_succ]
    go_wp2
    go_ret3
    rw [HF.out]
    exact ⟨rfl, (Q.refl _).alloc _⟩
  · have hl : s.data.toList ≠ [] := by intro h; apply hs; have := congrArg List.length h; simpa using this
    have hp : 0 < s.size := by omega
    have hnx : ∀ ty, (Instr.next (.pointer (some ⟨w.heap.size, 0, none⟩)) true ty).run Tryz.prog (w.iter s 0) = _ := fun ty => run_next_any w s 0 ty hp
    go_enter Tryz.func165, Tryz.ntmps165
    go_wp2
    refine wp_loop_rounds 1 ?_
    rw [rounds_succ]
    have hd : Utf8.decode s 0 = dec s.data.toList := by rw [decode_dec]; rfl
    have hb := dec_c _ hl
    have hb := (vld_iff _).1 hb
    rw [hd] at hnx
    have HD := Lib.hid hd
    clear hd
    have hsp := fun w => spoilt_dec s hl ((dec s.data.toList).1 : Nat) rfl w
    cases hc : spo s.data.toList
    · have HF : Hid (fst3 s.data.toList = (((dec s.data.toList).1 : Int), ((Utf8.encode ((dec s.data.toList).1 : Nat)).size : Int), true)) := Lib.hid (by
        unfold fst3 mrk
        rw [if_neg hl, hc]
        have : (dec s.data.toList).2 = (Utf8.encode ((dec s.data.toList).1 : Nat)).size := by
          obtain ⟨c, r, hv, hr⟩ := (spo_false_iff _ hl).1 hc
          rw [hr, dec_enc c r hv]
          have := (vld_iff c).1 hv
          simp only
          rw [show ((c.toNat : Nat) : Int) = c from by omega]
          rfl
        rw [this]; simp)
      rw [hc] at hsp
      have HS := Lib.hid hsp
      clear hsp hc
      go_wp2_with (go_at_call 154; refine (HS.out _).mono ?_; rintro e w' ⟨rfl, rfl⟩)
      go_ret3
      rw [HF.out]
      exact ⟨rfl, (Q.refl _).alloc _⟩
    · have HF : Hid (fst3 s.data.toList = (65533, 1, false)) := Lib.hid (by
        unfold fst3
        rw [if_neg hl, mark_spo _ hc]; simp)
      rw [hc] at hsp
      have HS := Lib.hid hsp
      clear hsp hc
      go_wp2_with (go_at_call 154; refine (HS.out _).mono ?_; rintro e w' ⟨rfl, rfl⟩)
      go_ret3
      rw [HF.out]
      exact ⟨rfl, (Q.refl _).alloc _⟩


set_option maxHeartbeats 400000 in
theorem len_any (s : ByteArray) (w : World) (hm : s.size ≤ maxLen) :
    Calls Tryz.prog 145 #[.string s] w fun e w' => e = .returned (.int .i64 ((marks s.data.toList).length : Nat)) ∧ Q w w' := by
  unfold maxLen at hm
  have hml := marks_length s.data.toList
  rw [size_list] at hml
  go_enter Tryz.func145, Tryz.ntmps145
  go_wp2
  go_loopw [3] (fun n wr => ∃ pos k : Nat, wr = w.iter s pos ∧ n = .int .i64 k ∧ k + (marks (s.data.toList.drop pos)).length = (marks s.data.toList).length) (fun _ wr => s.size - wr.iterPos w.heap.size)
  case atStart => exact ⟨0, 0, rfl, rfl, by simp⟩
  case round =>
    obtain ⟨pos, k, rfl, rfl, hk⟩ := hrel
    by_cases hp : pos < s.size
    · have hkb : k < s.size := by rw [marks_at s pos hp] at hk; simp only [List.length_cons] at hk; omega
      have HK := Lib.hid hk
      clear hk hml
      have hnx : ∀ ty, (Instr.next (.pointer (some ⟨w.heap.size, 0, none⟩)) true ty).run Tryz.prog (w.iter s pos) = _ := fun ty => run_next_any w s pos ty hp
      rw [decode_at] at hnx
      have hwd := mark_at_n s pos hp
      go_wp2
      go_roundw
      case rel => exact ⟨_, k + 1, rfl, by go_num, by have := HK.out; rw [marks_at s pos hp] at this; simp only [List.length_cons] at this; omega⟩
      case measure => simp; omega
    · have hnx : ∀ ty, (Instr.next (.pointer (some ⟨w.heap.size, 0, none⟩)) true ty).run Tryz.prog (w.iter s pos) = _ := fun ty => run_next_end w s pos ty hp
      have HK := Lib.hid hk
      clear hk hml
      go_wp2
      go_ret
      have hk := HK.out
      rw [marks_end s pos hp] at hk
      exact ⟨ret_int (by simp at hk; omega), (Q.refl _).alloc _⟩

theorem extract_list (s : ByteArray) (pos : Nat) : (s.extract pos s.size).data.toList = s.data.toList.drop pos := by
  rw [ByteArray.data_extract, Array.toList_extract]
  have : s.size = s.data.toList.length := (size_list s).symm
  rw [List.extract_eq_take_drop, this, List.take_of_length_le (by simp)]

set_option maxHeartbeats 400000 in
theorem valid_any (s : ByteArray) (w : World) (hm : s.size ≤ maxLen) :
    Calls Tryz.prog 132 #[.string s] w fun e w' => e = .returned (.bool (okL s.data.toList)) ∧ Q w w' := by
  unfold maxLen at hm
  go_enter Tryz.func132, Tryz.ntmps132
  go_wp2
  go_loopw [] (fun wr => ∃ pos : Nat, wr = w.iter s pos ∧ (marks (s.data.toList.drop pos)).all (·.2.2) = okL s.data.toList) (fun wr => s.size - wr.iterPos w.heap.size)
  case atStart => exact ⟨0, rfl, rfl⟩
  case round =>
    obtain ⟨pos, rfl, hk⟩ := hrel
    have HK := Lib.hid hk
    clear hk
    by_cases hp : pos < s.size
    · have hnx : ∀ ty, (Instr.next (.pointer (some ⟨w.heap.size, 0, none⟩)) true ty).run Tryz.prog (w.iter s pos) = _ := fun ty => run_next_any w s pos ty hp
      rw [decode_at] at hnx
      have hwd := mark_at_n s pos hp
      have hx := extract_list s pos
      have hne := drop_ne hp
      rw [← hx] at hne
      have hsp := fun w => spoilt_dec (s.extract pos s.size) hne ((dec (s.data.toList.drop pos)).1 : Nat) (by rw [hx]) w
      rw [hx] at hsp
      clear hx hne
      cases hc : spo (s.data.toList.drop pos)
      all_goals
        rw [hc] at hsp
        have HS := Lib.hid hsp
        have HC := Lib.hid hc
        clear hsp hc
        go_wp2_with (go_at_call 154; refine (HS.out _).mono ?_; rintro e w' ⟨rfl, rfl⟩)
      · go_roundw
        case rel =>
          refine ⟨_, rfl, ?_⟩
          have := HK.out
          rw [marks_at s pos hp, List.all_cons] at this
          have h2 : (mrk (s.data.toList.drop pos)).2.2 = true := by unfold mrk; rw [HC.out]; rfl
          rw [h2] at this
          simpa using this
        case measure => simp; omega
      · go_ret
        have := HK.out
        rw [marks_at s pos hp, List.all_cons] at this
        have h2 : (mrk (s.data.toList.drop pos)).2.2 = false := by unfold mrk; rw [HC.out]; rfl
        rw [h2] at this
        exact ⟨ret_bool (by simpa using this), (Q.refl _).alloc _⟩
    · have hnx : ∀ ty, (Instr.next (.pointer (some ⟨w.heap.size, 0, none⟩)) true ty).run Tryz.prog (w.iter s pos) = _ := fun ty => run_next_end w s pos ty hp
      go_wp2
      go_ret
      have hk := HK.out
      rw [marks_end s pos hp] at hk
      exact ⟨ret_bool (by simpa using hk), (Q.refl _).alloc _⟩


theorem toList_eq (s : ByteArray) : s.toList = s.data.toList := ByteArray.toList_eq s
theorem fst3_bd (l : List UInt8) : 0 ≤ (fst3 l).2.1 ∧ (fst3 l).2.1 ≤ 4 := by
  unfold fst3
  split
  · simp
  · rename_i h; have := mark_n l h; simp; omega
set_option maxHeartbeats 400000 in
theorem all_any (s : ByteArray) (w : World) (hm : s.size ≤ 1073741824) :
    Calls Tryz.prog 121 #[.string s] w fun e w' => ∃ v, e = .returned v ∧ Own w' w.heap.size v (allL s.data.toList) ∧ Q w w' := by
  obtain ⟨i0, hi, hz0, hz1, hz2⟩ := info_parts infoInt
  have hml := marks_length s.data.toList
  rw [size_list] at hml
  go_enter Tryz.func121, Tryz.ntmps121
  go_wp2_with fail
  refine (len_any _ _ (by unfold maxLen; omega)).mono ?_
  rintro e w1 ⟨rfl, hq1⟩
  have hs1 := hq1.le
  go_wp2_with (at_make; refine wpList_make_own _ rfl _ _ 127 rfl w.heap.size 3 i0 (.int .i64 0) 1 Tryz.underlying127 hi hz0 hz1 .i64 .i64 _ (marks s.data.toList).length rfl rfl rfl (by rw [hz2]; omega) (by unfold maxLen; omega) hs1 ?_; intro w2 hown2 hg2)
  have hq2 : Q w w2 := hq1.grown hg2 (fun k h => by cases h)
  have hown2 : Own w2 w.heap.size (.slice (some ⟨w1.heap.size, 0, none⟩) 0 (marks s.data.toList).length) [] := hown2
  have hs2 := hq2.le
  go_wp2
  go_loopw [3] (fun v wr => ∃ (pos : Nat) (acc : List Int), Own wr w.heap.size v acc ∧ wr.heap[w2.heap.size]? = some (.stringIter s pos) ∧ Q w wr ∧ acc ++ allL (s.data.toList.drop pos) = allL s.data.toList)
    (fun _ wr => s.size - wr.iterPos w2.heap.size)
  case atStart => exact ⟨0, [], hown2.q ((Q.refl _).alloc _), World.iter_heap w2 s 0, hq2.alloc _, by simp⟩
  case round =>
    obtain ⟨pos, acc, hown, hit, hq, hacc⟩ := hrel
    have hk0 : w2.heap.size < wr.heap.size := (Array.getElem?_eq_some_iff.1 hit).1
    have hsq := hq.le
    by_cases hp : pos < s.size
    · have hnx : ∀ ty, (Instr.next (.pointer (some ⟨w2.heap.size, 0, none⟩)) true ty).run Tryz.prog wr = _ := fun ty => Lib.run_next_any_at wr w2.heap.size s pos ty hit hp
      rw [decode_at] at hnx
      have hwd := mark_at_n s pos hp
      have hcb := (vld_iff _).1 (dec_c _ (drop_ne hp))
      have hal : acc.length < 1073741824 := by
        have h1 := congrArg List.length hacc
        simp only [allL, List.length_append, List.length_map] at h1
        rw [marks_at s pos hp] at h1
        simp only [List.length_cons] at h1; omega
      have hown3 := hown.iterAt hit (pos + (mrk (s.data.toList.drop pos)).2.1)
      have hit3 := Lib.iterAt_heap wr w2.heap.size s pos (pos + (mrk (s.data.toList.drop pos)).2.1) hit
      have hq3 := hq.iterAt (k := w2.heap.size) hs2 s (pos + (mrk (s.data.toList.drop pos)).2.1)
      have hs3 := hq3.le
      have HA := Lib.hid hacc
      clear hacc hml
      go_wp2_with (at_builtin; refine push_int hown3 rfl _ _ rfl _ (by rfl) (by rfl) (by omega) hs3 ?_; intro v' w4 hown4 hg4 hat4)
      have hit4 := iter_grown hown3 hg4 hit3
      go_roundw
      case rel =>
        refine ⟨_, _, hown4, hit4, hq3.grown hg4 (fun g h => (hown3.lt g h).1), ?_⟩
        have := HA.out
        unfold allL at this ⊢
        rw [marks_at s pos hp] at this
        rw [← this]; simp [mrk]
      case measure =>
        rw [iterPos_of hit4, iterPos_of hit]; omega
    · have hnx : ∀ ty, (Instr.next (.pointer (some ⟨w2.heap.size, 0, none⟩)) true ty).run Tryz.prog wr = _ := fun ty => Lib.run_next_end_at wr w2.heap.size s pos ty hit hp
      have HA := Lib.hid hacc
      clear hacc hml
      go_wp2
      go_ret
      refine ⟨_, rfl, ?_, hq⟩
      have := HA.out
      unfold allL at this
      rw [marks_end s pos hp, List.map_nil, List.append_nil] at this
      unfold allL
      rw [← this]; exact hown

end Go.Proofs.YtglljkbpdbnhaaaGreatDoor

set_option linter.unusedVariables false
set_option linter.unusedSimpArgs false
namespace Go.Proofs.YtglljkbpdbnhaaaGreatDoor
open Go.RowKit Um
namespace Ur
theorem ret_int {k : IntKind} {a b : Int} (h : a = b) : Ending.returned (.int k a) = .returned (.int k b) := by rw [h]
theorem ret_str {a b : ByteArray} (h : a = b) : Ending.returned (.string a) = .returned (.string b) := by rw [h]
theorem vt {c : Int} (h : 0 ≤ c ∧ c ≤ 1114111 ∧ (c < 55296 ∨ 57343 < c)) : vld c = true := (vld_iff c).2 h
theorem vf {c : Int} (h : ¬ (0 ≤ c ∧ c ≤ 1114111 ∧ (c < 55296 ∨ 57343 < c))) : vld c = false := (vld_false c).2 h

set_option maxHeartbeats 400000 in
theorem may_any (c : Int) (w : World) :
    Calls Tryz.prog 89 #[.int .i64 c] w fun e w' => e = .returned (.bool (vld c)) ∧ w = w' := by
  by_cases h1 : 0 ≤ c
  · by_cases h2 : c ≤ 1114111
    · by_cases h3 : c < 55296
      · rw [vt ⟨h1, h2, .inl h3⟩]
        go_enter Tryz.func89, Tryz.ntmps89
        go_wp2
        go_ret
        exact ⟨rfl, rfl⟩
      · by_cases h4 : 57343 < c
        · rw [vt ⟨h1, h2, .inr h4⟩]
          go_enter Tryz.func89, Tryz.ntmps89
          go_wp2
          go_ret
          exact ⟨rfl, rfl⟩
        · rw [vf (by omega)]
          go_enter Tryz.func89, Tryz.ntmps89
          go_wp2
          go_ret
          exact ⟨rfl, rfl⟩
    · rw [vf (by omega)]
      go_enter Tryz.func89, Tryz.ntmps89
      go_wp2
      go_ret
      exact ⟨rfl, rfl⟩
  · rw [vf (by omega)]
    go_enter Tryz.func89, Tryz.ntmps89
    go_wp2
    go_ret
    exact ⟨rfl, rfl⟩

set_option maxHeartbeats 400000 in
theorem around_any (n m : Int) (w : World) (h0 : -9223372036854775808 ≤ n) (h1 : n ≤ 9223372036854775807) (hm : 1 ≤ m) (hm2 : m ≤ 9223372036854775807) :
    Calls Tryz.prog 12 #[.int .i64 n, .int .i64 m] w fun e w' => e = .returned (.int .i64 (around n m)) ∧ w = w' := by
  by_cases hn : n < 0
  · have HA : Hid (around n m = (-(n + 1)) % m) := Lib.hid (by unfold around; rw [if_pos hn])
    go_enter Tryz.func12, Tryz.ntmps12
    go_wp2
    go_ret
    rw [HA.out]
    exact ⟨ret_int (by rw [← Int.tmod_eq_emod_of_nonneg (by omega), Int.neg_tmod]), rfl⟩
  · have HA : Hid (around n m = n % m) := Lib.hid (by unfold around; rw [if_neg hn])
    go_enter Tryz.func12, Tryz.ntmps12
    go_wp2
    go_ret
    rw [HA.out]
    exact ⟨rfl, rfl⟩

end Ur
end Go.Proofs.YtglljkbpdbnhaaaGreatDoor

set_option linter.unusedVariables false
set_option linter.unusedSimpArgs false
namespace Go.Proofs.YtglljkbpdbnhaaaGreatDoor
open Go.RowKit Um
namespace Ur
/-- A text's beginning. -/
def few (s : ByteArray) (n : Nat) : ByteArray := if n < s.size then s.extract 0 n else s
theorem few_size (s : ByteArray) (n : Nat) : (few s n).size ≤ n := by
  unfold few; split
  · simp; omega
  · omega
set_option maxHeartbeats 400000 in
theorem few_any (s : ByteArray) (n : Nat) (w : World) (hs : s.size ≤ maxLen) (hn : n ≤ 1000000) :
    Calls Tryz.prog 21 #[.string s, .int .i64 n] w fun e w' => e = .returned (.string (few s n)) ∧ w = w' := by
  unfold maxLen at hs
  by_cases h : n < s.size
  · have HA : Hid (few s n = s.extract 0 n) := Lib.hid (by unfold few; rw [if_pos h])
    go_enter Tryz.func21, Tryz.ntmps21
    go_wp2
    go_ret
    rw [HA.out]
    exact ⟨rfl, rfl⟩
  · have HA : Hid (few s n = s) := Lib.hid (by unfold few; rw [if_neg h])
    go_enter Tryz.func21, Tryz.ntmps21
    go_wp2
    go_ret
    rw [HA.out]
    exact ⟨rfl, rfl⟩

/-- A text of a new row of bytes. -/
theorem convN (w : World) (xs : List Int) (n : Nat) (hn : xs.length = n) :
    (convert 126 9 (.slice (some ⟨w.heap.size, 0, none⟩) n n)).run Tryz.prog (w.alloc (.cells (xs.map (Value.int .u8)).toArray 5)) = .ok (.string (strOfNums xs)) (w.alloc (.cells (xs.map (Value.int .u8)).toArray 5)) := by
  refine run_convert_bytes_arg _ 126 5 Tryz.underlying126 Tryz.underlying5 w.heap.size 0 n n xs hn ?_ 9 Tryz.underlying9
  intro i hi
  rw [World.cell?_alloc_at _ _ _ _ rfl, Nat.zero_add]
  simp only [List.getElem?_toArray, List.getElem?_map, List.getD_eq_getElem?_getD]
  rw [List.getElem?_eq_getElem (by omega)]; rfl
theorem strOfNums_enc {xs : List Int} {c : Int} (hv : vld c = true) (h : xs.map (fun n => UInt8.ofNat n.toNat) = enc c) : strOfNums xs = encB c := by
  apply ba_ext
  rw [strOfNums_data, encB_list c hv, h]
theorem ofNat_congr {a b : Nat} (h : a = b) : UInt8.ofNat a = UInt8.ofNat b := by rw [h]

set_option maxHeartbeats 400000 in
theorem encode_any (c : Int) (w : World) :
    Calls Tryz.prog 40 #[.int .i64 c] w fun e w' => e = .returned (.string (encB c)) ∧ Q w w' := by
  by_cases hv : vld c = true
  · have hb := (vld_iff c).1 hv
    have hm := fun w => may_any c w
    rw [hv] at hm
    have HM := Lib.hid hm
    have HV := Lib.hid hv
    clear hm hv
    have hc1 := fun (x : Int) => convN w [x] 1 rfl
    have hc2 := fun (x y : Int) => convN w [x, y] 2 rfl
    have hc3 := fun (x y z : Int) => convN w [x, y, z] 3 rfl
    have hc4 := fun (x y z u : Int) => convN w [x, y, z, u] 4 rfl
    simp only [List.map_cons, List.map_nil] at hc1 hc2 hc3 hc4
    by_cases h1 : c < 128
    · have HE := Lib.hid (enc1 c hb.1 h1)
      go_enter Tryz.func40, Tryz.ntmps40
      go_wp2_with (go_at_call 89; refine (HM.out _).mono ?_; rintro e w' ⟨rfl, rfl⟩)
      go_ret
      refine ⟨ret_str (strOfNums_enc HV.out ?_), (Q.refl _).alloc _⟩
      rw [HE.out]; rfl
    · by_cases h2 : c < 2048
      · have HE := Lib.hid (enc2 c (by omega) h2)
        go_enter Tryz.func40, Tryz.ntmps40
        go_wp2_with (go_at_call 89; refine (HM.out _).mono ?_; rintro e w' ⟨rfl, rfl⟩)
        go_ret
        refine ⟨ret_str (strOfNums_enc HV.out ?_), (Q.refl _).alloc _⟩
        rw [HE.out]
        simp only [List.map_cons, List.map_nil, List.cons.injEq, and_true]
        exact ⟨ofNat_congr (by omega), ofNat_congr (by omega)⟩
      · by_cases h3 : c < 65536
        · have HE := Lib.hid (enc3 c (by omega) h3 HV.out)
          go_enter Tryz.func40, Tryz.ntmps40
          go_wp2_with (go_at_call 89; refine (HM.out _).mono ?_; rintro e w' ⟨rfl, rfl⟩)
          go_ret
          refine ⟨ret_str (strOfNums_enc HV.out ?_), (Q.refl _).alloc _⟩
          rw [HE.out]
          simp only [List.map_cons, List.map_nil, List.cons.injEq, and_true]
          exact ⟨ofNat_congr (by omega), ofNat_congr (by omega), ofNat_congr (by omega)⟩
        · have HE := Lib.hid (enc4 c (by omega) HV.out)
          go_enter Tryz.func40, Tryz.ntmps40
          go_wp2_with (go_at_call 89; refine (HM.out _).mono ?_; rintro e w' ⟨rfl, rfl⟩)
          go_ret
          refine ⟨ret_str (strOfNums_enc HV.out ?_), (Q.refl _).alloc _⟩
          rw [HE.out]
          simp only [List.map_cons, List.map_nil, List.cons.injEq, and_true]
          exact ⟨ofNat_congr (by omega), ofNat_congr (by omega), ofNat_congr (by omega), ofNat_congr (by omega)⟩
  · have hv : vld c = false := by simpa using hv
    have HE : Hid (encB c = ⟨#[]⟩) := by unfold encB; exact if_neg (by simp [hv])
    have hm := fun w => may_any c w
    rw [hv] at hm
    have HM := Lib.hid hm
    clear hm hv
    go_enter Tryz.func40, Tryz.ntmps40
    go_wp2_with (go_at_call 89; refine (HM.out _).mono ?_; rintro e w' ⟨rfl, rfl⟩)
    go_ret
    rw [HE.out]
    exact ⟨rfl, Q.refl _⟩

theorem u8b (a : UInt8) : 0 ≤ (a.toNat : Int) ∧ (a.toNat : Int) ≤ 255 := by have := a.toNat_lt; omega
set_option maxHeartbeats 400000 in
theorem value1 (a : UInt8) (w : World) :
    Calls Tryz.prog 153 #[.string ⟨#[a]⟩] w fun e w' => e = .returned (.int .i64 ((a.toNat : Int))) ∧ w = w' := by
  have h0 : 0 ≤ (((⟨#[a]⟩ : ByteArray)[0]'(by show 0 < 1; omega)).toNat : Int) ∧ (((⟨#[a]⟩ : ByteArray)[0]'(by show 0 < 1; omega)).toNat : Int) ≤ 255 := u8b a
  go_enter Tryz.func153, Tryz.ntmps153
  go_wp2
  refine wp_loop_rounds 1 ?_
  rw [rounds_succ]
  go_wp2
  go_ret
  exact ⟨rfl, rfl⟩
set_option maxHeartbeats 400000 in
theorem value2 (a b : UInt8) (w : World) :
    Calls Tryz.prog 153 #[.string ⟨#[a, b]⟩] w fun e w' => e = .returned (.int .i64 (((a.toNat : Int) - 192) * 64 + (b.toNat : Int) - 128)) ∧ w = w' := by
  have h0 : 0 ≤ (((⟨#[a, b]⟩ : ByteArray)[0]'(by show 0 < 2; omega)).toNat : Int) ∧ (((⟨#[a, b]⟩ : ByteArray)[0]'(by show 0 < 2; omega)).toNat : Int) ≤ 255 := u8b a
  have h1 : 0 ≤ (((⟨#[a, b]⟩ : ByteArray)[1]'(by show 1 < 2; omega)).toNat : Int) ∧ (((⟨#[a, b]⟩ : ByteArray)[1]'(by show 1 < 2; omega)).toNat : Int) ≤ 255 := u8b b
  go_enter Tryz.func153, Tryz.ntmps153
  go_wp2
  refine wp_loop_rounds 2 ?_
  rw [rounds_succ]
  go_wp2
  rw [rounds_succ]
  go_wp2
  go_ret
  exact ⟨rfl, rfl⟩
set_option maxHeartbeats 400000 in
theorem value3 (a b c : UInt8) (w : World) :
    Calls Tryz.prog 153 #[.string ⟨#[a, b, c]⟩] w fun e w' => e = .returned (.int .i64 ((((a.toNat : Int) - 224) * 64 + (b.toNat : Int) - 128) * 64 + (c.toNat : Int) - 128)) ∧ w = w' := by
  have h0 : 0 ≤ (((⟨#[a, b, c]⟩ : ByteArray)[0]'(by show 0 < 3; omega)).toNat : Int) ∧ (((⟨#[a, b, c]⟩ : ByteArray)[0]'(by show 0 < 3; omega)).toNat : Int) ≤ 255 := u8b a
  have h1 : 0 ≤ (((⟨#[a, b, c]⟩ : ByteArray)[1]'(by show 1 < 3; omega)).toNat : Int) ∧ (((⟨#[a, b, c]⟩ : ByteArray)[1]'(by show 1 < 3; omega)).toNat : Int) ≤ 255 := u8b b
  have h2 : 0 ≤ (((⟨#[a, b, c]⟩ : ByteArray)[2]'(by show 2 < 3; omega)).toNat : Int) ∧ (((⟨#[a, b, c]⟩ : ByteArray)[2]'(by show 2 < 3; omega)).toNat : Int) ≤ 255 := u8b c
  go_enter Tryz.func153, Tryz.ntmps153
  go_wp2
  refine wp_loop_rounds 3 ?_
  rw [rounds_succ]
  go_wp2
  rw [rounds_succ]
  go_wp2
  rw [rounds_succ]
  go_wp2
  go_ret
  exact ⟨rfl, rfl⟩
set_option maxHeartbeats 400000 in
theorem value4 (a b c d : UInt8) (w : World) :
    Calls Tryz.prog 153 #[.string ⟨#[a, b, c, d]⟩] w fun e w' => e = .returned (.int .i64 (((((a.toNat : Int) - 240) * 64 + (b.toNat : Int) - 128) * 64 + (c.toNat : Int) - 128) * 64 + (d.toNat : Int) - 128)) ∧ w = w' := by
  have h0 : 0 ≤ (((⟨#[a, b, c, d]⟩ : ByteArray)[0]'(by show 0 < 4; omega)).toNat : Int) ∧ (((⟨#[a, b, c, d]⟩ : ByteArray)[0]'(by show 0 < 4; omega)).toNat : Int) ≤ 255 := u8b a
  have h1 : 0 ≤ (((⟨#[a, b, c, d]⟩ : ByteArray)[1]'(by show 1 < 4; omega)).toNat : Int) ∧ (((⟨#[a, b, c, d]⟩ : ByteArray)[1]'(by show 1 < 4; omega)).toNat : Int) ≤ 255 := u8b b
  have h2 : 0 ≤ (((⟨#[a, b, c, d]⟩ : ByteArray)[2]'(by show 2 < 4; omega)).toNat : Int) ∧ (((⟨#[a, b, c, d]⟩ : ByteArray)[2]'(by show 2 < 4; omega)).toNat : Int) ≤ 255 := u8b c
  have h3 : 0 ≤ (((⟨#[a, b, c, d]⟩ : ByteArray)[3]'(by show 3 < 4; omega)).toNat : Int) ∧ (((⟨#[a, b, c, d]⟩ : ByteArray)[3]'(by show 3 < 4; omega)).toNat : Int) ≤ 255 := u8b d
  go_enter Tryz.func153, Tryz.ntmps153
  go_wp2
  refine wp_loop_rounds 4 ?_
  rw [rounds_succ]
  go_wp2
  rw [rounds_succ]
  go_wp2
  rw [rounds_succ]
  go_wp2
  rw [rounds_succ]
  go_wp2
  go_ret
  exact ⟨rfl, rfl⟩

theorem value_any (s : ByteArray) (w : World) (h1 : 1 ≤ s.size) (h4 : s.size ≤ 4) :
    Calls Tryz.prog 153 #[.string s] w fun e w' => e = .returned (.int .i64 (val s.data.toList)) ∧ w = w' := by
  obtain ⟨⟨l⟩⟩ := s
  match l, h1, h4 with
  | [a], _, _ => exact value1 a w
  | [a, b], _, _ => exact value2 a b w
  | [a, b, c], _, _ => exact value3 a b c w
  | [a, b, c, d], _, _ => exact value4 a b c d w
  | [], h1, _ => exact absurd h1 (by show ¬ 1 ≤ 0; omega)
  | a :: b :: c :: d :: e :: r, _, h4 => exact absurd h4 (by show ¬ r.length + 5 ≤ 4; omega)
theorem extract_take (s : ByteArray) (k : Nat) : (s.extract 0 k).data.toList = s.data.toList.take k := by
  rw [ByteArray.data_extract, Array.toList_extract, List.extract_eq_take_drop]
  simp
theorem toList_eq (s : ByteArray) : s.toList = s.data.toList := ByteArray.toList_eq s

set_option maxHeartbeats 800000 in
theorem first_any (s : ByteArray) (w : World) (hm : s.size ≤ maxLen) :
    Calls Tryz.prog 128 #[.string s] w fun e w' => e = .returned (.tuple #[.int .i64 (fst3 s.data.toList).1, .int .i64 (fst3 s.data.toList).2.1, .bool (fst3 s.data.toList).2.2]) ∧ Q w w' := by
  unfold maxLen at hm
  have hsl := size_list s
  by_cases hs : s.size = 0
  · have hl : s.data.toList = [] := by apply List.eq_nil_of_length_eq_zero; omega
    have HF : Hid (fst3 s.data.toList = (0, 0, false)) := by rw [hl]; rfl
    have h1 : s.toList.isEmpty = true := by rw [toList_eq, hl]; rfl
    clear hl hs hsl
    go_enter Tryz.func128, Tryz.ntmps128
    go_wp2_with fail
    go_ret3
    rw [HF.out]
    exact ⟨rfl, Q.refl _⟩
  · have hl : s.data.toList ≠ [] := by intro h; apply hs; have := congrArg List.length h; simpa using this
    have h1 : s.toList.isEmpty = false := by rw [toList_eq]; simpa using hl
    have HL := Lib.hid hsl
    clear hsl
    go_enter Tryz.func128, Tryz.ntmps128
    go_wp2_with fail
    go_loopw [5] (fun n wr => ∃ k : Nat, n = .int .i64 k ∧ 1 ≤ k ∧ k ≤ 5 ∧ k ≤ s.size + 1 ∧ Q w wr ∧ noFront s.data.toList k) (fun n _ => 5 - (intOf n).toNat)
    case atStart => exact ⟨1, rfl, by omega, by omega, by omega, Q.refl _, noFront_start _⟩
    case round =>
      obtain ⟨k, rfl, hk1, hk5, hks, hq, hno⟩ := hrel
      by_cases h4 : k ≤ 4
      · by_cases h5 : k ≤ s.size
        · have hV := Lib.hid (fun w => value_any (s.extract 0 k) w (by rw [ByteArray.size_extract]; omega) (by rw [ByteArray.size_extract]; omega))
          have hst := Lib.hid (noFront_step _ k hno)
          have hfo := Lib.hid (front_found s.data.toList k hk1 (by rw [HL.out]; exact h5))
          go_wp2_with fail
          refine (hV.out _).mono ?_
          rintro e w1 ⟨rfl, rfl⟩
          rw [extract_take]
          go_wp2_with fail
          go_region_with (go_at_call 40; refine (encode_any _ _).mono ?_; rintro e w1 ⟨rfl, hq1⟩)
          all_goals go_wp2_with fail
          · have hb : ((encB (val (List.take k s.data.toList))).toList == (s.extract 0 k).toList) = true := by assumption
            have hb := beq_iff_eq.1 hb
            rw [toList_eq, toList_eq, extract_take] at hb
            have hf := hfo.out hb
            go_ret3
            rw [hf]
            exact ⟨rfl, hq.drew.trans hq1⟩
          · have hb : ((encB (val (List.take k s.data.toList))).toList == (s.extract 0 k).toList) = false := by assumption
            have hb := beq_eq_false_iff_ne.1 hb
            rw [toList_eq, toList_eq, extract_take] at hb
            exact ⟨⟨k + 1, by go_num, by omega, by omega, by omega, hq.drew.trans hq1, hst.out hb⟩, by simp [intOf]; omega⟩
        · have HF : Hid (fst3 s.data.toList = (65533, 1, false)) := Lib.hid (noFront_end _ k hl hno (.inr (by rw [HL.out]; omega)))
          go_wp2_with fail
          go_ret3
          rw [HF.out]
          exact ⟨rfl, hq⟩
      · have HF : Hid (fst3 s.data.toList = (65533, 1, false)) := Lib.hid (noFront_end _ k hl hno (.inl (by omega)))
        go_wp2_with fail
        go_ret3
        rw [HF.out]
        exact ⟨rfl, hq⟩

theorem extract_list (s : ByteArray) (pos : Nat) : (s.extract pos s.size).data.toList = s.data.toList.drop pos := by
  rw [ByteArray.data_extract, Array.toList_extract]
  have : s.size = s.data.toList.length := (size_list s).symm
  rw [List.extract_eq_take_drop, this, List.take_of_length_le (by simp)]

set_option maxHeartbeats 800000 in
theorem all_any (s : ByteArray) (w : World) (hm : s.size ≤ 1073741824) :
    Calls Tryz.prog 100 #[.string s] w fun e w' => ∃ v u, e = .returned (.tuple #[v, u, .bool (okL s.data.toList)]) ∧ Own w' w.heap.size v (allL s.data.toList) ∧ Own w' w.heap.size u (startsL s.data.toList) ∧ Apart v u ∧ Q w w' := by
  have hml := marks_length s.data.toList
  rw [size_list] at hml
  have HML := Lib.hid hml
  clear hml
  go_enter Tryz.func100, Tryz.ntmps100
  go_wp2_with fail
  go_loopw [5, 6, 7, 8] (fun v u b at' wr => ∃ (pos : Nat) (acc sta : List Int) (ok : Bool), at' = .int .i64 pos ∧ b = .bool ok ∧ pos ≤ s.size ∧ Own wr w.heap.size v acc ∧ Own wr w.heap.size u sta ∧ Apart v u ∧ Q w wr ∧
      acc ++ allL (s.data.toList.drop pos) = allL s.data.toList ∧ sta ++ startsF pos (marks (s.data.toList.drop pos)) = startsL s.data.toList ∧ (ok && (marks (s.data.toList.drop pos)).all (·.2.2)) = okL s.data.toList)
    (fun _ _ _ at' _ => s.size - (intOf at').toNat)
  case atStart => exact ⟨0, [], [], true, rfl, rfl, by omega, Own.nil _ _, Own.nil _ _, Apart.nilL _, Q.refl _, by simp, by simp [startsL], by simp [okL]⟩
  case round =>
    obtain ⟨pos, acc, sta, ok, rfl, rfl, hps, hv, hu, hap, hq, ha, hs, ho⟩ := hrel
    have hal : acc.length ≤ s.size := by
      have h1 := congrArg List.length ha
      simp only [allL, List.length_append, List.length_map] at h1
      have := HML.out; omega
    have hsl : sta.length ≤ s.size := by
      have h1 := congrArg List.length hs
      simp only [startsL, List.length_append, startsF_length] at h1
      have := HML.out; omega
    have hsq := hq.le
    have HA := Lib.hid ha
    have HS := Lib.hid hs
    have HO := Lib.hid ho
    clear ha hs ho
    by_cases hp : pos < s.size
    · have hwd := mark_at_n s pos hp
      have hF : ∀ w, Calls Tryz.prog 128 #[.string (s.extract pos s.size)] w _ := fun w => first_any (s.extract pos s.size) w (by rw [ByteArray.size_extract]; unfold maxLen; omega)
      rw [extract_list] at hF
      have hf3 : fst3 (s.data.toList.drop pos) = ((mrk (s.data.toList.drop pos)).1, ((mrk (s.data.toList.drop pos)).2.1 : Int), (mrk (s.data.toList.drop pos)).2.2) := by unfold fst3; rw [if_neg (drop_ne hp)]
      rw [hf3] at hF
      simp only at hF
      have hm1 := marks_at s pos hp
      have HM := Lib.hid hm1
      have HF := Lib.hid hF
      clear hF hf3 hm1
      go_wp2_with fail
      refine (HF.out _).mono ?_
      rintro e w1 ⟨rfl, hq1⟩
      have hv1 := hv.q hq1
      have hu1 := hu.q hq1
      have hqw1 := hq.trans hq1
      have hsq1 := hqw1.le
      go_wp2_with (at_builtin; refine push_int hv1 rfl _ _ rfl _ (by rfl) (by rfl) (by omega) hsq1 ?_)
      intro v2 w2 hv2 hg2 hat2
      have hu2 := hu1.other hg2 hap
      have hap2 := hap.push hu1 hat2
      have hqw2 := hqw1.grown hg2 (fun g h => (hv1.lt g h).1)
      have hsq2 := hqw2.le
      go_wp2_with (at_builtin; refine push_int hu2 rfl _ _ rfl _ (by rfl) (by rfl) (by omega) hsq2 ?_)
      intro u3 w3 hu3 hg3 hat3
      have hv3 := hv2.other hg3 hap2.symm
      have hap3 := (hap2.symm.push hv2 hat3).symm
      have hqw3 := hqw2.grown hg3 (fun g h => (hu2.lt g h).1)
      have hfin : (∃ (pos' : Nat) (acc' sta' : List Int) (ok' : Bool), Value.int .i64 ((pos : Int) + ((mrk (s.data.toList.drop pos)).2.1 : Int)) = .int .i64 pos' ∧ Value.bool (ok && (mrk (s.data.toList.drop pos)).2.2) = .bool ok' ∧ pos' ≤ s.size ∧ Own w3 w.heap.size v2 acc' ∧ Own w3 w.heap.size u3 sta' ∧ Apart v2 u3 ∧ Q w w3 ∧
          acc' ++ allL (s.data.toList.drop pos') = allL s.data.toList ∧ sta' ++ startsF pos' (marks (s.data.toList.drop pos')) = startsL s.data.toList ∧ (ok' && (marks (s.data.toList.drop pos')).all (·.2.2)) = okL s.data.toList) := by
        refine ⟨pos + (mrk (s.data.toList.drop pos)).2.1, _, _, _, by rw [Int.natCast_add], rfl, hwd.2, hv3, hu3, hap3, hqw3, ?_, ?_, ?_⟩
        · rw [← HA.out]; unfold allL; conv => rhs; rw [HM.out]
          simp
        · rw [← HS.out, HM.out]; simp [startsF]
        · rw [← HO.out, HM.out, List.all_cons, Bool.and_assoc]
      have HFin := Lib.hid hfin
      clear hfin
      cases ok
      all_goals
        go_wp2_with fail
        exact ⟨HFin.out, by simp [intOf]; omega⟩
    · have hpe : pos = s.size := by omega
      subst hpe
      go_wp2_with (at_builtin; refine push_int hu rfl _ _ rfl _ (by rfl) (by rfl) (by omega) hsq ?_)
      intro u3 w3 hu3 hg3 hat3
      have hv3 := hv.other hg3 hap.symm
      have hap3 := (hap.symm.push hv hat3).symm
      have hqw3 := hq.grown hg3 (fun g h => (hu.lt g h).1)
      go_wp2_with fail
      go_ret3
      have h1 := HA.out; have h2 := HS.out; have h3 := HO.out
      unfold allL at h1
      rw [marks_end s s.size (by omega)] at h1 h2 h3
      rw [List.map_nil, List.append_nil] at h1
      refine ⟨_, _, ?_, ?_, ?_, hap3, hqw3⟩
      · rw [← h3, List.all_nil, Bool.and_true]; rfl
      · unfold allL; rw [← h1]; exact hv3
      · rw [← h2]; exact hu3

theorem Lst.cellAt {w : World} {g off cap : Nat} {zs : List Int} {k : Nat} (h : ∀ i, i < zs.length → w.cell? ⟨g, off + i, none⟩ = some (.int .i64 (zs.getD i 0))) (hk : k < zs.length) : w.cell? ⟨g, off + k, none⟩ = some (.int .i64 (zs.getD k 0)) := h k hk

end Ur
end Go.Proofs.YtglljkbpdbnhaaaGreatDoor
