/- What each function on characters and their bytes answers, by a walk through its text. -/
import Derived.Test.YtjloibgjnnknnaaDoorRows
import Derived.Test.YtjloibgjnnknnaaDoorUtfM
import Derived.Test.YtjloibgjnnknnaaDoorInts
import Derived.WalkKit
import Derived.WalkSpells
import Derived.WalkLawsBesides
import Derived.Deep.QuietTactic
import Derived.BigQuiet
import Derived.ShutString
import Derived.Lib.Hide
import Derived.Lib.OthersKept
import Derived.Test.YtjloibgjnnknnaaDoorShelf
set_option linter.unusedVariables false
set_option linter.unusedSimpArgs false
namespace Go.Proofs.YtjloibgjnnknnaaDoor
open Go.RowKit Um

theorem vt {c : Int} (h : 0 ≤ c ∧ c ≤ 1114111 ∧ (c < 55296 ∨ 57343 < c)) : vld c = true := (vld_iff c).2 h
theorem vf {c : Int} (h : ¬ (0 ≤ c ∧ c ≤ 1114111 ∧ (c < 55296 ∨ 57343 < c))) : vld c = false := (vld_false c).2 h

set_option maxHeartbeats 400000 in
theorem may_any (c : Int) (w : World) :
    Calls Tryd.prog 58 #[.int .i64 c] w fun e w' => e = .returned (.bool (vld c)) ∧ w = w' := by
  by_cases h1 : 0 ≤ c
  · by_cases h2 : c ≤ 1114111
    · by_cases h3 : c < 55296
      · rw [vt ⟨h1, h2, .inl h3⟩]
        go_enter Tryd.func58, Tryd.ntmps58
        go_wp2
        go_ret
        exact ⟨rfl, rfl⟩
      · by_cases h4 : 57343 < c
        · rw [vt ⟨h1, h2, .inr h4⟩]
          go_enter Tryd.func58, Tryd.ntmps58
          go_wp2
          go_ret
          exact ⟨rfl, rfl⟩
        · rw [vf (by omega)]
          go_enter Tryd.func58, Tryd.ntmps58
          go_wp2
          go_ret
          exact ⟨rfl, rfl⟩
    · rw [vf (by omega)]
      go_enter Tryd.func58, Tryd.ntmps58
      go_wp2
      go_ret
      exact ⟨rfl, rfl⟩
  · rw [vf (by omega)]
    go_enter Tryd.func58, Tryd.ntmps58
    go_wp2
    go_ret
    exact ⟨rfl, rfl⟩


set_option maxHeartbeats 400000 in
theorem encode_any (c : Int) (w : World) :
    Calls Tryd.prog 39 #[.int .i64 c] w fun e w' => e = .returned (.string (encB c)) ∧ w = w' := by
  by_cases hv : vld c = true
  · have hb := (vld_iff c).1 hv
    have HE : Hid (encB c = Utf8.encode c) := by unfold encB; exact if_pos hv
    go_enter Tryd.func39, Tryd.ntmps39
    go_wp2_with (go_at_call 58; refine (may_any _ _).mono ?_; rintro e w' ⟨rfl, rfl⟩)
    go_ret
    rw [HE.out]
    exact ⟨rfl, rfl⟩
  · have hv : vld c = false := by simpa using hv
    have HE : Hid (encB c = ⟨#[]⟩) := by unfold encB; exact if_neg (by simp [hv])
    go_enter Tryd.func39, Tryd.ntmps39
    go_wp2_with (go_at_call 58; refine (may_any _ _).mono ?_; rintro e w' ⟨rfl, rfl⟩)
    go_ret
    rw [HE.out]
    exact ⟨rfl, rfl⟩

theorem ret_bool {a b : Bool} (h : a = b) : Ending.returned (.bool a) = .returned (.bool b) := by rw [h]
theorem ret_int {k : IntKind} {a b : Int} (h : a = b) : Ending.returned (.int k a) = .returned (.int k b) := by rw [h]
theorem ret_str {a b : ByteArray} (h : a = b) : Ending.returned (.string a) = .returned (.string b) := by rw [h]

set_option maxHeartbeats 400000 in
theorem spoilt_any (s : ByteArray) (r : Int) (w : World) :
    Calls Tryd.prog 59 #[.string s, .int .i32 r] w fun e w' => e = .returned (.bool (r == 65533 && !Lib.hasPrefix s.data.toList (enc 65533))) ∧ w = w' := by
  by_cases hr : r = 65533
  · subst hr
    go_enter Tryd.func59, Tryd.ntmps59
    go_wp2_with (go_at_call 71; refine (hasPrefix_any _ _ _).mono ?_; rintro e w' ⟨rfl, rfl⟩)
    go_ret
    exact ⟨ret_bool (by simp [enc]), rfl⟩
  · go_enter Tryd.func59, Tryd.ntmps59
    go_wp2_with fail
    go_ret
    exact ⟨ret_bool (by rw [beq_eq_false_iff_ne.2 hr]; rfl), rfl⟩
/-- As the callers have it: the character is the one that the language tells. -/
theorem spoilt_dec (s : ByteArray) (hs : s.data.toList ≠ []) (r : Int) (hr : r = ((dec s.data.toList).1 : Nat)) (w : World) :
    Calls Tryd.prog 59 #[.string s, .int .i32 r] w fun e w' => e = .returned (.bool (spo s.data.toList)) ∧ w = w' := by
  refine (spoilt_any s r w).mono ?_
  rintro e w' ⟨rfl, rfl⟩
  exact ⟨ret_bool (by rw [hr]; exact spo_code _ hs), rfl⟩

set_option maxHeartbeats 400000 in
theorem len_any (s : ByteArray) (w : World) (hm : s.size ≤ maxLen) :
    Calls Tryd.prog 60 #[.string s] w fun e w' => e = .returned (.int .i64 ((marks s.data.toList).length : Nat)) ∧ Q w w' := by
  unfold maxLen at hm
  have hml := marks_length s.data.toList
  rw [size_list] at hml
  go_enter Tryd.func60, Tryd.ntmps60
  go_wp2
  go_loopw [3] (fun n wr => ∃ pos k : Nat, wr = w.iter s pos ∧ n = .int .i64 k ∧ k + (marks (s.data.toList.drop pos)).length = (marks s.data.toList).length) (fun _ wr => s.size - wr.iterPos w.heap.size)
  case atStart => exact ⟨0, 0, rfl, rfl, by simp⟩
  case round =>
    obtain ⟨pos, k, rfl, rfl, hk⟩ := hrel
    by_cases hp : pos < s.size
    · have hkb : k < s.size := by rw [marks_at s pos hp] at hk; simp only [List.length_cons] at hk; omega
      have HK := Lib.hid hk
      clear hk hml
      have hnx : ∀ ty, (Instr.next (.pointer (some ⟨w.heap.size, 0, none⟩)) true ty).run Tryd.prog (w.iter s pos) = _ := fun ty => run_next_any w s pos ty hp
      rw [decode_at] at hnx
      have hwd := mark_at_n s pos hp
      go_wp2
      go_roundw
      case rel => exact ⟨_, k + 1, rfl, by go_num, by have := HK.out; rw [marks_at s pos hp] at this; simp only [List.length_cons] at this; omega⟩
      case measure => simp; omega
    · have hnx : ∀ ty, (Instr.next (.pointer (some ⟨w.heap.size, 0, none⟩)) true ty).run Tryd.prog (w.iter s pos) = _ := fun ty => run_next_end w s pos ty hp
      have HK := Lib.hid hk
      clear hk hml
      go_wp2
      go_ret
      have hk := HK.out
      rw [marks_end s pos hp] at hk
      exact ⟨ret_int (by simp at hk; omega), (Q.refl _).alloc _⟩

theorem extract_list (s : ByteArray) (pos : Nat) : (s.extract pos s.size).data.toList = s.data.toList.drop pos := by
  rw [ByteArray.data_extract, Array.toList_extract]
  have : s.size = s.data.toList.length := (size_list s).symm
  rw [List.extract_eq_take_drop, this, List.take_of_length_le (by simp)]

set_option maxHeartbeats 400000 in
theorem valid_any (s : ByteArray) (w : World) (hm : s.size ≤ maxLen) :
    Calls Tryd.prog 46 #[.string s] w fun e w' => e = .returned (.bool (okL s.data.toList)) ∧ Q w w' := by
  unfold maxLen at hm
  go_enter Tryd.func46, Tryd.ntmps46
  go_wp2
  go_loopw [] (fun wr => ∃ pos : Nat, wr = w.iter s pos ∧ (marks (s.data.toList.drop pos)).all (·.2.2) = okL s.data.toList) (fun wr => s.size - wr.iterPos w.heap.size)
  case atStart => exact ⟨0, rfl, rfl⟩
  case round =>
    obtain ⟨pos, rfl, hk⟩ := hrel
    have HK := Lib.hid hk
    clear hk
    by_cases hp : pos < s.size
    · have hnx : ∀ ty, (Instr.next (.pointer (some ⟨w.heap.size, 0, none⟩)) true ty).run Tryd.prog (w.iter s pos) = _ := fun ty => run_next_any w s pos ty hp
      rw [decode_at] at hnx
      have hwd := mark_at_n s pos hp
      have hx := extract_list s pos
      have hne := drop_ne hp
      rw [← hx] at hne
      have hsp := fun w => spoilt_dec (s.extract pos s.size) hne ((dec (s.data.toList.drop pos)).1 : Nat) (by rw [hx]) w
      rw [hx] at hsp
      clear hx hne
      cases hc : spo (s.data.toList.drop pos)
      all_goals
        rw [hc] at hsp
        have HS := Lib.hid hsp
        have HC := Lib.hid hc
        clear hsp hc
        go_wp2_with (go_at_call 59; refine (HS.out _).mono ?_; rintro e w' ⟨rfl, rfl⟩)
      · go_roundw
        case rel =>
          refine ⟨_, rfl, ?_⟩
          have := HK.out
          rw [marks_at s pos hp, List.all_cons] at this
          have h2 : (mrk (s.data.toList.drop pos)).2.2 = true := by unfold mrk; rw [HC.out]; rfl
          rw [h2] at this
          simpa using this
        case measure => simp; omega
      · go_ret
        have := HK.out
        rw [marks_at s pos hp, List.all_cons] at this
        have h2 : (mrk (s.data.toList.drop pos)).2.2 = false := by unfold mrk; rw [HC.out]; rfl
        rw [h2] at this
        exact ⟨ret_bool (by simpa using this), (Q.refl _).alloc _⟩
    · have hnx : ∀ ty, (Instr.next (.pointer (some ⟨w.heap.size, 0, none⟩)) true ty).run Tryd.prog (w.iter s pos) = _ := fun ty => run_next_end w s pos ty hp
      go_wp2
      go_ret
      have hk := HK.out
      rw [marks_end s pos hp] at hk
      exact ⟨ret_bool (by simpa using hk), (Q.refl _).alloc _⟩


theorem toList_eq (s : ByteArray) : s.toList = s.data.toList := ByteArray.toList_eq s
theorem fst3_bd (l : List UInt8) : 0 ≤ (fst3 l).2.1 ∧ (fst3 l).2.1 ≤ 4 := by
  unfold fst3
  split
  · simp
  · rename_i h; have := mark_n l h; simp; omega
set_option maxHeartbeats 400000 in
theorem all_any (s : ByteArray) (w : World) (hm : s.size ≤ 1073741824) :
    Calls Tryd.prog 47 #[.string s] w fun e w' => ∃ v, e = .returned v ∧ Own w' w.heap.size v (allL s.data.toList) ∧ Q w w' := by
  obtain ⟨i0, hi, hz0, hz1, hz2⟩ := info_parts infoInt
  have hml := marks_length s.data.toList
  rw [size_list] at hml
  go_enter Tryd.func47, Tryd.ntmps47
  go_wp2_with fail
  refine (len_any _ _ (by unfold maxLen; omega)).mono ?_
  rintro e w1 ⟨rfl, hq1⟩
  have hs1 := hq1.le
  go_wp2_with (at_make; refine wpList_make_own _ rfl _ _ 34 rfl w.heap.size 3 i0 (.int .i64 0) 1 Tryd.underlying34 hi hz0 hz1 .i64 .i64 _ (marks s.data.toList).length rfl rfl rfl (by rw [hz2]; omega) (by unfold maxLen; omega) hs1 ?_; intro w2 hown2 hg2)
  have hq2 : Q w w2 := hq1.grown hg2 (fun k h => by cases h)
  have hown2 : Own w2 w.heap.size (.slice (some ⟨w1.heap.size, 0, none⟩) 0 (marks s.data.toList).length) [] := hown2
  have hs2 := hq2.le
  go_wp2
  go_loopw [3] (fun v wr => ∃ (pos : Nat) (acc : List Int), Own wr w.heap.size v acc ∧ wr.heap[w2.heap.size]? = some (.stringIter s pos) ∧ Q w wr ∧ acc ++ allL (s.data.toList.drop pos) = allL s.data.toList)
    (fun _ wr => s.size - wr.iterPos w2.heap.size)
  case atStart => exact ⟨0, [], hown2.q ((Q.refl _).alloc _), World.iter_heap w2 s 0, hq2.alloc _, by simp⟩
  case round =>
    obtain ⟨pos, acc, hown, hit, hq, hacc⟩ := hrel
    have hk0 : w2.heap.size < wr.heap.size := (Array.getElem?_eq_some_iff.1 hit).1
    have hsq := hq.le
    by_cases hp : pos < s.size
    · have hnx : ∀ ty, (Instr.next (.pointer (some ⟨w2.heap.size, 0, none⟩)) true ty).run Tryd.prog wr = _ := fun ty => Lib.run_next_any_at wr w2.heap.size s pos ty hit hp
      rw [decode_at] at hnx
      have hwd := mark_at_n s pos hp
      have hcb := (vld_iff _).1 (dec_c _ (drop_ne hp))
      have hal : acc.length < 1073741824 := by
        have h1 := congrArg List.length hacc
        simp only [allL, List.length_append, List.length_map] at h1
        rw [marks_at s pos hp] at h1
        simp only [List.length_cons] at h1; omega
      have hown3 := hown.iterAt hit (pos + (mrk (s.data.toList.drop pos)).2.1)
      have hit3 := Lib.iterAt_heap wr w2.heap.size s pos (pos + (mrk (s.data.toList.drop pos)).2.1) hit
      have hq3 := hq.iterAt (k := w2.heap.size) hs2 s (pos + (mrk (s.data.toList.drop pos)).2.1)
      have hs3 := hq3.le
      have HA := Lib.hid hacc
      clear hacc hml
      go_wp2_with (at_builtin; refine push_int hown3 rfl _ _ rfl _ (by rfl) (by rfl) (by omega) hs3 ?_; intro v' w4 hown4 hg4 hat4)
      have hit4 := iter_grown hown3 hg4 hit3
      go_roundw
      case rel =>
        refine ⟨_, _, hown4, hit4, hq3.grown hg4 (fun g h => (hown3.lt g h).1), ?_⟩
        have := HA.out
        unfold allL at this ⊢
        rw [marks_at s pos hp] at this
        rw [← this]; simp [mrk]
      case measure =>
        rw [iterPos_of hit4, iterPos_of hit]; omega
    · have hnx : ∀ ty, (Instr.next (.pointer (some ⟨w2.heap.size, 0, none⟩)) true ty).run Tryd.prog wr = _ := fun ty => Lib.run_next_end_at wr w2.heap.size s pos ty hit hp
      have HA := Lib.hid hacc
      clear hacc hml
      go_wp2
      go_ret
      refine ⟨_, rfl, ?_, hq⟩
      have := HA.out
      unfold allL at this
      rw [marks_end s pos hp, List.map_nil, List.append_nil] at this
      unfold allL
      rw [← this]; exact hown

end Go.Proofs.YtjloibgjnnknnaaDoor
