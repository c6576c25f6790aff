/- What each function on characters and their bytes answers, by a walk through its text. -/
import Derived.Test.YtmobljfpkdjnpaaRows
import Derived.Test.YtmobljfpkdjnpaaUtfM
import Derived.Test.YtmobljfpkdjnpaaInts
import Derived.WalkKit
import Derived.WalkSpells
import Derived.WalkLawsBesides
import Derived.Deep.QuietTactic
import Derived.BigQuiet
import Derived.ShutString
import Derived.Lib.Hide
import Derived.Lib.OthersKept
import Derived.Test.YtmobljfpkdjnpaaShelf
set_option linter.unusedVariables false
set_option linter.unusedSimpArgs false
namespace Go.Proofs.Ytmobljfpkdjnpaa
open Go.RowKit Um

theorem vt {c : Int} (h : 0 ≤ c ∧ c ≤ 1114111 ∧ (c < 55296 ∨ 57343 < c)) : vld c = true := (vld_iff c).2 h
theorem vf {c : Int} (h : ¬ (0 ≤ c ∧ c ≤ 1114111 ∧ (c < 55296 ∨ 57343 < c))) : vld c = false := (vld_false c).2 h

theorem ret_bool {a b : Bool} (h : a = b) : Ending.returned (.bool a) = .returned (.bool b) := by rw [h]
theorem ret_int {k : IntKind} {a b : Int} (h : a = b) : Ending.returned (.int k a) = .returned (.int k b) := by rw [h]
theorem ret_str {a b : ByteArray} (h : a = b) : Ending.returned (.string a) = .returned (.string b) := by rw [h]

set_option maxHeartbeats 400000 in
theorem spoilt_any (s : ByteArray) (r : Int) (w : World) :
    Calls Try.prog 58 #[.string s, .int .i32 r] w fun e w' => e = .returned (.bool (r == 65533 && !Lib.hasPrefix s.data.toList (enc 65533))) ∧ w = w' := by
  by_cases hr : r = 65533
  · subst hr
    go_enter Try.func58, Try.ntmps58
    go_wp2_with (go_at_call 66; refine (hasPrefix_any _ _ _).mono ?_; rintro e w' ⟨rfl, rfl⟩)
    go_ret
    exact ⟨ret_bool (by simp [enc]), rfl⟩
  · go_enter Try.func58, Try.ntmps58
    go_wp2_with fail
    go_ret
    exact ⟨ret_bool (by rw [beq_eq_false_iff_ne.2 hr]; rfl), rfl⟩
/-- As the callers have it: the character is the one that the language tells. -/
theorem spoilt_dec (s : ByteArray) (hs : s.data.toList ≠ []) (r : Int) (hr : r = ((dec s.data.toList).1 : Nat)) (w : World) :
    Calls Try.prog 58 #[.string s, .int .i32 r] w fun e w' => e = .returned (.bool (spo s.data.toList)) ∧ w = w' := by
  refine (spoilt_any s r w).mono ?_
  rintro e w' ⟨rfl, rfl⟩
  exact ⟨ret_bool (by rw [hr]; exact spo_code _ hs), rfl⟩

set_option maxHeartbeats 400000 in
theorem first_any (s : ByteArray) (w : World) (hm : s.size ≤ maxLen) :
    Calls Try.prog 47 #[.string s] w fun e w' => e = .returned (.tuple #[.int .i64 (fst3 s.data.toList).1, .int .i64 (fst3 s.data.toList).2.1, .bool (fst3 s.data.toList).2.2]) ∧ Q w w' := by
  unfold maxLen at hm
  by_cases hs : s.size = 0
  · have hl : s.data.toList = [] := by apply List.eq_nil_of_length_eq_zero; simpa using hs
    have HF : Hid (fst3 s.data.toList = (0, 0, false)) := by rw [hl]; rfl
    have hnx : ∀ ty, (Instr.next (.pointer (some ⟨w.heap.size, 0, none⟩)) true ty).run Try.prog (w.iter s 0) = _ := fun ty => run_next_end w s 0 ty (by omega)
    clear hl hs
    go_enter Try.func47, Try.ntmps47
    go_wp2
    refine wp_loop_rounds 1 ?_
    rw [rounds_succ]
    go_wp2
    go_ret3
    rw [HF.out]
    exact ⟨rfl, (Q.refl _).alloc _⟩
  · have hl : s.data.toList ≠ [] := by intro h; apply hs; have := congrArg List.length h; simpa using this
    have hp : 0 < s.size := by omega
    have hnx : ∀ ty, (Instr.next (.pointer (some ⟨w.heap.size, 0, none⟩)) true ty).run Try.prog (w.iter s 0) = _ := fun ty => run_next_any w s 0 ty hp
    go_enter Try.func47, Try.ntmps47
    go_wp2
    refine wp_loop_rounds 1 ?_
    rw [rounds_succ]
    have hd : Utf8.decode s 0 = dec s.data.toList := by rw [decode_dec]; rfl
    have hb := dec_c _ hl
    have hb := (vld_iff _).1 hb
    rw [hd] at hnx
    have HD := Lib.hid hd
    clear hd
    have hsp := fun w => spoilt_dec s hl ((dec s.data.toList).1 : Nat) rfl w
    cases hc : spo s.data.toList
    · have HF : Hid (fst3 s.data.toList = (((dec s.data.toList).1 : Int), ((Utf8.encode ((dec s.data.toList).1 : Nat)).size : Int), true)) := Lib.hid (by
        unfold fst3 mrk
        rw [if_neg hl, hc]
        have : (dec s.data.toList).2 = (Utf8.encode ((dec s.data.toList).1 : Nat)).size := by
          obtain ⟨c, r, hv, hr⟩ := (spo_false_iff _ hl).1 hc
          rw [hr, dec_enc c r hv]
          have := (vld_iff c).1 hv
          simp only
          rw [show ((c.toNat : Nat) : Int) = c from by omega]
          rfl
        rw [this]; simp)
      rw [hc] at hsp
      have HS := Lib.hid hsp
      clear hsp hc
      go_wp2_with (go_at_call 58; refine (HS.out _).mono ?_; rintro e w' ⟨rfl, rfl⟩)
      go_ret3
      rw [HF.out]
      exact ⟨rfl, (Q.refl _).alloc _⟩
    · have HF : Hid (fst3 s.data.toList = (65533, 1, false)) := Lib.hid (by
        unfold fst3
        rw [if_neg hl, mark_spo _ hc]; simp)
      rw [hc] at hsp
      have HS := Lib.hid hsp
      clear hsp hc
      go_wp2_with (go_at_call 58; refine (HS.out _).mono ?_; rintro e w' ⟨rfl, rfl⟩)
      go_ret3
      rw [HF.out]
      exact ⟨rfl, (Q.refl _).alloc _⟩


theorem extract_list (s : ByteArray) (pos : Nat) : (s.extract pos s.size).data.toList = s.data.toList.drop pos := by
  rw [ByteArray.data_extract, Array.toList_extract]
  have : s.size = s.data.toList.length := (size_list s).symm
  rw [List.extract_eq_take_drop, this, List.take_of_length_le (by simp)]

theorem toList_eq (s : ByteArray) : s.toList = s.data.toList := ByteArray.toList_eq s
theorem fst3_bd (l : List UInt8) : 0 ≤ (fst3 l).2.1 ∧ (fst3 l).2.1 ≤ 4 := by
  unfold fst3
  split
  · simp
  · rename_i h; have := mark_n l h; simp; omega
end Go.Proofs.Ytmobljfpkdjnpaa
