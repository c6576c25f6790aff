/- The document's own answers on patterns: in, kind, tokens. -/
import Derived.Test.YtjloibgjnnknnaaGreatDoorRows
import Derived.Test.YtjloibgjnnknnaaGreatDoorInts
import Derived.Test.YtjloibgjnnknnaaGreatDoorUtfM
import Derived.Test.YtjloibgjnnknnaaGreatDoorUtfG
import Derived.Test.YtjloibgjnnknnaaGreatDoorUtfR
import Derived.Test.YtjloibgjnnknnaaGreatDoorPcs
import Derived.Test.YtjloibgjnnknnaaGreatDoorPatM
import Derived.Deep.QuietTactic
import Derived.BigQuiet
set_option linter.unusedVariables false
set_option linter.unusedSimpArgs false
namespace Go.Proofs.YtjloibgjnnknnaaGreatDoor
open Go.RowKit
namespace Pr
open Pt Um

/-- Does a character stand in a text of few signs? -/
def inS (c : Int) (l : List UInt8) : Bool := l.any fun b => c == ((b.toNat : Nat) : Int)
theorem inS_at {c : Int} {s : ByteArray} {k : Nat} (hk : k < s.size) (h : c = (((s[k]'hk).toNat : Nat) : Int)) : inS c s.data.toList = true := by
  unfold inS
  rw [List.any_eq_true]
  refine ⟨s[k], ?_, by rw [h]; simp⟩
  exact List.getElem_mem (l := s.data.toList) (n := k) (by rw [size_list]; exact hk)
theorem inS_no {c : Int} {s : ByteArray} (h : ∀ k (hk : k < s.size), c ≠ (((s[k]'hk).toNat : Nat) : Int)) : inS c s.data.toList = false := by
  unfold inS
  rw [List.any_eq_false]
  intro b hb
  obtain ⟨k, hk, he⟩ := List.mem_iff_getElem.1 hb
  rw [size_list] at hk
  have := h k hk
  intro hb
  rw [beq_iff_eq] at hb
  refine this ?_
  rw [hb, ← he]; rfl
set_option maxHeartbeats 800000 in
theorem in_any (c : Int) (s : ByteArray) (w : World) (hs : s.size ≤ 1000000) :
    Calls Tryz.prog 45 #[.int .i64 c, .string s] w fun e w' => e = .returned (.bool (inS c s.data.toList)) ∧ w = w' := by
  have HA := Lib.hid (fun k hk => @inS_at c s k hk)
  have HN := Lib.hid (@inS_no c s)
  generalize inS c s.data.toList = r at *
  go_enter Tryz.func45, Tryz.ntmps45
  go_wp2_with fail
  go_loopw [5] (fun i wr => ∃ k : Nat, i = .int .i64 k ∧ k ≤ s.size ∧ (∀ j (hj : j < s.size), j < k → c ≠ (((s[j]'hj).toNat : Nat) : Int)) ∧ w = wr) (fun i _ => s.size - (intOf i).toNat)
  case atStart => exact ⟨0, rfl, by omega, fun j _ h => absurd h (Nat.not_lt_zero j), rfl⟩
  case round =>
    obtain ⟨k, rfl, hk, hno, rfl⟩ := hrel
    have HNO := Lib.hid hno
    clear hno
    by_cases hlt : k < s.size
    · have hlti : (k : Int) < (s.size : Int) := by omega
      have hub := Ur.u8b (s[k]'hlt)
      by_cases hc : c = (((s[k]'hlt).toNat : Nat) : Int)
      · have HF := Lib.hid (HA.out k hlt hc)
        have hcb : (c == (((s[k]'hlt).toNat : Nat) : Int)) = true := by rw [hc]; simp
        have HC := Lib.hid hc
        clear hc
        go_wp2_with fail
        go_ret
        rw [HF.out]
        exact ⟨rfl, rfl⟩
      · have hcb : (c == (((s[k]'hlt).toNat : Nat) : Int)) = false := beq_eq_false_iff_ne.2 hc
        have HC := Lib.hid hc
        clear hc
        go_wp2_with fail
        refine ⟨⟨k + 1, by go_num, by omega, fun j hj hjk => ?_, trivial⟩, by simp [intOf]; omega⟩
        by_cases h : j = k
        · subst h; exact HC.out
        · exact HNO.out j hj (by omega)
    · have HF := Lib.hid (HN.out fun j hj => HNO.out j hj (by omega))
      go_wp2_with fail
      go_ret
      rw [HF.out]
      exact ⟨rfl, rfl⟩

theorem in_four (c : Int) : inS c [35, 48, 44, 46] = (c == 35 || (c == 48 || (c == 44 || c == 46))) := by simp [inS]
theorem in_bad (c : Int) : inS c [49, 50, 51, 52, 53, 54, 55, 56, 57, 64, 42, 43, 69] = true ↔ ((49 ≤ c ∧ c ≤ 57) ∨ c = 64 ∨ c = 42 ∨ c = 43 ∨ c = 69) := by
  simp [inS]; omega
set_option maxHeartbeats 800000 in
theorem kind_any (c : Int) (w : World) :
    Calls Tryz.prog 27 #[.int .i64 c] w fun e w' => e = .returned (.int .i64 (kindC c)) ∧ w = w' := by
  have hi4 := fun w => in_any c ⟨#[35, 48, 44, 46]⟩ w (by decide)
  have hi6 := fun w => in_any c ⟨#[49, 50, 51, 52, 53, 54, 55, 56, 57, 64, 42, 43, 69]⟩ w (by decide)
  have e4 : inS c (⟨#[35, 48, 44, 46]⟩ : ByteArray).data.toList = decide (c = 35 ∨ c = 48 ∨ c = 44 ∨ c = 46) := by
    rw [show (⟨#[35, 48, 44, 46]⟩ : ByteArray).data.toList = [35, 48, 44, 46] from rfl, in_four, Bool.eq_iff_iff]; simp
  have e6 : inS c (⟨#[49, 50, 51, 52, 53, 54, 55, 56, 57, 64, 42, 43, 69]⟩ : ByteArray).data.toList = decide ((49 ≤ c ∧ c ≤ 57) ∨ c = 64 ∨ c = 42 ∨ c = 43 ∨ c = 69) := by
    rw [show (⟨#[49, 50, 51, 52, 53, 54, 55, 56, 57, 64, 42, 43, 69]⟩ : ByteArray).data.toList = [49, 50, 51, 52, 53, 54, 55, 56, 57, 64, 42, 43, 69] from rfl, Bool.eq_iff_iff, in_bad]; simp
  rw [e4] at hi4
  rw [e6] at hi6
  obtain ⟨K, hK⟩ : ∃ K, K = kindC c := ⟨_, rfl⟩
  rw [← hK]
  unfold kindC at hK
  have main : ∀ (b4 b6 : Bool), decide (c = 35 ∨ c = 48 ∨ c = 44 ∨ c = 46) = b4 → decide ((49 ≤ c ∧ c ≤ 57) ∨ c = 64 ∨ c = 42 ∨ c = 43 ∨ c = 69) = b6 →
      Calls Tryz.prog 27 #[.int .i64 c] w fun e w' => e = .returned (.int .i64 K) ∧ w = w' := by
    intro b4 b6 h4 h6
    rw [h4] at hi4
    rw [h6] at hi6
    have HI4 := Lib.hid hi4
    have HI6 := Lib.hid hi6
    clear hi4 hi6 e4 e6
    by_cases h1 : c = 164
    · have HF : Hid (K = 1) := Lib.hid (by rw [hK, if_pos h1])
      subst h1
      clear hK h4 h6
      go_enter Tryz.func27, Tryz.ntmps27
      go_wp2_with fail
      go_ret
      rw [HF.out]
      exact ⟨rfl, rfl⟩
    · rw [if_neg h1] at hK
      by_cases h2 : c = 37
      · have HF : Hid (K = 2) := Lib.hid (by rw [hK, if_pos h2])
        subst h2
        clear hK h4 h6
        go_enter Tryz.func27, Tryz.ntmps27
        go_wp2_with fail
        go_ret
        rw [HF.out]
        exact ⟨rfl, rfl⟩
      · rw [if_neg h2] at hK
        by_cases h3 : c = 45
        · have HF : Hid (K = 3) := Lib.hid (by rw [hK, if_pos h3])
          subst h3
          clear hK h4 h6
          go_enter Tryz.func27, Tryz.ntmps27
          go_wp2_with fail
          go_ret
          rw [HF.out]
          exact ⟨rfl, rfl⟩
        · rw [if_neg h3] at hK
          have g1 : (c == 164) = false := beq_eq_false_iff_ne.2 h1
          have g2 : (c == 37) = false := beq_eq_false_iff_ne.2 h2
          have g3 : (c == 45) = false := beq_eq_false_iff_ne.2 h3
          cases b4
          · rw [if_neg (of_decide_eq_false h4)] at hK
            by_cases h5 : c = 59
            · have HF : Hid (K = 5) := Lib.hid (by rw [hK, if_pos h5])
              subst h5
              clear hK h4 h6
              go_enter Tryz.func27, Tryz.ntmps27
              go_wp2_with fail
              refine (HI4.out _).mono ?_
              rintro e w1 ⟨rfl, rfl⟩
              go_wp2_with fail
              go_ret
              rw [HF.out]
              exact ⟨rfl, rfl⟩
            · rw [if_neg h5] at hK
              have g5 : (c == 59) = false := beq_eq_false_iff_ne.2 h5
              cases b6
              · have HF : Hid (K = 0) := Lib.hid (by rw [hK, if_neg (of_decide_eq_false h6)])
                clear hK h4 h6 h1 h2 h3 h5
                go_enter Tryz.func27, Tryz.ntmps27
                go_wp2_with fail
                refine (HI4.out _).mono ?_
                rintro e w1 ⟨rfl, rfl⟩
                go_wp2_with fail
                refine (HI6.out _).mono ?_
                rintro e w1 ⟨rfl, rfl⟩
                go_wp2_with fail
                go_ret
                rw [HF.out]
                exact ⟨rfl, rfl⟩
              · have HF : Hid (K = 6) := Lib.hid (by rw [hK, if_pos (of_decide_eq_true h6)])
                clear hK h4 h6 h1 h2 h3 h5
                go_enter Tryz.func27, Tryz.ntmps27
                go_wp2_with fail
                refine (HI4.out _).mono ?_
                rintro e w1 ⟨rfl, rfl⟩
                go_wp2_with fail
                refine (HI6.out _).mono ?_
                rintro e w1 ⟨rfl, rfl⟩
                go_wp2_with fail
                go_ret
                rw [HF.out]
                exact ⟨rfl, rfl⟩
          · have HF : Hid (K = 4) := Lib.hid (by rw [hK, if_pos (of_decide_eq_true h4)])
            clear hK h4 h6 h1 h2 h3
            go_enter Tryz.func27, Tryz.ntmps27
            go_wp2_with fail
            refine (HI4.out _).mono ?_
            rintro e w1 ⟨rfl, rfl⟩
            go_wp2_with fail
            go_ret
            rw [HF.out]
            exact ⟨rfl, rfl⟩
  exact main _ _ rfl rfl

end Pr
end Go.Proofs.YtjloibgjnnknnaaGreatDoor
