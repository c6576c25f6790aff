/- The document's own answers on patterns: none, signs, Resolve. -/
import Derived.Test.YtjloibgjnnknnaaDoorRows
import Derived.Test.YtjloibgjnnknnaaDoorInts
import Derived.Test.YtjloibgjnnknnaaDoorSto
import Derived.Test.YtjloibgjnnknnaaDoorUtfM
import Derived.Test.YtjloibgjnnknnaaDoorUtfG
import Derived.Test.YtjloibgjnnknnaaDoorPcs
import Derived.Test.YtjloibgjnnknnaaDoorPatM
import Derived.Test.YtjloibgjnnknnaaDoorPatS
import Derived.Test.YtjloibgjnnknnaaDoorPatT
import Derived.Test.YtjloibgjnnknnaaDoorPatU
import Derived.Deep.QuietTactic
import Derived.BigQuiet
import Derived.Laws.ResultCell
set_option linter.unusedVariables false
set_option linter.unusedSimpArgs false
namespace Go.Proofs.YtjloibgjnnknnaaDoor
open Go.RowKit
namespace Pr
open Pt Um

/-- The bytes of one of the ten signs. -/
def tb (x : Nat) : List UInt8 := (sgn.getD x []).flatMap encL
theorem tb_eq : ∀ x, x < 10 → tb x = ([[97], [194, 164], [37], [45], [39, 35, 39], [39, 39], [194, 160], [101, 204, 129], [39, 46, 59, 39], [120, 39, 121, 39]] : List (List UInt8)).getD x [] := by decide +kernel
theorem tb_len : ∀ x, x < 10 → (tb x).length ≤ 4 := by decide +kernel
theorem tb_cell (w : World) : ∀ x, x < 10 → (w.alloc (.cells #[.string ⟨#[97]⟩, .string ⟨#[194, 164]⟩, .string ⟨#[37]⟩, .string ⟨#[45]⟩, .string ⟨#[39, 35, 39]⟩, .string ⟨#[39, 39]⟩, .string ⟨#[194, 160]⟩, .string ⟨#[101, 204, 129]⟩, .string ⟨#[39, 46, 59, 39]⟩, .string ⟨#[120, 39, 121, 39]⟩] 9)).cell? ⟨w.heap.size, x, none⟩ = some (.string ⟨(tb x).toArray⟩) := by
  intro x hx
  rw [tb_eq x hx]
  have hb : (w.alloc (.cells #[.string ⟨#[97]⟩, .string ⟨#[194, 164]⟩, .string ⟨#[37]⟩, .string ⟨#[45]⟩, .string ⟨#[39, 35, 39]⟩, .string ⟨#[39, 39]⟩, .string ⟨#[194, 160]⟩, .string ⟨#[101, 204, 129]⟩, .string ⟨#[39, 46, 59, 39]⟩, .string ⟨#[120, 39, 121, 39]⟩] 9)).heap[w.heap.size]? = some (.cells #[.string ⟨#[97]⟩, .string ⟨#[194, 164]⟩, .string ⟨#[37]⟩, .string ⟨#[45]⟩, .string ⟨#[39, 35, 39]⟩, .string ⟨#[39, 39]⟩, .string ⟨#[194, 160]⟩, .string ⟨#[101, 204, 129]⟩, .string ⟨#[39, 46, 59, 39]⟩, .string ⟨#[120, 39, 121, 39]⟩] 9) := heap_alloc_new _ _
  unfold World.cell?
  simp only [hb]
  rcases (show x = 0 ∨ x = 1 ∨ x = 2 ∨ x = 3 ∨ x = 4 ∨ x = 5 ∨ x = 6 ∨ x = 7 ∨ x = 8 ∨ x = 9 from by omega) with rfl | rfl | rfl | rfl | rfl | rfl | rfl | rfl | rfl | rfl <;> rfl
def sgX (l : List Int) (k : Nat) : List UInt8 := (sgL (l.take k)).flatMap encL
theorem sgX_step (l : List Int) (k : Nat) (hk : k < l.length) (h5 : k < 5) : sgX l (k + 1) = sgX l k ++ tb (around (l.getD k 0) 10).toNat := by
  unfold sgX sgL tb
  rw [List.take_of_length_le (l := l.take (k + 1)) (by rw [List.length_take]; omega), List.take_of_length_le (l := l.take k) (by rw [List.length_take]; omega), List.take_succ_eq_append_getElem hk, List.flatMap_append, List.flatMap_append, List.flatMap_cons, List.flatMap_nil, List.append_nil]
  have e : l.getD k 0 = l[k] := by rw [List.getD_eq_getElem?_getD, List.getElem?_eq_getElem hk]; rfl
  rw [e]
theorem sgX_end (l : List Int) (k : Nat) (h : l.length ≤ k ∨ 5 ≤ k) : sgX l k = (sgL l).flatMap encL := by
  unfold sgX sgL
  rw [List.take_take]
  rcases h with h | h
  · congr 2
    by_cases h5 : 5 ≤ k
    · rw [Nat.min_eq_left h5]
    · rw [List.take_of_length_le (by omega), List.take_of_length_le (by omega)]
  · rw [Nat.min_eq_left h]

set_option maxRecDepth 100000 in
set_option maxHeartbeats 4000000 in
theorem signs_any (v : Value) (l : List Int) (w : World) (hv : Lst w v l) (hl : l.length ≤ maxLen) (hb : ∀ k, k < l.length → -9223372036854775808 ≤ l.getD k 0 ∧ l.getD k 0 ≤ 9223372036854775807) :
    Calls Tryd.prog 22 #[v] w fun e w' => e = .returned (.string ⟨((sgL l).flatMap encL).toArray⟩) ∧ Q w w' := by
  obtain ⟨n, hn⟩ : ∃ n, l.length = n := ⟨_, rfl⟩
  obtain ⟨a, c, rfl, hc1, hc2⟩ := hv.form0 hn
  have HV := Lib.hid hv
  have HN := Lib.hid hn
  have HB := Lib.hid hb
  have HTB := Lib.hid (tb_cell w)
  rw [hn] at hl
  have HEND := Lib.hid (fun k (h : n ≤ k ∨ 5 ≤ k) => sgX_end l k (by rw [HN.out]; exact h))
  clear hv hn hb
  obtain ⟨R, hR⟩ : ∃ R, R = (sgL l).flatMap encL := ⟨_, rfl⟩
  rw [← hR] at HEND ⊢
  clear hR
  go_enter Tryd.func22, Tryd.ntmps22
  go_wp2_with fail
  go_loopw [4, 5] (fun s i wr => ∃ k : Nat, i = .int .i64 k ∧ k ≤ n ∧ k ≤ 5 ∧ s = .string ⟨(sgX l k).toArray⟩ ∧ (sgX l k).length ≤ 4 * k ∧ Hid (∀ x, x < 10 → wr.cell? ⟨w.heap.size, x, none⟩ = some (.string ⟨(tb x).toArray⟩)) ∧ Q w wr) (fun _ i _ => n - (intOf i).toNat)
  case atStart => exact ⟨0, rfl, by omega, by omega, rfl, Nat.zero_le _, HTB, (Q.refl w).alloc _⟩
  case round =>
    obtain ⟨k, rfl, hkn, hk5, rfl, hsl, HT, hq⟩ := hrel
    have HQ := Lib.hid hq
    by_cases hgo : k < n ∧ k < 5
    · obtain ⟨h1, h2⟩ := hgo
      have h1i : (k : Int) < (n : Int) := by omega
      have h2i : (k : Int) < 5 := by omega
      obtain ⟨g, off, cap, hvv, hg, _, _, c1⟩ := HV.out.cellOf HN.out h1
      cases hvv
      have c2 := (World.cell?_of_block (w := w) (hq.block hg)).trans c1
      obtain ⟨b1, b2⟩ := HB.out k (by rw [HN.out]; exact h1)
      obtain ⟨y, hy⟩ : ∃ y, y = l.getD k 0 := ⟨_, rfl⟩
      rw [← hy] at c2 b1 b2
      obtain ⟨z1, z2⟩ := around_bd y 10 (by decide)
      obtain ⟨r, hr⟩ : ∃ r : Nat, around y 10 = (r : Int) := ⟨(around y 10).toNat, by omega⟩
      have hr10 : r < 10 := by omega
      have hst := sgX_step l k (by rw [HN.out]; exact h1) h2
      rw [← hy, hr, Int.toNat_natCast] at hst
      have c3 := HT.out r hr10
      have ht := tb_len r hr10
      have hap := app_eq (sgX l k) (tb r)
      rw [← hst] at hap
      have hl2 : (sgX l (k + 1)).length ≤ 4 * (k + 1) := by rw [hst, List.length_append]; omega
      have s1 : (⟨(sgX l k).toArray⟩ : ByteArray).size ≤ 20 := by rw [← size_list]; show (sgX l k).length ≤ _; omega
      have s2 : (⟨(tb r).toArray⟩ : ByteArray).size ≤ 4 := by rw [← size_list]; exact ht
      have HAR := Lib.hid (fun w => Ur.around_any y 10 w b1 b2 (by decide) (by decide))
      generalize (⟨(tb r).toArray⟩ : ByteArray) = T at *
      generalize (⟨(sgX l k).toArray⟩ : ByteArray) = S at *
      have HAP := Lib.hid hap
      have HR2 := Lib.hid hr
      have HL2 := Lib.hid hl2
      clear c1 hy z1 z2 hr hst ht hap hl2 hsl hq b1 b2
      go_wp2_with fail
      refine (HAR.out _).mono ?_
      rw [HR2.out]
      rintro e w1 ⟨rfl, rfl⟩
      go_wp2_with fail
      exact ⟨⟨k + 1, by go_num, by omega, by omega, by rw [HAP.out], HL2.out, HT, HQ.out⟩, by simp [intOf]; omega⟩
    · have hno : (¬ (k : Int) < (n : Int)) ∨ ((k : Int) < (n : Int) ∧ ¬ (k : Int) < 5) := by omega
      have hE := HEND.out k (by omega)
      rw [hE]
      clear hq hsl
      rcases hno with hno | ⟨hno, hno2⟩
      all_goals
        go_wp2_with fail
        go_ret
        exact ⟨rfl, HQ.out⟩

end Pr
end Go.Proofs.YtjloibgjnnknnaaDoor
