/- The document's own answers on patterns: Resolve. -/
import Derived.Test.YtjloibgjnnknnaaDoorRows
import Derived.Test.YtjloibgjnnknnaaDoorInts
import Derived.Test.YtjloibgjnnknnaaDoorSto
import Derived.Test.YtjloibgjnnknnaaDoorUtfM
import Derived.Test.YtjloibgjnnknnaaDoorUtfG
import Derived.Test.YtjloibgjnnknnaaDoorPcs
import Derived.Test.YtjloibgjnnknnaaDoorPatM
import Derived.Test.YtjloibgjnnknnaaDoorPatS
import Derived.Test.YtjloibgjnnknnaaDoorPatT
import Derived.Test.YtjloibgjnnknnaaDoorPatU
import Derived.Deep.QuietTactic
import Derived.BigQuiet
import Derived.Laws.ResultCell
set_option linter.unusedVariables false
set_option linter.unusedSimpArgs false
namespace Go.Proofs.YtjloibgjnnknnaaDoor
open Go.RowKit
namespace Pr
open Pt Um

set_option maxRecDepth 100000 in
open Pt Um

/-- What a piece is put for. -/
def resF (a b c : ByteArray) (p : Pc.E) : List UInt8 := if 0 < p.1 ∧ p.1 < 4 then (if p.1 = 1 then a.data.toList else if p.1 = 2 then b.data.toList else c.data.toList) else p.2
def resL (a b c : ByteArray) (l : List Pc.E) : List UInt8 := l.flatMap (resF a b c)
theorem resL_step (a b c : ByteArray) (l : List Pc.E) (k : Nat) (hk : k < l.length) : resL a b c (l.take (k + 1)) = resL a b c (l.take k) ++ resF a b c (l.getD k (0, [])) := by
  unfold resL
  rw [List.take_succ_eq_append_getElem hk, List.flatMap_append, List.flatMap_cons, List.flatMap_nil, List.append_nil, List.getD_eq_getElem?_getD, List.getElem?_eq_getElem hk]
  rfl
theorem resL_le (a b c : ByteArray) (l : List Pc.E) (k : Nat) : (resL a b c (l.take k)).length ≤ (resL a b c l).length := by
  have h : resL a b c l = resL a b c (l.take k) ++ resL a b c (l.drop k) := by
    unfold resL
    rw [← List.flatMap_append, List.take_append_drop]
  rw [h, List.length_append]
  omega
theorem txt_cell (w : World) (a b c : ByteArray) (z : ByteArray) : let w' := w.alloc (.cells #[.string z, .string a, .string b, .string c] 9); w'.cell? ⟨w.heap.size, 1, none⟩ = some (.string a) ∧ w'.cell? ⟨w.heap.size, 2, none⟩ = some (.string b) ∧ w'.cell? ⟨w.heap.size, 3, none⟩ = some (.string c) := by
  have hb : (w.alloc (.cells #[.string z, .string a, .string b, .string c] 9)).heap[w.heap.size]? = some (.cells #[.string z, .string a, .string b, .string c] 9) := heap_alloc_new _ _
  simp only [World.cell?, hb]
  exact ⟨rfl, rfl, rfl⟩

set_option maxRecDepth 100000 in
set_option maxHeartbeats 4000000 in
theorem resolve_any (v : Value) (l : List Pc.E) (a b c : ByteArray) (w : World) (hv : Pc.LstP w v l) (hl : l.length ≤ 1000000) (hr : (resL a b c l).length ≤ 1000000000000) :
    Calls Tryd.prog 11 #[v, .string a, .string b, .string c] w fun e w' => e = .returned (.string ⟨(resL a b c l).toArray⟩) ∧ Q w w' := by
  obtain ⟨n, hn⟩ : ∃ n, l.length = n := ⟨_, rfl⟩
  obtain ⟨ad, cp, rfl, hc1, hc2⟩ := hv.form0 hn
  have HV := Lib.hid hv
  have HN := Lib.hid hn
  have HTB := Lib.hid (txt_cell w a b c ⟨#[]⟩)
  rw [hn] at hl
  have HLE := Lib.hid (fun k => Nat.le_trans (resL_le a b c l k) hr)
  have HEND := Lib.hid (show resL a b c (l.take n) = resL a b c l by rw [List.take_of_length_le (by omega)])
  clear hv hn hr
  obtain ⟨R, hR⟩ : ∃ R, R = resL a b c l := ⟨_, rfl⟩
  rw [← hR] at HEND ⊢
  clear hR
  go_enter Tryd.func11, Tryd.ntmps11
  go_wp2_with fail
  go_loopw [10, 11] (fun s i wr => ∃ k : Nat, i = .int .i64 k ∧ k ≤ n ∧ s = .string ⟨(resL a b c (l.take k)).toArray⟩ ∧ Hid (wr.cell? ⟨w.heap.size, 1, none⟩ = some (.string a) ∧ wr.cell? ⟨w.heap.size, 2, none⟩ = some (.string b) ∧ wr.cell? ⟨w.heap.size, 3, none⟩ = some (.string c)) ∧ Q w wr) (fun _ i _ => n - (intOf i).toNat)
  case atStart => exact ⟨0, rfl, by omega, rfl, HTB, (Q.refl w).alloc _⟩
  case round =>
    obtain ⟨k, rfl, hkn, rfl, HT, hq⟩ := hrel
    have HQ := Lib.hid hq
    by_cases h1 : k < n
    · have h1i : (k : Int) < (n : Int) := by omega
      obtain ⟨g, off, cap, hvv, hg, _, _, c1, d1⟩ := HV.out.cellOf HN.out h1
      cases hvv
      have c2 := (World.cell?_of_block (w := w) (hq.block hg)).trans c1
      have d2 := (World.cell?_of_block (w := w) (hq.block hg)).trans d1
      have hst := resL_step a b c l k (by rw [HN.out]; exact h1)
      obtain ⟨p, hp⟩ : ∃ p, p = l.getD k (0, []) := ⟨_, rfl⟩
      rw [← hp] at c2 d2 hst
      obtain ⟨x, t⟩ := p
      simp only at c2 d2
      obtain ⟨T, hT⟩ : ∃ T : ByteArray, T = ⟨(resF a b c (x, t)).toArray⟩ := ⟨_, rfl⟩
      have hap := app_eq (resL a b c (l.take k)) (resF a b c (x, t))
      rw [← hst, ← hT] at hap
      have hle := HLE.out (k + 1)
      have hle0 := HLE.out k
      rw [hst, List.length_append] at hle
      have s1 : (⟨(resL a b c (l.take k)).toArray⟩ : ByteArray).size ≤ 1000000000000 := by rw [← size_list]; exact hle0
      have s2 : T.size ≤ 1000000000000 := by rw [hT, ← size_list]; show (resF a b c (x, t)).length ≤ _; omega
      have hcs : (x = 1 ∧ T = a) ∨ (x = 2 ∧ T = b) ∨ (x = 3 ∧ T = c) ∨ (x ≤ 0 ∧ T = ⟨t.toArray⟩) ∨ (0 < x ∧ 4 ≤ x ∧ T = ⟨t.toArray⟩) := by
        unfold resF at hT
        by_cases h : 0 < x ∧ x < 4
        · rw [if_pos h] at hT
          rcases (show x = 1 ∨ x = 2 ∨ x = 3 from by omega) with rfl | rfl | rfl
          · exact .inl ⟨rfl, by rw [hT]; rfl⟩
          · exact .inr (.inl ⟨rfl, by rw [hT]; rfl⟩)
          · exact .inr (.inr (.inl ⟨rfl, by rw [hT]; rfl⟩))
        · rw [if_neg h] at hT
          by_cases h0 : x ≤ 0
          · exact .inr (.inr (.inr (.inl ⟨h0, hT⟩)))
          · exact .inr (.inr (.inr (.inr ⟨by omega, by omega, hT⟩)))
      generalize (⟨(resL a b c (l.take k)).toArray⟩ : ByteArray) = S at *
      have HAP := Lib.hid hap
      clear c1 d1 hp hst hT hap hle hle0 hq
      obtain ⟨q1, q2, q3⟩ := HT.out
      rcases hcs with ⟨rfl, rfl⟩ | ⟨rfl, rfl⟩ | ⟨rfl, rfl⟩ | ⟨hx, hT⟩ | ⟨hx, hx4, hT⟩
      · go_wp2_with fail
        exact ⟨⟨k + 1, by go_num, by omega, by rw [HAP.out], HT, HQ.out⟩, by simp [intOf]; omega⟩
      · go_wp2_with fail
        exact ⟨⟨k + 1, by go_num, by omega, by rw [HAP.out], HT, HQ.out⟩, by simp [intOf]; omega⟩
      · go_wp2_with fail
        exact ⟨⟨k + 1, by go_num, by omega, by rw [HAP.out], HT, HQ.out⟩, by simp [intOf]; omega⟩
      · have d3 : wr.cell? ⟨g, off + k * 2 + 1, none⟩ = some (.string T) := by rw [hT]; exact d2
        clear d2
        have hx0 : ¬ 0 < x := by omega
        clear hT q1 q2 q3
        go_wp2_with fail
        exact ⟨⟨k + 1, by go_num, by omega, by rw [HAP.out], HT, HQ.out⟩, by simp [intOf]; omega⟩
      · have d3 : wr.cell? ⟨g, off + k * 2 + 1, none⟩ = some (.string T) := by rw [hT]; exact d2
        clear d2
        have hx0 : ¬ x < 4 := by omega
        clear hT q1 q2 q3
        go_wp2_with fail
        exact ⟨⟨k + 1, by go_num, by omega, by rw [HAP.out], HT, HQ.out⟩, by simp [intOf]; omega⟩
    · have hk : k = n := by omega
      subst hk
      have hno : ¬ (k : Int) < (k : Int) := by omega
      rw [HEND.out]
      clear hq
      go_wp2_with fail
      go_ret
      exact ⟨rfl, HQ.out⟩

end Pr
end Go.Proofs.YtjloibgjnnknnaaDoor
