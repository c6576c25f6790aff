/- A builder's byte; quotes doubled; a run between quotes. A literal's text as it stands in a pattern's text. -/
import Derived.Test.YtglljkbpdbnhaaaGreatDoorRows
import Derived.Test.YtglljkbpdbnhaaaGreatDoorMA
import Derived.Test.YtglljkbpdbnhaaaGreatDoorMB
import Derived.Test.YtglljkbpdbnhaaaGreatDoorMC
import Derived.Test.YtglljkbpdbnhaaaGreatDoorMG
import Derived.Test.YtglljkbpdbnhaaaGreatDoorMO
import Derived.Test.YtglljkbpdbnhaaaGreatDoorMBP
import Derived.Test.YtglljkbpdbnhaaaGreatDoorMN
import Derived.Shelf.GgClosure.StringsRunes
set_option linter.unusedVariables false
set_option linter.unusedSimpArgs false
namespace Go.Proofs.YtglljkbpdbnhaaaGreatDoor
open Go.RowKit
namespace Bl
theorem Is.byte {B b : Nat} {l : List UInt8} {c : UInt8} {w : World} (h : Is B b (Lib.byteCells l ++ [.int .u8 ((c.toNat : Nat) : Int)]) w) : Is B b (Lib.byteCells (l ++ [c])) w := by
  rw [Lib.byteCells_append]
  exact h
end Bl
namespace Pg
open Pt Um

/-- Each quote doubled, in bytes. -/
def dblB (l : List UInt8) : List UInt8 := l.flatMap fun c => if c = 39 then [39, 39] else [c]
theorem dblB_cons (c : UInt8) (r : List UInt8) : dblB (c :: r) = (if c = 39 then [39, 39] else [c]) ++ dblB r := rfl
theorem dblB_app (a b : List UInt8) : dblB (a ++ b) = dblB a ++ dblB b := by simp [dblB]
theorem dblB_none (l : List UInt8) (h : ∀ c ∈ l, c ≠ 39) : dblB l = l := by
  induction l with
  | nil => rfl
  | cons c r ih =>
    rw [dblB_cons, if_neg (h c List.mem_cons_self), ih fun d hd => h d (List.mem_cons_of_mem _ hd)]; rfl
theorem count_none (l : List UInt8) (h : l.count 39 = 0) : dblB l = l := dblB_none l fun c hc e => by
  subst e
  have := List.count_pos_iff.2 hc
  omega
/-- The first quote. -/
theorem first_at (l : List UInt8) (h : 0 < l.count 39) : ∃ i : Nat, Lib.indexByte l 39 = i ∧ i < l.length ∧ dblB l = l.take i ++ [39, 39] ++ dblB (l.drop (i + 1)) ∧ (l.drop (i + 1)).count 39 + 1 = l.count 39 := by
  induction l with
  | nil => simp at h
  | cons c r ih =>
    by_cases hc : c = 39
    · subst hc
      refine ⟨0, rfl, by simp, by rw [dblB_cons, if_pos rfl]; rfl, by simp⟩
    · have hr : 0 < r.count 39 := by
        rw [List.count_cons_of_ne hc] at h
        exact h
      obtain ⟨i, h1, h2, h3, h4⟩ := ih hr
      refine ⟨i + 1, ?_, by simp; omega, ?_, ?_⟩
      · unfold Lib.indexByte
        rw [if_neg (by simpa using hc), h1]
        have : ((i : Int) == -1) = false := by rw [beq_eq_false_iff_ne]; omega
        rw [this]; simp
      · rw [dblB_cons, if_neg hc, h3]; simp
      · rw [List.drop_succ_cons, h4, List.count_cons_of_ne hc]
theorem dblB_len (l : List UInt8) : (dblB l).length ≤ 2 * l.length := by
  induction l with
  | nil => simp [dblB]
  | cons c r ih => rw [dblB_cons, List.length_append]; split <;> simp <;> omega
theorem extract_data (s : ByteArray) (a b : Nat) : (s.extract a b).data.toList = (s.data.toList.drop a).take (b - a) := by
  rw [ByteArray.data_extract, Array.toList_extract, List.extract_eq_take_drop]

/-- A run as literals, in bytes. -/
def qtB (l : List UInt8) : List UInt8 := if Lib.trimB l 39 = [] then dblB l else 39 :: dblB l ++ [39]
end Pg
end Go.Proofs.YtglljkbpdbnhaaaGreatDoor

set_option linter.unusedVariables false
set_option linter.unusedSimpArgs false
namespace Go.Proofs.YtglljkbpdbnhaaaGreatDoor
open Go.RowKit
namespace Pg
open Pt Um

abbrev Vl (cs : List Int) : Prop := ∀ c ∈ cs, vld c = true
theorem Vl.cons {c : Int} {r : List Int} (h : Vl (c :: r)) : vld c = true ∧ Vl r := ⟨h c List.mem_cons_self, fun d hd => h d (List.mem_cons_of_mem _ hd)⟩
theorem joinL_cons (c : Int) (r : List Int) : joinL (c :: r) = one c ++ joinL r := rfl
theorem joinL_app (a b : List Int) : joinL (a ++ b) = joinL a ++ joinL b := by unfold joinL; exact List.flatMap_append
theorem one_vld {c : Int} (h : vld c = true) : one c = enc c := by unfold one; rw [if_pos h]
theorem encL_one {c : Int} (h : vld c = true) : encL c = one c := by unfold encL; rw [encB_list c h, one_vld h]
theorem joinL_encL (cs : List Int) (h : Vl cs) : cs.flatMap encL = joinL cs := by
  induction cs with
  | nil => rfl
  | cons c r ih => rw [List.flatMap_cons, joinL_cons, encL_one h.cons.1, ih h.cons.2]
theorem one_quote : one 39 = [39] := by decide +kernel
theorem enc_no39 {c : Int} (h : vld c = true) (h9 : c ≠ 39) : ∀ b ∈ one c, b ≠ 39 := by
  rw [one_vld h]
  have hb := (vld_iff c).1 h
  by_cases h1 : c < 128
  · rw [enc1 c hb.1 h1]
    intro b hb2 e
    simp at hb2
    subst hb2
    have := congrArg UInt8.toNat e
    rw [u8_nat _ (by omega)] at this
    have h39 : (39 : UInt8).toNat = 39 := rfl
    rw [h39] at this
    omega
  · intro b hb2 e
    subst e
    obtain ⟨i, hi, he⟩ := List.mem_iff_getElem.1 hb2
    have hby : byt (enc c) i = 39 := by
      unfold byt
      rw [List.getD_eq_getElem?_getD, List.getElem?_eq_getElem hi, he]; rfl
    by_cases h0 : i = 0
    · subst h0
      have : 128 ≤ byt (enc c) 0 := by
        rcases (show c < 2048 ∨ 2048 ≤ c by omega) with h2 | h2
        · rw [enc2 c (by omega) h2]
          unfold byt
          show 128 ≤ (UInt8.ofNat (192 + c.toNat / 64)).toNat
          rw [u8_nat _ (by omega)]; omega
        · rcases (show c < 65536 ∨ 65536 ≤ c by omega) with h3 | h3
          · rw [enc3 c h2 h3 h]
            unfold byt
            show 128 ≤ (UInt8.ofNat (224 + c.toNat / 4096)).toNat
            rw [u8_nat _ (by omega)]; omega
          · rw [enc4 c h3 h]
            unfold byt
            show 128 ≤ (UInt8.ofNat (240 + c.toNat / 262144)).toNat
            rw [u8_nat _ (by omega)]; omega
      omega
    · have := enc_cont c h i (by omega) hi
      omega
theorem dblB_join (cs : List Int) (h : Vl cs) : dblB (joinL cs) = joinL (dbl cs) := by
  induction cs with
  | nil => rfl
  | cons c r ih =>
    rw [joinL_cons, dblB_app, ih h.cons.2, dbl_cons, joinL_app]
    congr 1
    by_cases h9 : c = 39
    · subst h9
      rw [if_pos rfl, one_quote]
      decide +kernel
    · rw [if_neg h9, dblB_none _ (enc_no39 h.cons.1 h9), joinL_cons]
      simp [joinL]
theorem dw_nil {α : Type} (p : α → Bool) (l : List α) : l.dropWhile p = [] ↔ ∀ x ∈ l, p x = true := by
  induction l with
  | nil => simp
  | cons x r ih =>
    rw [List.dropWhile_cons]
    split
    · rename_i h
      rw [ih]; simp [h]
    · rename_i h
      constructor
      · intro e; cases e
      · intro e; exact absurd (e x List.mem_cons_self) h
theorem dw_head {α : Type} (p : α → Bool) (l : List α) {x : α} {r : List α} (h : l.dropWhile p = x :: r) : p x = false := by
  induction l with
  | nil => cases h
  | cons y t ih =>
    rw [List.dropWhile_cons] at h
    split at h
    · exact ih h
    · rename_i hy
      cases h
      simpa using hy
theorem trimB_nil (l : List UInt8) : Lib.trimB l 39 = [] ↔ ∀ b ∈ l, b = 39 := by
  unfold Lib.trimB Lib.trimLeftB
  rw [dw_nil]
  unfold Lib.trimRightB
  constructor
  · intro h
    cases hd : l.reverse.dropWhile (· == 39) with
    | nil =>
      have := (dw_nil _ _).1 hd
      intro b hb
      have := this b (List.mem_reverse.2 hb)
      simpa using this
    | cons x r =>
      have h1 := dw_head _ _ hd
      have h2 := h x (by rw [hd]; simp)
      rw [h1] at h2
      cases h2
  · intro h b hb
    rw [List.mem_reverse] at hb
    have hb2 := List.dropWhile_sublist (p := (· == (39 : UInt8))) (l := l.reverse) |>.subset hb
    have := h b (List.mem_reverse.1 hb2)
    simp [this]
theorem all39_join (cs : List Int) (h : Vl cs) : (∀ b ∈ joinL cs, b = 39) ↔ cs.all (· == 39) = true := by
  induction cs with
  | nil => simp [joinL]
  | cons c r ih =>
    rw [joinL_cons, List.all_cons, Bool.and_eq_true, ← ih h.cons.2]
    constructor
    · intro k
      refine ⟨?_, fun b hb => k b (List.mem_append_right _ hb)⟩
      by_cases h9 : c = 39
      · simp [h9]
      · have hne := enc_ne c [] h.cons.1
        rw [List.append_nil, ← one_vld h.cons.1] at hne
        obtain ⟨b, t, e⟩ := List.exists_cons_of_ne_nil hne
        have hb : b ∈ one c := by rw [e]; exact List.mem_cons_self
        exact absurd (k b (List.mem_append_left _ hb)) (enc_no39 h.cons.1 h9 b hb)
    · rintro ⟨k1, k2⟩ b hb
      rcases List.mem_append.1 hb with hb | hb
      · have : c = 39 := by simpa using k1
        subst this
        rw [one_quote] at hb
        simpa using hb
      · exact k2 b hb
theorem qtB_join (cs : List Int) (h : Vl cs) : qtB (joinL cs) = joinL (fl cs) := by
  unfold qtB fl
  by_cases k : cs.all (· == 39) = true
  · rw [if_pos ((trimB_nil _).2 ((all39_join cs h).2 k)), if_pos k, dblB_join cs h]
  · rw [if_neg (fun e => k ((all39_join cs h).1 ((trimB_nil _).1 e))), if_neg k, dblB_join cs h, show (39 :: dbl cs ++ [39] : List Int) = [39] ++ dbl cs ++ [39] from rfl, joinL_app, joinL_app, show joinL [39] = [39] from one_quote]
    rfl

/-- The place of the first character that is not so. -/
theorem idx_join (p : Nat → Bool) : ∀ (cs : List Int) (s : ByteArray) (pos f : Nat), Vl cs → s.data.toList.drop pos = joinL cs → pos ≤ s.size → cs.length ≤ f →
    Lib.idxFuncFrom p false s f pos = if (cs.dropWhile fun c => p c.toNat) = [] then -1 else ((pos + (joinL (cs.takeWhile fun c => p c.toNat)).length : Nat) : Int) := by
  intro cs
  induction cs with
  | nil =>
    intro s pos f _ hd hp _
    have hps : ¬ pos < s.size := by
      intro h
      have := congrArg List.length hd
      rw [List.length_drop, size_list] at this
      simp [joinL] at this
      omega
    rw [Lib.idxFuncFrom_end _ _ _ _ _ hps]
    simp
  | cons c r ih =>
    intro s pos f hv hd hp hf
    obtain ⟨f, rfl⟩ : ∃ g, f = g + 1 := ⟨f - 1, by simp at hf; omega⟩
    have hne := enc_ne c [] hv.cons.1
    have hol : 1 ≤ (one c).length := by rw [one_vld hv.cons.1]; exact (enc_length c hv.cons.1).1
    have hlen := congrArg List.length hd
    rw [List.length_drop, size_list, joinL_cons, List.length_append] at hlen
    have hps : pos < s.size := by omega
    have hdec : Utf8.decode s pos = (c.toNat, (one c).length) := by
      rw [decode_dec, hd, joinL_cons, one_vld hv.cons.1, dec_enc c _ hv.cons.1]
    unfold Lib.idxFuncFrom
    rw [if_pos hps, hdec]
    simp only
    by_cases hpc : p c.toNat = true
    · rw [if_neg (by rw [hpc]; simp), ih s (pos + (one c).length) f hv.cons.2 (by rw [← List.drop_drop, hd, joinL_cons, List.drop_left]) (by omega) (by simpa using hf)]
      rw [List.dropWhile_cons, if_pos hpc, List.takeWhile_cons, if_pos hpc, joinL_cons, List.length_append]
      split
      · rfl
      · rw [Nat.add_assoc]
    · have hpf : p c.toNat = false := by simpa using hpc
      rw [if_pos hpf, List.dropWhile_cons, if_neg hpc, if_neg (by simp), List.takeWhile_cons, if_neg hpc]
      simp [joinL]
theorem joinL_lenb (cs : List Int) (h : Vl cs) : cs.length ≤ (joinL cs).length := by
  induction cs with
  | nil => simp
  | cons c r ih =>
    have := ih h.cons.2
    have hol : 1 ≤ (one c).length := by rw [one_vld h.cons.1]; exact (enc_length c h.cons.1).1
    rw [joinL_cons, List.length_append, List.length_cons]; omega
theorem trimF_join (p : Nat → Bool) (cs : List Int) (s : ByteArray) (hs : s.data.toList = joinL cs) (h : Vl cs) : Lib.trimLeftF p s = ⟨(joinL (cs.dropWhile fun c => p c.toNat)).toArray⟩ := by
  have hz : s.size = (joinL cs).length := by rw [← size_list, hs]
  have hl := joinL_lenb cs h
  have e := idx_join p cs s 0 s.size h (by rw [List.drop_zero, hs]) (Nat.zero_le _) (by omega)
  unfold Lib.trimLeftF Lib.idxFunc
  rw [e]
  have hsp : joinL cs = joinL (cs.takeWhile fun c => p c.toNat) ++ joinL (cs.dropWhile fun c => p c.toNat) := by rw [← joinL_app, List.takeWhile_append_dropWhile]
  by_cases h2 : (cs.dropWhile fun c => p c.toNat) = []
  · rw [if_pos h2, if_pos rfl, h2]; rfl
  · rw [if_neg h2, if_neg (by omega)]
    apply ba_ext
    rw [show (((0 + (joinL (cs.takeWhile fun c => p c.toNat)).length : Nat) : Int)).toNat = (joinL (cs.takeWhile fun c => p c.toNat)).length by omega, extract_list, hs, hsp, List.drop_left]
theorem tw_congr {α : Type} {p q : α → Bool} {l : List α} (h : ∀ x ∈ l, p x = q x) : l.dropWhile p = l.dropWhile q := by
  induction l with
  | nil => rfl
  | cons x r ih =>
    rw [List.dropWhile_cons, List.dropWhile_cons, h x List.mem_cons_self, ih fun y hy => h y (List.mem_cons_of_mem _ hy)]
theorem vl_nat {cs : List Int} (h : Vl cs) (f : Int → Bool) : (cs.dropWhile fun c => f ((c.toNat : Nat) : Int)) = cs.dropWhile f := tw_congr fun x hx => by
  have := (vld_iff x).1 (h x hx)
  rw [show ((x.toNat : Nat) : Int) = x by omega]
end Pg
end Go.Proofs.YtglljkbpdbnhaaaGreatDoor
