/- What stands between the dividers. -/
import Derived.Test.YtjloibgjnnknnaaDoorRows
import Derived.Test.YtjloibgjnnknnaaDoorInts
import Derived.Test.YtjloibgjnnknnaaDoorUtfM
import Derived.Test.YtjloibgjnnknnaaDoorEls
import Derived.Test.YtjloibgjnnknnaaDoorSgs
import Derived.Test.YtjloibgjnnknnaaDoorPatM
import Derived.Test.YtjloibgjnnknnaaDoorPatN
import Derived.Test.YtjloibgjnnknnaaDoorPgA
import Derived.Test.YtjloibgjnnknnaaDoorPgB
import Derived.Test.YtjloibgjnnknnaaDoorPgC
set_option linter.unusedVariables false
set_option linter.unusedSimpArgs false
namespace Go.Proofs.YtjloibgjnnknnaaDoor
open Go.RowKit
namespace Pg
open Pt Um

/-- Lists of signs, side by side in memory. -/
structure Sl where
  a : Option Addr
  n : Nat
  c : Nat
  zs : List (Int × Int)
def Sl.v (s : Sl) : Value := .slice s.a s.n s.c
theorem Sl.one (s : Sl) : (Sl.v s).oneCell' = true := rfl
def Sl.ok (w : World) (s : Sl) : Prop := Sg.LstP w s.v s.zs ∧ s.zs.length = s.n
theorem elemGs : Elem 73 71 (.slice none 0 0) 24 := ⟨by kernel_rfl, Tryd.underlying71, rfl, by omega⟩

def ntD (x : Int × Int) : Bool := !isD x
def splitD : List (Int × Int) → List (List (Int × Int))
  | [] => [[]]
  | x :: r => if isD x = true then [] :: splitD r else match splitD r with
    | [] => [[x]]
    | a :: b => (x :: a) :: b
theorem splitD_end (l : List (Int × Int)) (h : ah ntD l = l.length) : splitD l = [l] := by
  induction l with
  | nil => rfl
  | cons x r ih =>
    unfold ah at h
    rw [List.takeWhile_cons] at h
    split at h
    · rename_i hx
      have hx : isD x = false := by simpa [ntD] using hx
      have := ih (by unfold ah; simpa using h)
      unfold splitD
      rw [if_neg (by rw [hx]; simp), this]
    · simp at h
theorem splitD_cut (l : List (Int × Int)) (h : ah ntD l < l.length) : splitD l = l.take (ah ntD l) :: splitD (l.drop (ah ntD l + 1)) := by
  induction l with
  | nil => simp at h
  | cons x r ih =>
    unfold ah at h ⊢
    rw [List.takeWhile_cons] at h ⊢
    split at h
    · rename_i hx
      have hx' : isD x = false := by simpa [ntD] using hx
      have := ih (by unfold ah; simpa using h)
      unfold ah at this
      rw [if_pos hx, splitD, if_neg (by rw [hx']; simp), this]
      simp
    · rename_i hx
      have hx' : isD x = true := by simpa [ntD] using hx
      rw [if_neg hx, splitD, if_pos hx']
      simp

set_option maxHeartbeats 4000000 in
theorem halves_any (v : Value) (l : List (Int × Int)) (w : World) (hv : Sg.LstP w v l) (hl : l.length ≤ 1000000) :
    Calls Tryd.prog 32 #[v] w fun e w' => ∃ (u : Value) (ls : List Sl), e = .returned u ∧ GOwn 73 Sl.v w' w.heap.size u ls ∧ (∀ s ∈ ls, s.ok w) ∧ ls.map Sl.zs = splitD l ∧ Q w w' := by
  obtain ⟨n, hn⟩ : ∃ n, n = l.length := ⟨_, rfl⟩
  have HN := Lib.hid hn
  have HV := Lib.hid hv
  obtain ⟨a, cp, rfl, hc1, hc2⟩ := hv.form0 hn.symm
  rw [← hn] at hl
  clear hn hv
  go_enter Tryd.func32, Tryd.ntmps32
  go_wp2_with fail
  go_loopw [0, 3] (fun x u wr => ∃ (k m : Nat) (ls : List Sl) (ad : Option Addr) (c : Nat), x = .slice ad m c ∧ k + m = n ∧ Hid (Sg.LstP w (.slice ad m c) (l.drop k)) ∧ GOwn 73 Sl.v wr w.heap.size u ls ∧ Hid (ls.map Sl.zs ++ splitD (l.drop k) = splitD l) ∧ ls.length ≤ k ∧ (∀ s ∈ ls, s.ok w) ∧ Q w wr) (fun x _ _ => (lenOf x))
  case atStart => exact ⟨0, n, [], a, cp, rfl, by omega, by rw [List.drop_zero]; exact HV, GOwn.nil _ _ _ _, Lib.hid (by rw [List.drop_zero]; rfl), by simp, by simp, Q.refl _⟩
  case round =>
    obtain ⟨k, m, ls, ad, c, rfl, hkm, HL, ho, HJ, hok, hall, hq⟩ := hrel
    have hqs := hq.le
    have HALL := Lib.hid hall
    clear hall
    have HLL := Lib.hid (show (l.drop k).length = m by rw [List.length_drop, ← HN.out]; omega)
    obtain ⟨L, hL⟩ : ∃ L, L = l.drop k := ⟨_, rfl⟩
    have HD := Lib.hid (fun (z : Nat) => (show L.drop z = l.drop (k + z) by rw [hL, List.drop_drop]))
    rw [← hL] at HL HLL HJ
    clear hL
    have hfm := HL.out.form0 HLL.out
    have hcc : m ≤ c ∧ c ≤ maxLen := by obtain ⟨_, _, hv2, h1, h2⟩ := hfm; cases hv2; exact ⟨h1, h2⟩
    unfold maxLen at hcc
    clear hfm
    have hAH := fun w hv => ahead_any 45 ntD notD_any enters45 (.slice ad m c) L w hv (by rw [HLL.out]; omega)
    have hAle := ah_le ntD L
    have HSE := Lib.hid (splitD_end L)
    have HSC := Lib.hid (splitD_cut L)
    obtain ⟨A, hA⟩ : ∃ A, A = ah ntD L := ⟨_, rfl⟩
    rw [← hA] at hAH hAle HSE HSC
    rw [HLL.out] at hAle HSE HSC
    have HAH := Lib.hid hAH
    clear hA hAH
    have HTK := Lib.hid (show (Sl.mk ad A c (L.take A)).ok w from ⟨HL.out.take A (by rw [HLL.out]; exact hAle), by simp [HLL.out]; omega⟩)
    go_wp2_with fail
    refine (HAH.out _ (HL.out.q hq)).mono ?_
    rintro e w2 ⟨rfl, hq2⟩
    have ho2 := ho.q hq2
    have hq22 := hq.trans hq2
    have hqs2 := hq22.le
    go_wp2_with (at_builtin; refine gpush elemGs ho2 rfl _ _ rfl (Sl.mk ad A c (L.take A)) rfl (by rfl) (by rfl) (by omega) hqs2 ?_)
    intro v' w4 ho4 hg4 hat4
    have hq4 := hq22.grown hg4 (fun j h => (ho2.lt j h).1)
    have HA4 := Lib.hid (show ∀ s ∈ ls ++ [Sl.mk ad A c (L.take A)], s.ok w from fun s hs => by
      rcases List.mem_append.1 hs with hs | hs
      · exact HALL.out s hs
      · rw [List.mem_singleton.1 hs]; exact HTK.out)
    by_cases hAm : A = m
    · have HF := Lib.hid (show (ls ++ [Sl.mk ad A c (L.take A)]).map Sl.zs = splitD l by
        rw [← HJ.out, HSE.out hAm]
        simp [List.take_of_length_le (show L.length ≤ A by rw [HLL.out]; omega)])
      subst hAm
      go_wp2_with fail
      go_ret
      exact ⟨_, rfl, _, ho4, HA4.out, HF.out, hq4⟩
    · have hlt : A < m := by omega
      have hlti : (A : Int) + 1 ≤ (m : Int) := by omega
      have hAb : ((A : Int) == (m : Int)) = false := beq_eq_false_iff_ne.2 (by omega)
      have HF := Lib.hid (show (ls ++ [Sl.mk ad A c (L.take A)]).map Sl.zs ++ splitD (L.drop (A + 1)) = splitD l by
        rw [← HJ.out, HSC.out hlt]
        simp)
      have hlen : (ls ++ [Sl.mk ad A c (L.take A)]).length ≤ k + (A + 1) := by simp; omega
      rcases HL.out.rest HLL.out (show A + 1 ≤ m by omega) with ⟨g3, off3, ha, hlt5, hcc2, hcm, hdp⟩ | ⟨hkn, hcn, hdp⟩ | ⟨ad3, ha, hkn, hcc2, hcm, hdp⟩
      · cases ha
        have HDP := Lib.hid hdp
        clear hdp
        go_wp2_with fail
        exact ⟨⟨k + (A + 1), m - (A + 1), _, _, _, rfl, by omega, Lib.hid (by have h := HDP.out; rw [HD.out] at h; exact h), ho4, Lib.hid (by have h := HF.out; rw [HD.out] at h; exact h), hlen, HA4.out, hq4⟩, by show m - (A + 1) < m; omega⟩
      · subst hcn hkn
        have HDP := Lib.hid hdp
        clear hdp
        go_wp2_with fail
        exact ⟨⟨k + (A + 1), 0, _, _, _, rfl, by omega, Lib.hid (by have h := HDP.out; rw [HD.out] at h; rw [h]; exact Sg.LstP.nil _ _ _ (by unfold maxLen; omega) (fun _ => rfl)), ho4, Lib.hid (by have h := HF.out; rw [HD.out] at h; exact h), hlen, HA4.out, hq4⟩, by show 0 < A + 1; omega⟩
      · subst hkn
        cases ha
        have HDP := Lib.hid hdp
        clear hdp
        go_wp2_with fail
        exact ⟨⟨k + (A + 1), 0, _, _, _, rfl, by omega, Lib.hid (by have h := HDP.out; rw [HD.out] at h; rw [h]; exact Sg.LstP.nil _ _ _ (by unfold maxLen; omega) (fun h => nomatch h)), ho4, Lib.hid (by have h := HF.out; rw [HD.out] at h; exact h), hlen, HA4.out, hq4⟩, by show 0 < A + 1; omega⟩

end Pg
end Go.Proofs.YtjloibgjnnknnaaDoor
