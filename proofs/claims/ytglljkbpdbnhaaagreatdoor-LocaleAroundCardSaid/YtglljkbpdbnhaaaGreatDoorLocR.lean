/- Where the minus stands in an affix; an affix as it stands around a number. -/
import Derived.Test.YtglljkbpdbnhaaaGreatDoorRows
import Derived.Test.YtglljkbpdbnhaaaGreatDoorMA
import Derived.Test.YtglljkbpdbnhaaaGreatDoorMB
import Derived.Test.YtglljkbpdbnhaaaGreatDoorMBP
import Derived.Test.YtglljkbpdbnhaaaGreatDoorLocM
import Derived.Test.YtglljkbpdbnhaaaGreatDoorLocB
import Derived.Test.YtglljkbpdbnhaaaGreatDoorLocC
import Derived.Test.YtglljkbpdbnhaaaGreatDoorLocP
import Derived.Test.YtglljkbpdbnhaaaGreatDoorLocQ
import Derived.Deep.QuietTactic
import Derived.BigQuiet
import Derived.IntWalk
set_option linter.unusedVariables false
set_option linter.unusedSimpArgs false
namespace Go.Proofs.YtglljkbpdbnhaaaGreatDoor
open Go.RowKit
namespace Lo
open Um Cm Gm


/-- Where the minus stands first. -/
def mPl : List Pc.E → Nat → Int
  | [], _ => -1
  | p :: r, k => if p = (3, []) then (k : Int) else mPl r (k + 1)
theorem mPl_at {l : List Pc.E} {k : Nat} (hk : k < l.length) : mPl (l.drop k) k = if l.getD k (0, []) = (3, []) then (k : Int) else mPl (l.drop (k + 1)) (k + 1) := by
  rw [List.drop_eq_getElem_cons hk]
  have e : l.getD k (0, []) = l[k] := by rw [List.getD_eq_getElem?_getD, List.getElem?_eq_getElem hk]; rfl
  rw [e]; rfl
set_option maxRecDepth 100000 in
set_option maxHeartbeats 2000000 in
theorem minus_any (v : Value) (l : List Pc.E) (w : World) (hv : Pc.LstP w v l) (hx : l.length ≤ 1000000) (hm : ∀ x ∈ l, x.1 = 3 → x.2 = []) :
    Calls Tryz.prog 91 #[v, .agg #[.int .i64 3, .string ⟨#[]⟩]] w fun e w' => e = .returned (.int .i64 (mPl l 0)) ∧ Q w w' := by
  obtain ⟨n, hn⟩ : ∃ n, n = l.length := ⟨_, rfl⟩
  have HN := Lib.hid hn
  have HV := Lib.hid hv
  have HM := Lib.hid hm
  obtain ⟨a, cp, rfl, hc1, hc2⟩ := hv.form0 hn.symm
  rw [← hn] at hx
  obtain ⟨R, hR⟩ : ∃ R, R = mPl l 0 := ⟨_, rfl⟩
  have HR := Lib.hid (show R = mPl (l.drop 0) 0 by rw [hR]; rfl)
  rw [← hR]
  obtain ⟨z, hz⟩ : ∃ z, z = w.alloc (.cells #[.int .i64 3, .string ⟨#[]⟩] 130) := ⟨_, rfl⟩
  have HQZ := Lib.hid (show Q w z by rw [hz]; exact (Q.refl w).alloc _)
  have HBZ := Lib.hid (show Bk z w.heap.size 130 [.int .i64 3, .string ⟨#[]⟩] by rw [hz]; exact Bk.new _ _ _)
  clear hn hv hR hm
  go_enter Tryz.func91, Tryz.ntmps91
  go_wp2_with fail
  rw [← hz]
  clear hz
  generalize w.heap.size = bz at *
  go_loopw [8] (fun i wr => ∃ k : Nat, i = .int .i64 k ∧ k ≤ n ∧ Hid (R = mPl (l.drop k) k) ∧ Q z wr) (fun i _ => n - (intOf i).toNat)
  case atStart => exact ⟨0, rfl, by omega, HR, Q.refl _⟩
  case round =>
    obtain ⟨k, rfl, hk, HK, hq⟩ := hrel
    have HQ := Lib.hid hq
    by_cases hlt : k < n
    · have hlti : (k : Int) < (n : Int) := by omega
      have hkl : k < l.length := by have := HN.out; omega
      obtain ⟨g, off, cap, hvv, hg, _, _, c1, c2⟩ := (HV.out.q (HQZ.out.trans hq)).cellOf HN.out.symm hlt
      cases hvv
      have hb := HBZ.out.q hq
      have b0 := hb.cell 0 rfl
      have b1 := hb.cell 1 rfl
      have hp := mPl_at hkl
      have hmm : (l.getD k (0, [])).1 = 3 → (l.getD k (0, [])).2 = [] := HM.out _ (by rw [List.getD_eq_getElem?_getD, List.getElem?_eq_getElem hkl]; exact List.getElem_mem _)
      have hKR := HK.out
      rw [hp] at hKR
      unfold Pc.txt at c2
      obtain ⟨x, hxg⟩ : ∃ x, x = l.getD k (0, []) := ⟨_, rfl⟩
      rw [← hxg] at c1 c2 hKR hmm
      obtain ⟨xk, xt⟩ := x
      simp only at c1 c2 hmm
      clear hp hxg hb hkl hq
      by_cases h3 : xk = 3
      · subst h3
        have hxt := hmm rfl
        subst hxt
        have HF := Lib.hid (show R = k by rw [hKR]; exact if_pos rfl)
        have h1 : (⟨([] : List UInt8).toArray⟩ : ByteArray) = ⟨#[]⟩ := rfl
        rw [h1] at c2
        have h2 : ((⟨#[]⟩ : ByteArray).toList == (⟨#[]⟩ : ByteArray).toList) = true := by simp
        clear hKR hmm h1
        go_wp2_with fail
        go_quiet (fail)
        go_wp2_with fail
        go_ret
        rw [HF.out]
        exact ⟨rfl, HQZ.out.trans (HQ.out.drewN _)⟩
      · have HF := Lib.hid (show R = mPl (l.drop (k + 1)) (k + 1) by rw [hKR]; exact if_neg (fun e => h3 (congrArg Prod.fst e)))
        have h3b : (xk == 3) = false := beq_eq_false_iff_ne.2 h3
        have h3c : ((3 : Int) == xk) = false := by rw [beq_eq_false_iff_ne]; exact fun e => h3 e.symm
        generalize (⟨xt.toArray⟩ : ByteArray) = T at *
        clear hKR hmm h3
        go_wp2_with fail
        go_quiet (fail)
        go_wp2_with fail
        exact ⟨⟨k + 1, by go_num, by omega, HF, HQ.out.drewN _⟩, by simp [intOf]; omega⟩
    · have hnlt : ¬ (k : Int) < (n : Int) := by omega
      have HF := Lib.hid (show R = -1 by rw [HK.out, List.drop_eq_nil_of_le (by have := HN.out; omega)]; rfl)
      go_wp2_with fail
      go_ret
      rw [HF.out]
      exact ⟨rfl, HQZ.out.trans HQ.out⟩

end Lo
end Go.Proofs.YtglljkbpdbnhaaaGreatDoor
