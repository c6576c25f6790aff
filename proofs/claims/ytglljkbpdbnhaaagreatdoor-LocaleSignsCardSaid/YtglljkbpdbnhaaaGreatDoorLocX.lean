/- Records made of numbers: what holds of them; a record as the program has it. -/
import Derived.Test.YtglljkbpdbnhaaaGreatDoorRows
import Derived.Test.YtglljkbpdbnhaaaGreatDoorMA
import Derived.Test.YtglljkbpdbnhaaaGreatDoorMB
import Derived.Test.YtglljkbpdbnhaaaGreatDoorMC
import Derived.Test.YtglljkbpdbnhaaaGreatDoorMBP
import Derived.Test.YtglljkbpdbnhaaaGreatDoorMBS
import Derived.Test.YtglljkbpdbnhaaaGreatDoorLocM
import Derived.Test.YtglljkbpdbnhaaaGreatDoorLocB
import Derived.Test.YtglljkbpdbnhaaaGreatDoorLocF
import Derived.Test.YtglljkbpdbnhaaaGreatDoorLocL
import Derived.Test.YtglljkbpdbnhaaaGreatDoorLocU
import Derived.Test.YtglljkbpdbnhaaaGreatDoorLocW
set_option linter.unusedVariables false
set_option linter.unusedSimpArgs false
namespace Go.Proofs.YtglljkbpdbnhaaaGreatDoor
open Go.RowKit
namespace Ro
open Um Cm Gm Lo


theorem arr6 {cs : Array Value} (h : cs.size = 6) : ∃ a b c d e f, cs = #[a, b, c, d, e, f] := by
  obtain ⟨l⟩ := cs
  match l, h with
  | [a, b, c, d, e, f], _ => exact ⟨a, b, c, d, e, f, rfl⟩
theorem ok_of {r : Lm.Rec} {X : Pt.Pat} (h : IsMk r X) : Lm.Ok r X := by
  obtain ⟨s, p, d, m, u, c, q, h1, h2, h3, h4, h5, h6, h7, rfl, rfl⟩ := h
  exact Lm.mk_ok h1 h2 h3 h4 h5 h6 h7
theorem new_mk {r : Lm.Rec} {X : Pt.Pat} (h : IsMk r X) (w : World) :
    Calls Tryz.prog 9 #[recV r] w fun e w' => ∃ g a b c d cl, e = .returned (.tuple #[.pointer (some ⟨g, 0, none⟩), Value.nilIface]) ∧ LB w' g r X a b c d cl ∧ SLst w' cl (Lm.clus r X) ∧ Q w w' := by
  refine new_ok r X w (ok_of h) ?_
  obtain ⟨s, p, d, m, u, c, q, h1, h2, h3, h4, h5, h6, h7, rfl, rfl⟩ := h
  exact par_all p h2
theorem rnew_mk {r : Lm.Rec} {X : Pt.Pat} (h : IsMk r X) (w : World) :
    Calls Tryz.prog 11 #[recV r] w fun e w' => ∃ a b c d, e = .returned (lV r X a b c d) ∧ LL w' X a b c d ∧ Q w w' := by
  refine new_any r X w ?_ ?_
  · obtain ⟨s, p, d, m, u, c, q, h1, h2, h3, h4, h5, h6, h7, rfl, rfl⟩ := h
    exact par_pat p h2
  · obtain ⟨s, p, d, m, u, c, q, h1, h2, h3, h4, h5, h6, h7, rfl, rfl⟩ := h
    have := pat_le p h2
    show (Lm.patB.getD p []).length ≤ 1000
    omega
theorem f_dig1 : ∀ s, s < 20 → (Lm.digs s).all (fun x => decide ((pcs x).length = 1) && decide (x.size ≤ 16)) = true := by decide +kernel
theorem one_of {l : List UInt8} (h : Lm.symB l = true) : (pcs (Lm.bs l)).length = 1 ∧ (Lm.bs l).size ≤ 16 := by
  refine ⟨?_, by rw [Lm.bs_size]; exact sym_len h⟩
  unfold Lm.symB at h
  rw [Bool.and_eq_true] at h
  have h2 := h.2
  rw [oneB_eq] at h2
  rw [pcs_length, Lm.bs_list]
  exact of_decide_eq_true h2
theorem sym_fact {r : Lm.Rec} {X : Pt.Pat} (h : IsMk r X) (i : Nat) (hi : i < 13) : ∃ x, (Lm.syms r)[i]? = some x ∧ x.size ≤ 16 ∧ ((i ≠ 11 ∨ 0 < X.pr) → Lm.sgn r x = i ∧ (pcs x).length = 1) := by
  have hO := ok_of h
  have hl : (Lm.syms r).length = 13 := rfl
  obtain ⟨x, hx⟩ : ∃ x, (Lm.syms r)[i]? = some x := ⟨_, List.getElem?_eq_getElem (by rw [hl]; exact hi)⟩
  have hp := Lm.plc_nodup (Lm.syms r) 0 i x hO.dis hx
  rw [Nat.zero_add] at hp
  have hs : 0 < x.size → Lm.sgn r x = i := fun hz => by unfold Lm.sgn; rw [if_neg (by omega)]; exact hp
  refine ⟨x, hx, ?_⟩
  by_cases h10 : i < 10
  · obtain ⟨s, p, d, m, u, c, q, h1, h2, h3, h4, h5, h6, h7, rfl, rfl⟩ := h
    have hd : x ∈ Lm.digs s := by
      have e : Lm.syms (Lm.mk s p d m u c q) = Lm.digs s ++ [Lm.bs (Lm.decL.getD d []), Lm.bs (Lm.mk s p d m u c q).grp, Lm.bs (Lm.minL.getD m [])] := rfl
      have hdl : (Lm.digs s).length = 10 := by unfold Lm.digs; simp
      rw [e, List.getElem?_append_left (by omega)] at hx
      exact List.mem_of_getElem? hx
    have hf := List.all_eq_true.1 (f_dig1 s h1) x hd
    simp only [Bool.and_eq_true, decide_eq_true_eq] at hf
    exact ⟨hf.2, fun _ => ⟨hs (Lm.dig_mem h1 hd).1, hf.1⟩⟩
  · rcases (show i = 10 ∨ i = 11 ∨ i = 12 by omega) with rfl | rfl | rfl
    · have e : x = Lm.bs r.dec := by have : (Lm.syms r)[10]? = some (Lm.bs r.dec) := rfl; rw [this] at hx; exact (Option.some.inj hx).symm
      have h1 := one_of hO.dec
      exact ⟨by rw [e]; exact h1.2, fun _ => ⟨hs (hO.ne 10 x hx (by omega)), by rw [e]; exact h1.1⟩⟩
    · have e : x = Lm.bs r.grp := by have : (Lm.syms r)[11]? = some (Lm.bs r.grp) := rfl; rw [this] at hx; exact (Option.some.inj hx).symm
      by_cases hpr : 0 < X.pr
      · have h1 := one_of (hO.grp1 hpr)
        have hz : 0 < x.size := by
          have h2 := hO.grp1 hpr
          unfold Lm.symB at h2
          rw [Bool.and_eq_true] at h2
          have h3 := h2.2
          unfold oneB at h3
          rw [e, Lm.bs_size]
          cases hg : r.grp with
          | nil => rw [hg] at h3; simp at h3
          | cons _ _ => simp
        exact ⟨by rw [e]; exact h1.2, fun _ => ⟨hs hz, by rw [e]; exact h1.1⟩⟩
      · have h0 := hO.grp0 hpr
        refine ⟨by rw [e, Lm.bs_size, h0]; simp, fun k => ?_⟩
        rcases k with k | k
        · exact absurd rfl k
        · exact absurd k hpr
    · have e : x = Lm.bs r.min := by have : (Lm.syms r)[12]? = some (Lm.bs r.min) := rfl; rw [this] at hx; exact (Option.some.inj hx).symm
      have h1 := one_of hO.min
      exact ⟨by rw [e]; exact h1.2, fun _ => ⟨hs (hO.ne 12 x hx (by omega)), by rw [e]; exact h1.1⟩⟩
theorem infoLR : (Tryz.prog.info? 32).map (·.size) = some 8 := by kernel_rfl
set_option maxRecDepth 100000 in
set_option maxHeartbeats 1000000 in
theorem of_any (r : Lm.Rec) (w : World) : Calls Tryz.prog 10 #[recV r] w fun e w' => e = .returned (recV r) ∧ Q w w' := by
  unfold recV
  generalize Lm.bs r.nam = s0 at *
  generalize Lm.bs r.pat = s1 at *
  generalize Lm.bs r.sys = s2 at *
  generalize Lm.bs r.dec = s3 at *
  generalize Lm.bs r.grp = s4 at *
  generalize Lm.bs r.min = s5 at *
  generalize Lm.bs r.per = s6 at *
  generalize Lm.bs r.cur = s7 at *
  obtain ⟨z, hz⟩ : ∃ z, z = (w.alloc (.cells #[.string s0, .string s1, .string s2, .string s3, .string s4, .string s5, .string s6, .string s7] 25)).alloc (.cells #[.string ⟨#[]⟩, .string ⟨#[]⟩, .string ⟨#[]⟩, .string ⟨#[]⟩, .string ⟨#[]⟩, .string ⟨#[]⟩, .string ⟨#[]⟩, .string ⟨#[]⟩] 32) := ⟨_, rfl⟩
  have HQZ := Lib.hid (show Q w z by rw [hz]; exact ((Q.refl w).alloc _).alloc _)
  have h1 : Bk z w.heap.size 25 [.string s0, .string s1, .string s2, .string s3, .string s4, .string s5, .string s6, .string s7] := by rw [hz]; exact (Bk.new w _ _).q ((Q.refl _).alloc _)
  have h2 : Bk z (w.heap.size + 1) 32 [.string ⟨#[]⟩, .string ⟨#[]⟩, .string ⟨#[]⟩, .string ⟨#[]⟩, .string ⟨#[]⟩, .string ⟨#[]⟩, .string ⟨#[]⟩, .string ⟨#[]⟩] := by rw [hz, ← size_al w (.cells #[.string s0, .string s1, .string s2, .string s3, .string s4, .string s5, .string s6, .string s7] 25)]; exact Bk.new _ _ _
  go_enter Tryz.func10, Tryz.ntmps10
  go_upto_region 1 with fail
  rw [← hz]
  clear hz
  have HW := Lib.hid (show w.heap.size ≤ w.heap.size + 1 by omega)
  obtain ⟨B, hB⟩ : ∃ B, B = w.heap.size + 1 := ⟨_, rfl⟩
  rw [← hB] at h2 HW ⊢
  clear hB
  obtain ⟨B1, hB1⟩ : ∃ B, B = w.heap.size := ⟨_, rfl⟩
  rw [← hB1] at h1 ⊢
  clear hB1
  have c0 := h1.cell 0 rfl
  have p0 := h2.cell 0 rfl
  have f0 := h2.free 0
  have c1 := h1.cell 1 rfl
  have p1 := h2.cell 1 rfl
  have f1 := h2.free 1
  have c2 := h1.cell 2 rfl
  have p2 := h2.cell 2 rfl
  have f2 := h2.free 2
  have c3 := h1.cell 3 rfl
  have p3 := h2.cell 3 rfl
  have f3 := h2.free 3
  have c4 := h1.cell 4 rfl
  have p4 := h2.cell 4 rfl
  have f4 := h2.free 4
  have c5 := h1.cell 5 rfl
  have p5 := h2.cell 5 rfl
  have f5 := h2.free 5
  have c6 := h1.cell 6 rfl
  have p6 := h2.cell 6 rfl
  have f6 := h2.free 6
  have c7 := h1.cell 7 rfl
  have p7 := h2.cell 7 rfl
  have f7 := h2.free 7
  have HFB := Lib.hid ((((((((h2.set 0 (.string s0)).set 1 (.string s1)).set 2 (.string s2)).set 3 (.string s3)).set 4 (.string s4)).set 5 (.string s5)).set 6 (.string s6)).set 7 (.string s7))
  have HFQ := Lib.hid (Q.setCell (Q.setCell (Q.setCell (Q.setCell (Q.setCell (Q.setCell (Q.setCell (Q.setCell HQZ.out (ad := ⟨B, 0, none⟩) HW.out (.string s0)) (ad := ⟨B, 1, none⟩) HW.out (.string s1)) (ad := ⟨B, 2, none⟩) HW.out (.string s2)) (ad := ⟨B, 3, none⟩) HW.out (.string s3)) (ad := ⟨B, 4, none⟩) HW.out (.string s4)) (ad := ⟨B, 5, none⟩) HW.out (.string s5)) (ad := ⟨B, 6, none⟩) HW.out (.string s6)) (ad := ⟨B, 7, none⟩) HW.out (.string s7))
  clear h1 h2
  go_wp2_with fail
  refine ret_bk rfl Tryz.underlying32 (by exact infoLR) rfl HFB.out rfl ⟨?_, HFQ.out⟩
  rfl

end Ro
end Go.Proofs.YtglljkbpdbnhaaaGreatDoor
