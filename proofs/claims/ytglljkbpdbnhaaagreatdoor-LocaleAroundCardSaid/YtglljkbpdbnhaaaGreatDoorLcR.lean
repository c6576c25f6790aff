/- What stands around a number, as the statement asks. -/
import Derived.Test.YtglljkbpdbnhaaaGreatDoorRows
import Derived.Test.YtglljkbpdbnhaaaGreatDoorMA
import Derived.Test.YtglljkbpdbnhaaaGreatDoorMB
import Derived.Test.YtglljkbpdbnhaaaGreatDoorMC
import Derived.Test.YtglljkbpdbnhaaaGreatDoorMF
import Derived.Test.YtglljkbpdbnhaaaGreatDoorMBP
import Derived.Test.YtglljkbpdbnhaaaGreatDoorMBS
import Derived.Test.YtglljkbpdbnhaaaGreatDoorLocM
import Derived.Test.YtglljkbpdbnhaaaGreatDoorLocB
import Derived.Test.YtglljkbpdbnhaaaGreatDoorLocF
import Derived.Test.YtglljkbpdbnhaaaGreatDoorLocL
import Derived.Test.YtglljkbpdbnhaaaGreatDoorLocU
import Derived.Test.YtglljkbpdbnhaaaGreatDoorLocW
import Derived.Test.YtglljkbpdbnhaaaGreatDoorLocX
import Derived.Test.YtglljkbpdbnhaaaGreatDoorLdR
import Derived.Test.YtglljkbpdbnhaaaGreatDoorLocP
import Derived.Test.YtglljkbpdbnhaaaGreatDoorLocR
import Derived.Test.YtglljkbpdbnhaaaGreatDoorLocS
import Derived.Test.YtglljkbpdbnhaaaGreatDoorLocV
import Derived.Test.YtglljkbpdbnhaaaGreatDoorLocOb
import Derived.Test.YtglljkbpdbnhaaaGreatDoorLocOc
import Derived.Deep.QuietTactic
import Derived.BigQuiet
set_option linter.unusedVariables false
set_option linter.unusedSimpArgs false
namespace Go.Proofs.YtglljkbpdbnhaaaGreatDoor
open Go.RowKit
namespace Ro
open Um Cm Gm Lo


theorem mPl_in (A : List Pc.E) : ∀ k : Nat, 0 ≤ mPl A k ↔ ((3, []) : Pc.E) ∈ A := by
  induction A with
  | nil => intro k; exact ⟨fun h => absurd h (by decide : ¬ (0 : Int) ≤ -1), fun h => absurd h List.not_mem_nil⟩
  | cons p r ih =>
    intro k
    unfold mPl
    by_cases h : p = (3, [])
    · rw [if_pos h]
      exact ⟨fun _ => by rw [h]; exact List.mem_cons_self, fun _ => by omega⟩
    · rw [if_neg h, ih]
      exact ⟨fun k => List.mem_cons_of_mem _ k, fun k => (List.mem_cons.1 k).resolve_left (fun e => h e.symm)⟩
/-- How many signs there are. -/
def sgs (l : List Pb.E) : Nat := l.countP fun e => e.1
theorem parP_fact (r : Lm.Rec) (A : List Pc.E) (h1 : Lm.cnt 3 A ≤ 1) (h3 : ∀ x ∈ A, x.1 = 3 → x.2 = []) : (∀ e ∈ parP r A, e.1 = e.2.isEmpty) ∧ sgs (parP r A) = Lm.cnt 3 A ∧ (parP r A).length ≤ 3 := by
  refine ⟨fun e he => ?_, ?_, ?_⟩
  · unfold parP at he
    split at he
    · obtain ⟨hm, hk⟩ := List.mem_filter.1 he
      simp only [List.mem_cons, List.not_mem_nil, or_false] at hm
      subst hm
      unfold keepP at hk
      simpa using hk
    · obtain ⟨hm, hk⟩ := List.mem_filter.1 he
      simp only [List.mem_cons, List.not_mem_nil, or_false] at hm
      rcases hm with rfl | rfl | rfl
      · unfold keepP at hk
        simpa using hk
      · rfl
      · unfold keepP at hk
        simpa using hk
  · unfold parP
    split
    · rename_i hneg
      have h0 : Lm.cnt 3 A = 0 := by
        unfold Lm.cnt
        rw [List.countP_eq_zero]
        intro x hx e
        have e1 : x.1 = 3 := by simpa using e
        have : ((3, []) : Pc.E) ∈ A := by
          have e2 := h3 x hx e1
          have : x = (3, []) := Prod.ext e1 e2
          exact this ▸ hx
        have := (mPl_in A 0).2 this
        omega
      rw [h0]
      unfold sgs
      rw [List.countP_eq_zero]
      intro x hx
      obtain ⟨hm, _⟩ := List.mem_filter.1 hx
      simp only [List.mem_cons, List.not_mem_nil, or_false] at hm
      subst hm
      simp
    · rename_i hneg
      have hm := (mPl_in A 0).1 (by omega)
      have h0 : Lm.cnt 3 A = 1 := by
        have : 0 < Lm.cnt 3 A := by
          unfold Lm.cnt
          rw [List.countP_pos_iff]
          exact ⟨_, hm, by rfl⟩
        omega
      rw [h0]
      unfold sgs
      rw [List.countP_filter]
      simp [List.countP_cons, keepP]
  · unfold parP
    split
    · exact Nat.le_trans (List.length_filter_le _ _) (by simp)
    · exact Nat.le_trans (List.length_filter_le _ _) (by simp)
theorem sgs_app (a b : List Pb.E) : sgs (a ++ b) = sgs a + sgs b := by unfold sgs; exact List.countP_append ..
theorem sgs_take (l : List Pb.E) (k : Nat) (hk : k < l.length) : sgs (l.take (k + 1)) = sgs (l.take k) + (if (l.getD k (false, [])).1 = true then 1 else 0) := by
  unfold sgs
  rw [List.take_succ_eq_append_getElem hk, List.countP_append, List.getD_eq_getElem?_getD, List.getElem?_eq_getElem hk]
  simp [List.countP_cons]
theorem sgs_le (l : List Pb.E) (k : Nat) : sgs (l.take k) ≤ sgs l := by
  unfold sgs
  exact (List.take_sublist k l).countP_le
/-- What stands around a number: the parts ahead and behind. -/
def ahd (neg : Bool) (X : Pt.Pat) : List Pc.E := if neg = true then X.npre else X.pre
def bhd (neg : Bool) (X : Pt.Pat) : List Pc.E := if neg = true then X.nsuf else X.suf
theorem around_fact {r : Lm.Rec} {X : Pt.Pat} (hO : Lm.Ok r X) (neg : Bool) : (∀ e ∈ parP r (ahd neg X) ++ parP r (bhd neg X), e.1 = e.2.isEmpty) ∧ sgs (parP r (ahd neg X) ++ parP r (bhd neg X)) = (if neg = true then 1 else 0) ∧ (parP r (ahd neg X)).length ≤ 3 ∧ (parP r (bhd neg X)).length ≤ 3 := by
  have hm1 : ahd neg X ∈ Lm.affs X := by cases neg <;> simp [ahd, Lm.affs]
  have hm2 : bhd neg X ∈ Lm.affs X := by cases neg <;> simp [bhd, Lm.affs]
  have f1 := parP_fact r (ahd neg X) (cnt_le r X _ hO hm1) (fun x hx h => ((hO.aff _ hm1).2 x hx).2.2.2 (by omega))
  have f2 := parP_fact r (bhd neg X) (cnt_le r X _ hO hm2) (fun x hx h => ((hO.aff _ hm2).2 x hx).2.2.2 (by omega))
  refine ⟨fun e he => ?_, ?_, f1.2.2, f2.2.2⟩
  · rcases List.mem_append.1 he with h | h
    · exact f1.1 e h
    · exact f2.1 e h
  · rw [sgs_app, f1.2.1, f2.2.1]
    have := hO.sg
    cases neg <;> simp [ahd, bhd] <;> omega
theorem around_any (neg : Bool) (g : Nat) (r : Lm.Rec) (X : Pt.Pat) (a b c d cl : Value) (w : World) (hO : Lm.Ok r X) (hB : LB w g r X a b c d cl) :
    Calls Tryz.prog 19 #[.pointer (some ⟨g, 0, none⟩), .bool neg] w fun e w' => ∃ u v, e = .returned (.tuple #[u, v]) ∧ Pb.LstP w' u (parP r (ahd neg X)) ∧ Pb.LstP w' v (parP r (bhd neg X)) ∧ Q w w' := by
  cases neg with
  | true => exact around_true g r X a b c d cl w hO hB
  | false => exact around_false g r X a b c d cl w hO hB
theorem raround_any (neg : Bool) (r : Lm.Rec) (X : Pt.Pat) (a b c d : Value) (w : World) (hO : Lm.Ok r X) (hL : LL w X a b c d) :
    Calls Tryz.prog 20 #[lV r X a b c d, .bool neg] w fun e w' => ∃ u v, e = .returned (.tuple #[u, v]) ∧ Pb.LstP w' u (parP r (ahd neg X)) ∧ Pb.LstP w' v (parP r (bhd neg X)) ∧ Q w w' := by
  cases neg with
  | true => exact raround_true r X a b c d w hO hL
  | false => exact raround_false r X a b c d w hO hL
set_option maxRecDepth 100000 in
set_option maxHeartbeats 8000000 in
theorem law_around (g0 g1 g2 g3 g4 g5 : Int) (neg : Bool) (w : World) (h0 : -9223372036854775808 ≤ g0 ∧ g0 ≤ 9223372036854775807) (h1 : -9223372036854775808 ≤ g1 ∧ g1 ≤ 9223372036854775807) (h2 : -9223372036854775808 ≤ g2 ∧ g2 ≤ 9223372036854775807) (h3 : -9223372036854775808 ≤ g3 ∧ g3 ≤ 9223372036854775807) (h4 : -9223372036854775808 ≤ g4 ∧ g4 ≤ 9223372036854775807) (h5 : -9223372036854775808 ≤ g5 ∧ g5 ≤ 9223372036854775807) :
    Calls Tryz.prog 4 #[.agg #[.int .i64 g0, .int .i64 g1, .int .i64 g2, .int .i64 g3, .int .i64 g4, .int .i64 g5], .bool neg] w fun e w' => e = .returned (.bool true) ∧ Q w w' := by
  obtain ⟨z0, hz0⟩ : ∃ z, z = w.alloc (.cells #[.int .i64 g0, .int .i64 g1, .int .i64 g2, .int .i64 g3, .int .i64 g4, .int .i64 g5] 23) := ⟨_, rfl⟩
  have HQ0 := Lib.hid (show Q w z0 by rw [hz0]; exact (Q.refl w).alloc _)
  have hg0 : Bk z0 w.heap.size 23 [.int .i64 g0, .int .i64 g1, .int .i64 g2, .int .i64 g3, .int .i64 g4, .int .i64 g5] := by rw [hz0]; exact Bk.new _ _ _
  have HGO := Lib.hid (fun u => good_any g0 g1 g2 g3 g4 g5 u h0 h1 h2 h3 h4 h5)
  clear h0 h1 h2 h3 h4 h5
  go_enter Tryz.func4, Tryz.ntmps4
  go_upto_region 1 with fail
  rw [← hz0]
  clear hz0
  generalize w.heap.size = bG at *
  have cg0 := hg0.cell 0 rfl
  have cg1 := hg0.cell 1 rfl
  have cg2 := hg0.cell 2 rfl
  have cg3 := hg0.cell 3 rfl
  have cg4 := hg0.cell 4 rfl
  have cg5 := hg0.cell 5 rfl
  clear hg0
  go_wp2_with fail
  clear cg0 cg1 cg2 cg3 cg4 cg5
  refine (HGO.out _).mono ?_
  rintro e w1 ⟨r, rfl, ⟨X, hI⟩, hq1⟩
  have HI := Lib.hid hI
  have HQ1 := Lib.hid (HQ0.out.trans hq1)
  obtain ⟨z1, hz1⟩ : ∃ z, z = w1.alloc (.cells #[.string (Lm.bs r.nam), .string (Lm.bs r.pat), .string (Lm.bs r.sys), .string (Lm.bs r.dec), .string (Lm.bs r.grp), .string (Lm.bs r.min), .string (Lm.bs r.per), .string (Lm.bs r.cur)] 25) := ⟨_, rfl⟩
  have HQZ1 := Lib.hid (show Q w z1 by rw [hz1]; exact HQ1.out.alloc _)
  have HR := Lib.hid (show Bk z1 w1.heap.size 25 (recC r) by rw [hz1]; exact Bk.new _ _ _)
  clear hq1 hI
  unfold recV
  go_upto_region 2 with fail
  rw [← hz1]
  clear hz1
  generalize w1.heap.size = bR at *
  have cr0 := HR.out.cell 0 rfl
  have cr1 := HR.out.cell 1 rfl
  have cr2 := HR.out.cell 2 rfl
  have cr3 := HR.out.cell 3 rfl
  have cr4 := HR.out.cell 4 rfl
  have cr5 := HR.out.cell 5 rfl
  have cr6 := HR.out.cell 6 rfl
  have cr7 := HR.out.cell 7 rfl
  go_wp2_with fail
  clear cr0 cr1 cr2 cr3 cr4 cr5 cr6 cr7
  refine (of_any r _).mono ?_
  rintro e w2 ⟨rfl, hq2⟩
  have HQ2 := Lib.hid (HQZ1.out.trans hq2)
  have HR2 := Lib.hid (HR.out.q hq2)
  clear hq2
  unfold recV
  go_wp2_with fail
  refine (new_mk HI.out _).mono ?_
  rintro e w3 ⟨g, a, b, c, d, cl, rfl, hB, hcl, hq3⟩
  have HB := Lib.hid hB
  have HCL := Lib.hid hcl
  have HQ3 := Lib.hid (HQ2.out.trans hq3)
  have HR3 := Lib.hid (HR2.out.q hq3)
  clear hB hcl hq3
  have HAR := Lib.hid (fun u (hq : Q w3 u) => around_any neg g r X a b c d cl u (ok_of HI.out) (HB.out.q hq))
  have HNW := Lib.hid (fun u => rnew_mk HI.out u)
  have HRA := Lib.hid (fun la lb lc ld u (hL : LL u X la lb lc ld) => raround_any neg r X la lb lc ld u (ok_of HI.out) hL)
  obtain ⟨hf1, hf2, hf3, hf4⟩ := around_fact (ok_of HI.out) neg
  generalize parP r (ahd neg X) = R1 at *
  generalize parP r (bhd neg X) = R2 at *
  have HF1 := Lib.hid hf1
  have HF2 := Lib.hid hf2
  obtain ⟨m1, hm1⟩ : ∃ n, n = R1.length := ⟨_, rfl⟩
  obtain ⟨m2, hm2⟩ : ∃ n, n = R2.length := ⟨_, rfl⟩
  have HM1 := Lib.hid hm1.symm
  have HM2 := Lib.hid hm2.symm
  rw [← hm1] at hf3
  rw [← hm2] at hf4
  clear HB HCL HGO HQ0 HQ1 HQZ1 HQ2 HR HR2 HI hf1 hf2 hm1 hm2
  go_wp2_with fail
  refine (HAR.out _ (Q.refl _)).mono ?_
  rintro e w4 ⟨u1, u2, rfl, hu1, hu2, hq4⟩
  have HQ4 := Lib.hid (HQ3.out.trans hq4)
  have HR4 := Lib.hid (HR3.out.q hq4)
  obtain ⟨ua, uc, rfl, _, _⟩ := hu1.form0 HM1.out
  obtain ⟨va, vc, rfl, _, _⟩ := hu2.form0 HM2.out
  have HU1 := Lib.hid hu1
  have HU2 := Lib.hid hu2
  clear hu1 hu2 hq4 HR3
  go_upto_region 6 with fail
  have cr0 := HR4.out.cell 0 rfl
  have cr1 := HR4.out.cell 1 rfl
  have cr2 := HR4.out.cell 2 rfl
  have cr3 := HR4.out.cell 3 rfl
  have cr4 := HR4.out.cell 4 rfl
  have cr5 := HR4.out.cell 5 rfl
  have cr6 := HR4.out.cell 6 rfl
  have cr7 := HR4.out.cell 7 rfl
  go_wp2_with fail
  clear cr0 cr1 cr2 cr3 cr4 cr5 cr6 cr7
  refine (HNW.out _).mono ?_
  rintro e w5 ⟨la, lb, lc, ld, rfl, hll, hq5⟩
  have HQ5 := Lib.hid (HQ4.out.trans hq5)
  have HX := Lib.hid (HRA.out la lb lc ld _ hll)
  replace HU1 := Lib.hid (HU1.out.q hq5)
  replace HU2 := Lib.hid (HU2.out.q hq5)
  clear hq5 hll HRA HNW HR4 HAR
  unfold lV at HX ⊢
  go_wp2_with fail
  refine HX.out.mono ?_
  rintro e w6 ⟨x1, x2, rfl, hx1, hx2, hq6⟩
  have HQ6 := Lib.hid (HQ5.out.trans hq6)
  obtain ⟨xa, xc, rfl, _, _⟩ := hx1.form0 HM1.out
  obtain ⟨ya, yc, rfl, _, _⟩ := hx2.form0 HM2.out
  have HX1 := Lib.hid hx1
  have HX2 := Lib.hid hx2
  replace HU1 := Lib.hid (HU1.out.q hq6)
  replace HU2 := Lib.hid (HU2.out.q hq6)
  clear hx1 hx2 hq6 HX HQ4 HQ5 HQ3
  have hl6 := Nat.le_refl w6.heap.size
  have hlen1 : ([] : List Pb.E).length + R1.length < 1073741824 := by rw [HM1.out]; simp; omega
  have hlen2 : R1.length + R2.length < 1073741824 := by rw [HM1.out, HM2.out]; omega
  go_wp2_with (at_builtin; refine Pb.pushl elPt (Pb.OwnE.nil _ _ w6.heap.size) HU1.out rfl _ _ rfl (by rfl) (by rfl) hlen1 hl6 ?_)
  intro v7 w7 ho7 hg7 hat7
  have HQ7 := Lib.hid ((Q.refl w6).grown hg7 (fun j h => by cases h))
  have HO7 := Lib.hid (show Pb.OwnE 58 w7 w6.heap.size v7 R1 from ho7)
  clear ho7 hg7 hat7
  obtain ⟨o7a, o7c, rfl, _, _⟩ := HO7.out.lst.form0 HM1.out
  replace HU2 := Lib.hid (HU2.out.q HQ7.out)
  have hl7 := HQ7.out.le
  go_wp2_with (at_builtin; refine Pb.pushl elPt HO7.out HU2.out rfl _ _ rfl (by rfl) (by rfl) hlen2 hl7 ?_)
  intro v8 w8 ho8 hg8 hat8
  have HQ8 := Lib.hid (HQ7.out.grown hg8 (fun j h => (HO7.out.lt j h).1))
  have HL8 := Lib.hid ho8.lst
  have HM : Hid ((R1 ++ R2).length = m1 + m2) := Lib.hid (by rw [List.length_append, HM1.out, HM2.out])
  clear ho8 hg8 hat8 hl7 hl6
  obtain ⟨o8a, o8c, rfl, _, _⟩ := HL8.out.form0 HM.out
  replace HX1 := Lib.hid (HX1.out.q HQ8.out)
  replace HX2 := Lib.hid (HX2.out.q HQ8.out)
  have hl8 := Nat.le_refl w8.heap.size
  go_wp2_with (at_builtin; refine Pb.pushl elT (Pb.OwnE.nil _ _ w8.heap.size) HX1.out rfl _ _ rfl (by rfl) (by rfl) hlen1 hl8 ?_)
  intro v9 w9 ho9 hg9 hat9
  have HQ9 := Lib.hid ((Q.refl w8).grown hg9 (fun j h => by cases h))
  have HO9 := Lib.hid (show Pb.OwnE 57 w9 w8.heap.size v9 R1 from ho9)
  clear ho9 hg9 hat9
  obtain ⟨o9a, o9c, rfl, _, _⟩ := HO9.out.lst.form0 HM1.out
  replace HX2 := Lib.hid (HX2.out.q HQ9.out)
  have hl9 := HQ9.out.le
  go_wp2_with (at_builtin; refine Pb.pushl elT HO9.out HX2.out rfl _ _ rfl (by rfl) (by rfl) hlen2 hl9 ?_)
  intro v10 w10 ho10 hg10 hat10
  have HQ10 := Lib.hid (HQ9.out.grown hg10 (fun j h => (HO9.out.lt j h).1))
  have HL10 := Lib.hid ho10.lst
  clear ho10 hg10 hat10 hl8 hl9
  obtain ⟨t8a, t8c, rfl, _, _⟩ := HL10.out.form0 HM.out
  replace HL8 := Lib.hid (HL8.out.q HQ10.out)
  have HQF := Lib.hid (HQ6.out.trans (HQ8.out.trans HQ10.out))
  clear HQ6 HQ7 HQ8 HQ9 HQ10 HO7 HO9 HX1 HX2 HU1 HU2 HM1 HM2 hlen1 hlen2
  generalize R1 ++ R2 = S at *
  obtain ⟨L, hL⟩ : ∃ L, L = m1 + m2 := ⟨_, rfl⟩
  have hL6 : L ≤ 6 := by omega
  rw [← hL] at HM HL8 HL10 ⊢
  clear hL hf3 hf4
  go_wp2_with fail
  go_loopw [14, 15] (fun vn vi wr => ∃ k : Nat, vi = .int .i64 k ∧ k ≤ L ∧ vn = .int .i64 (sgs (S.take k) : Nat) ∧ Q w10 wr) (fun _ i _ => L - (intOf i).toNat)
  case atStart => exact ⟨0, rfl, by omega, rfl, Q.refl _⟩
  case round =>
    obtain ⟨k, rfl, hk, rfl, hq⟩ := hrel
    have HQW := Lib.hid hq
    by_cases hlt : k < L
    · have hlti : (k : Int) < (L : Int) := by omega
      have hk0 : ¬ (k : Int) < 0 := by omega
      have hkS : k < S.length := by rw [HM.out]; exact hlt
      obtain ⟨gO, oO, cO, hvO, hgO, _, _, c1, c2⟩ := HL8.out.cellOf HM.out hlt
      cases hvO
      obtain ⟨gT, oT, cT, hvT, hgT, _, _, t1, t2⟩ := HL10.out.cellOf HM.out hlt
      cases hvT
      have he := HF1.out (S.getD k (false, [])) (by rw [List.getD_eq_getElem?_getD, List.getElem?_eq_getElem hkS]; exact List.getElem_mem _)
      have hst := sgs_take S k hkS
      have hle1 := sgs_le S (k + 1)
      have hle2 := HF2.out
      obtain ⟨p, hp⟩ : ∃ e, e = S.getD k (false, []) := ⟨_, rfl⟩
      rw [← hp] at c1 c2 t1 t2 he hst
      obtain ⟨p1, p2⟩ := p
      simp only at c1 c2 t1 t2 he hst
      unfold Pb.txt at c2 t2
      have hte : (⟨p2.toArray⟩ : ByteArray).toList = p2 := by rw [ByteArray.toList_eq]
      have he2 : (⟨p2.toArray⟩ : ByteArray).toList.isEmpty = p1 := by rw [hte]; exact he.symm
      generalize (⟨p2.toArray⟩ : ByteArray) = t at *
      have HC := Lib.hid (show ∀ u, Q w10 u → u.cell? ⟨gO, oO + k * 2, none⟩ = some (.bool p1) ∧ u.cell? ⟨gO, oO + k * 2 + 1, none⟩ = some (.string t) ∧ u.cell? ⟨gT, oT + k * 2, none⟩ = some (.bool p1) ∧ u.cell? ⟨gT, oT + k * 2 + 1, none⟩ = some (.string t) from fun u hu =>
        ⟨(World.cell?_of_block (w := w10) (a := ⟨gO, oO + k * 2, none⟩) (hu.block hgO)).trans c1, (World.cell?_of_block (w := w10) (a := ⟨gO, oO + k * 2 + 1, none⟩) (hu.block hgO)).trans c2, (World.cell?_of_block (w := w10) (a := ⟨gT, oT + k * 2, none⟩) (hu.block hgT)).trans t1, (World.cell?_of_block (w := w10) (a := ⟨gT, oT + k * 2 + 1, none⟩) (hu.block hgT)).trans t2⟩)
      have hcn : sgs (S.take k) ≤ 1 := by have := sgs_le S k; cases neg <;> simp at hle2 <;> omega
      obtain ⟨cn, hcn2⟩ : ∃ c, c = sgs (S.take k) := ⟨_, rfl⟩
      rw [← hcn2] at hst hcn
      rw [← hcn2]
      have HST := Lib.hid hst
      clear c1 c2 t1 t2 he hle1 hle2 hst hp hte hgO hgT hkS hq hcn2
      cases p1 with
      | true =>
        have e2 : t.toList = [] := by simpa using he2
        have hst : sgs (S.take (k + 1)) = cn + 1 := by rw [HST.out]; simp
        have HS2 := Lib.hid hst
        clear hst HST
        go_upto_region 19 with fail
        refine wp_region_held_drew (S := fun u => Q wr u) (by kernel_rfl) (by exact (Q.refl wr).drew) (fun hHeld => ?_)
        have hS : Q wr wr.drew := hHeld
        clear hHeld
        have hq : Q wr wr.drew := (Q.refl _).drew
        clear hq
        generalize wr.drew = yR1x0 at *
        change wpAnyH _ _ _ _ _ _ #[false, false, false, false, false, false, false, false, false, false, false, false, false, false, false, false, false, false, false, false, false, false, false] _ _
        refine wpAnyH_take (i := 0) (v := ?vR1x1) (by (try simp only [List.getElem?_toArray, List.getElem?_cons_succ, List.getElem?_cons_zero]); rfl) (by kernel_rfl) (by kernel_rfl) (by kernel_rfl) (by exact fun _ _ _ h => h) (Or.inl ⟨by first | kernel_rfl | rfl, ?hyR1x1⟩) (by exact hS) ?rsR1x1
        case hyR1x1 => (intro uz hSw; (try dsimp only at hSw); go_simp; try with_reducible rfl)
        try simp only [Act.put, List.setIfInBounds_toArray, List.set_cons_zero, List.set_cons_succ]
        change wpAnyH _ _ _ _ _ _ #[true, false, false, false, false, false, false, false, false, false, false, false, false, false, false, false, false, false, false, false, false, false, false] _ _
        refine wpAnyH_take (i := 1) (v := ?vR1x2) (by (try simp only [List.getElem?_toArray, List.getElem?_cons_succ, List.getElem?_cons_zero]); rfl) (by kernel_rfl) (by kernel_rfl) (by kernel_rfl) (by exact fun _ _ _ h => h) (Or.inl ⟨by first | kernel_rfl | rfl, ?hyR1x2⟩) (by exact hS) ?rsR1x2
        case hyR1x2 => (intro uz hSw; (try dsimp only at hSw); go_simp; try with_reducible rfl)
        try simp only [Act.put, List.setIfInBounds_toArray, List.set_cons_zero, List.set_cons_succ]
        change wpAnyH _ _ _ _ _ _ #[true, true, false, false, false, false, false, false, false, false, false, false, false, false, false, false, false, false, false, false, false, false, false] _ _
        refine wpAnyH_take (i := 2) (v := ?vR1x3) (by (try simp only [List.getElem?_toArray, List.getElem?_cons_succ, List.getElem?_cons_zero]); rfl) (by kernel_rfl) (by kernel_rfl) (by kernel_rfl) (by exact fun _ _ _ h => h) (Or.inl ⟨by first | kernel_rfl | rfl, ?hyR1x3⟩) (by exact hS) ?rsR1x3
        case hyR1x3 => (intro uz hSw; (try dsimp only at hSw); go_simp; try with_reducible rfl)
        try simp only [Act.put, List.setIfInBounds_toArray, List.set_cons_zero, List.set_cons_succ]
        change wpAnyH _ _ _ _ _ _ #[true, true, true, false, false, false, false, false, false, false, false, false, false, false, false, false, false, false, false, false, false, false, false] _ _
        refine wpAnyH_take (i := 3) (v := ?vR1x4) (by (try simp only [List.getElem?_toArray, List.getElem?_cons_succ, List.getElem?_cons_zero]); rfl) (by kernel_rfl) (by kernel_rfl) (by kernel_rfl) (by exact fun _ _ _ h => h) (Or.inl ⟨by first | kernel_rfl | rfl, ?hyR1x4⟩) (by exact hS) ?rsR1x4
        case hyR1x4 => (intro uz hSw; (try dsimp only at hSw); obtain ⟨k1, k2, k3, k4⟩ := HC.out uz (HQW.out.trans hSw); go_simp; try with_reducible rfl)
        try simp only [Act.put, List.setIfInBounds_toArray, List.set_cons_zero, List.set_cons_succ]
        change wpAnyH _ _ _ _ _ _ #[true, true, true, true, false, false, false, false, false, false, false, false, false, false, false, false, false, false, false, false, false, false, false] _ _
        refine wpAnyH_take (i := 4) (v := ?vR1x5) (by (try simp only [List.getElem?_toArray, List.getElem?_cons_succ, List.getElem?_cons_zero]); rfl) (by kernel_rfl) (by kernel_rfl) (by kernel_rfl) (by exact fun _ _ _ h => h) (Or.inl ⟨by first | kernel_rfl | rfl, ?hyR1x5⟩) (by exact hS) ?rsR1x5
        case hyR1x5 => (intro uz hSw; (try dsimp only at hSw); go_simp; try with_reducible rfl)
        try simp only [Act.put, List.setIfInBounds_toArray, List.set_cons_zero, List.set_cons_succ]
        change wpAnyH _ _ _ _ _ _ #[true, true, true, true, true, false, false, false, false, false, false, false, false, false, false, false, false, false, false, false, false, false, false] _ _
        refine wpAnyH_take (i := 5) (v := ?vR1x6) (by (try simp only [List.getElem?_toArray, List.getElem?_cons_succ, List.getElem?_cons_zero]); rfl) (by kernel_rfl) (by kernel_rfl) (by kernel_rfl) (by exact fun _ _ _ h => h) (Or.inl ⟨by first | kernel_rfl | rfl, ?hyR1x6⟩) (by exact hS) ?rsR1x6
        case hyR1x6 => (intro uz hSw; (try dsimp only at hSw); go_simp; try with_reducible rfl)
        try simp only [Act.put, List.setIfInBounds_toArray, List.set_cons_zero, List.set_cons_succ]
        change wpAnyH _ _ _ _ _ _ #[true, true, true, true, true, true, false, false, false, false, false, false, false, false, false, false, false, false, false, false, false, false, false] _ _
        refine wpAnyH_take (i := 6) (v := ?vR1x7) (by (try simp only [List.getElem?_toArray, List.getElem?_cons_succ, List.getElem?_cons_zero]); rfl) (by kernel_rfl) (by kernel_rfl) (by kernel_rfl) (by exact fun _ _ _ h => h) (Or.inl ⟨by first | kernel_rfl | rfl, ?hyR1x7⟩) (by exact hS) ?rsR1x7
        case hyR1x7 => (intro uz hSw; (try dsimp only at hSw); go_simp; try with_reducible rfl)
        try simp only [Act.put, List.setIfInBounds_toArray, List.set_cons_zero, List.set_cons_succ]
        change wpAnyH _ _ _ _ _ _ #[true, true, true, true, true, true, true, false, false, false, false, false, false, false, false, false, false, false, false, false, false, false, false] _ _
        refine wpAnyH_take (i := 7) (v := ?vR1x8) (by (try simp only [List.getElem?_toArray, List.getElem?_cons_succ, List.getElem?_cons_zero]); rfl) (by kernel_rfl) (by kernel_rfl) (by kernel_rfl) (by exact fun _ _ _ h => h) (Or.inl ⟨by first | kernel_rfl | rfl, ?hyR1x8⟩) (by exact hS) ?rsR1x8
        case hyR1x8 => (intro uz hSw; (try dsimp only at hSw); obtain ⟨k1, k2, k3, k4⟩ := HC.out uz (HQW.out.trans hSw); go_simp; try with_reducible rfl)
        try simp only [Act.put, List.setIfInBounds_toArray, List.set_cons_zero, List.set_cons_succ]
        change wpAnyH _ _ _ _ _ _ #[true, true, true, true, true, true, true, true, false, false, false, false, false, false, false, false, false, false, false, false, false, false, false] _ _
        refine wpAnyH_take (i := 8) (v := ?vR1x9) (by (try simp only [List.getElem?_toArray, List.getElem?_cons_succ, List.getElem?_cons_zero]); rfl) (by kernel_rfl) (by kernel_rfl) (by kernel_rfl) (by exact fun _ _ _ h => h) (Or.inl ⟨by first | kernel_rfl | rfl, ?hyR1x9⟩) (by exact hS) ?rsR1x9
        case hyR1x9 => (intro uz hSw; (try dsimp only at hSw); go_simp; try with_reducible rfl)
        try simp only [Act.put, List.setIfInBounds_toArray, List.set_cons_zero, List.set_cons_succ]
        change wpAnyH _ _ _ _ _ _ #[true, true, true, true, true, true, true, true, true, false, false, false, false, false, false, false, false, false, false, false, false, false, false] _ _
        refine wpAnyH_take (i := 9) (v := ?vR1x10) (by (try simp only [List.getElem?_toArray, List.getElem?_cons_succ, List.getElem?_cons_zero]); rfl) (by kernel_rfl) (by kernel_rfl) (by kernel_rfl) (by exact fun _ _ _ h => h) (Or.inl ⟨by first | kernel_rfl | rfl, ?hyR1x10⟩) (by exact hS) ?rsR1x10
        case hyR1x10 => (intro uz hSw; (try dsimp only at hSw); go_simp; try with_reducible rfl)
        try simp only [Act.put, List.setIfInBounds_toArray, List.set_cons_zero, List.set_cons_succ]
        change wpAnyH _ _ _ _ _ _ #[true, true, true, true, true, true, true, true, true, true, false, false, false, false, false, false, false, false, false, false, false, false, false] _ _
        refine wpAnyH_take (i := 10) (v := ?vR1x11) (by (try simp only [List.getElem?_toArray, List.getElem?_cons_succ, List.getElem?_cons_zero]); rfl) (by kernel_rfl) (by kernel_rfl) (by kernel_rfl) (by exact fun _ _ _ h => h) (Or.inl ⟨by first | kernel_rfl | rfl, ?hyR1x11⟩) (by exact hS) ?rsR1x11
        case hyR1x11 => (intro uz hSw; (try dsimp only at hSw); go_simp; try with_reducible rfl)
        try simp only [Act.put, List.setIfInBounds_toArray, List.set_cons_zero, List.set_cons_succ]
        change wpAnyH _ _ _ _ _ _ #[true, true, true, true, true, true, true, true, true, true, true, false, false, false, false, false, false, false, false, false, false, false, false] _ _
        refine wpAnyH_take (i := 11) (v := ?vR1x12) (by (try simp only [List.getElem?_toArray, List.getElem?_cons_succ, List.getElem?_cons_zero]); rfl) (by kernel_rfl) (by kernel_rfl) (by kernel_rfl) (by exact fun _ _ _ h => h) (Or.inl ⟨by first | kernel_rfl | rfl, ?hyR1x12⟩) (by exact hS) ?rsR1x12
        case hyR1x12 => (intro uz hSw; (try dsimp only at hSw); go_simp; try with_reducible rfl)
        try simp only [Act.put, List.setIfInBounds_toArray, List.set_cons_zero, List.set_cons_succ]
        change wpAnyH _ _ _ _ _ _ #[true, true, true, true, true, true, true, true, true, true, true, true, false, false, false, false, false, false, false, false, false, false, false] _ _
        refine wpAnyH_take (i := 12) (v := ?vR1x13) (by (try simp only [List.getElem?_toArray, List.getElem?_cons_succ, List.getElem?_cons_zero]); rfl) (by kernel_rfl) (by kernel_rfl) (by kernel_rfl) (by exact fun _ _ _ h => h) (Or.inl ⟨by first | kernel_rfl | rfl, ?hyR1x13⟩) (by exact hS) ?rsR1x13
        case hyR1x13 => (intro uz hSw; (try dsimp only at hSw); go_simp; try with_reducible rfl)
        try simp only [Act.put, List.setIfInBounds_toArray, List.set_cons_zero, List.set_cons_succ]
        change wpAnyH _ _ _ _ _ _ #[true, true, true, true, true, true, true, true, true, true, true, true, true, false, false, false, false, false, false, false, false, false, false] _ _
        refine wpAnyH_take (i := 13) (v := ?vR1x14) (by (try simp only [List.getElem?_toArray, List.getElem?_cons_succ, List.getElem?_cons_zero]); rfl) (by kernel_rfl) (by kernel_rfl) (by kernel_rfl) (by exact fun _ _ _ h => h) (Or.inl ⟨by first | kernel_rfl | rfl, ?hyR1x14⟩) (by exact hS) ?rsR1x14
        case hyR1x14 => (intro uz hSw; (try dsimp only at hSw); go_simp; try with_reducible rfl)
        try simp only [Act.put, List.setIfInBounds_toArray, List.set_cons_zero, List.set_cons_succ]
        change wpAnyH _ _ _ _ _ _ #[true, true, true, true, true, true, true, true, true, true, true, true, true, true, false, false, false, false, false, false, false, false, false] _ _
        refine wpAnyH_take (i := 14) (v := ?vR1x15) (by (try simp only [List.getElem?_toArray, List.getElem?_cons_succ, List.getElem?_cons_zero]); rfl) (by kernel_rfl) (by kernel_rfl) (by kernel_rfl) (by exact fun _ _ _ h => h) (Or.inl ⟨by first | kernel_rfl | rfl, ?hyR1x15⟩) (by exact hS) ?rsR1x15
        case hyR1x15 => (intro uz hSw; (try dsimp only at hSw); obtain ⟨k1, k2, k3, k4⟩ := HC.out uz (HQW.out.trans hSw); go_simp; try with_reducible rfl)
        try simp only [Act.put, List.setIfInBounds_toArray, List.set_cons_zero, List.set_cons_succ]
        change wpAnyH _ _ _ _ _ _ #[true, true, true, true, true, true, true, true, true, true, true, true, true, true, true, false, false, false, false, false, false, false, false] _ _
        refine wpAnyH_take (i := 15) (v := ?vR1x16) (by (try simp only [List.getElem?_toArray, List.getElem?_cons_succ, List.getElem?_cons_zero]); rfl) (by kernel_rfl) (by kernel_rfl) (by kernel_rfl) (by exact fun _ _ _ h => h) (Or.inl ⟨by first | kernel_rfl | rfl, ?hyR1x16⟩) (by exact hS) ?rsR1x16
        case hyR1x16 => (intro uz hSw; (try dsimp only at hSw); go_simp; try with_reducible rfl)
        try simp only [Act.put, List.setIfInBounds_toArray, List.set_cons_zero, List.set_cons_succ]
        change wpAnyH _ _ _ _ _ _ #[true, true, true, true, true, true, true, true, true, true, true, true, true, true, true, true, false, false, false, false, false, false, false] _ _
        refine wpAnyH_take (i := 16) (v := ?vR1x17) (by (try simp only [List.getElem?_toArray, List.getElem?_cons_succ, List.getElem?_cons_zero]); rfl) (by kernel_rfl) (by kernel_rfl) (by kernel_rfl) (by exact fun _ _ _ h => h) (Or.inl ⟨by first | kernel_rfl | rfl, ?hyR1x17⟩) (by exact hS) ?rsR1x17
        case hyR1x17 => (intro uz hSw; (try dsimp only at hSw); go_simp; try with_reducible rfl)
        try simp only [Act.put, List.setIfInBounds_toArray, List.set_cons_zero, List.set_cons_succ]
        change wpAnyH _ _ _ _ _ _ #[true, true, true, true, true, true, true, true, true, true, true, true, true, true, true, true, true, false, false, false, false, false, false] _ _
        refine wpAnyH_take (i := 17) (v := ?vR1x18) (by (try simp only [List.getElem?_toArray, List.getElem?_cons_succ, List.getElem?_cons_zero]); rfl) (by kernel_rfl) (by kernel_rfl) (by kernel_rfl) (by exact fun _ _ _ h => h) (Or.inl ⟨by first | kernel_rfl | rfl, ?hyR1x18⟩) (by exact hS) ?rsR1x18
        case hyR1x18 => (intro uz hSw; (try dsimp only at hSw); go_simp; try with_reducible rfl)
        try simp only [Act.put, List.setIfInBounds_toArray, List.set_cons_zero, List.set_cons_succ]
        change wpAnyH _ _ _ _ _ _ #[true, true, true, true, true, true, true, true, true, true, true, true, true, true, true, true, true, true, false, false, false, false, false] _ _
        refine wpAnyH_take (i := 18) (v := ?vR1x19) (by (try simp only [List.getElem?_toArray, List.getElem?_cons_succ, List.getElem?_cons_zero]); rfl) (by kernel_rfl) (by kernel_rfl) (by kernel_rfl) (by exact fun _ _ _ h => h) (Or.inl ⟨by first | kernel_rfl | rfl, ?hyR1x19⟩) (by exact hS) ?rsR1x19
        case hyR1x19 => (intro uz hSw; (try dsimp only at hSw); go_simp; try with_reducible rfl)
        try simp only [Act.put, List.setIfInBounds_toArray, List.set_cons_zero, List.set_cons_succ]
        change wpAnyH _ _ _ _ _ _ #[true, true, true, true, true, true, true, true, true, true, true, true, true, true, true, true, true, true, true, false, false, false, false] _ _
        refine wpAnyH_take (i := 19) (v := ?vR1x20) (by (try simp only [List.getElem?_toArray, List.getElem?_cons_succ, List.getElem?_cons_zero]); rfl) (by kernel_rfl) (by kernel_rfl) (by kernel_rfl) (by exact fun _ _ _ h => h) (Or.inl ⟨by first | kernel_rfl | rfl, ?hyR1x20⟩) (by exact hS) ?rsR1x20
        case hyR1x20 => (intro uz hSw; (try dsimp only at hSw); obtain ⟨k1, k2, k3, k4⟩ := HC.out uz (HQW.out.trans hSw); go_simp; try with_reducible rfl)
        try simp only [Act.put, List.setIfInBounds_toArray, List.set_cons_zero, List.set_cons_succ]
        change wpAnyH _ _ _ _ _ _ #[true, true, true, true, true, true, true, true, true, true, true, true, true, true, true, true, true, true, true, true, false, false, false] _ _
        refine wpAnyH_take (i := 20) (v := ?vR1x21) (by (try simp only [List.getElem?_toArray, List.getElem?_cons_succ, List.getElem?_cons_zero]); rfl) (by kernel_rfl) (by kernel_rfl) (by kernel_rfl) (by exact fun _ _ _ h => h) (Or.inl ⟨by first | kernel_rfl | rfl, ?hyR1x21⟩) (by exact hS) ?rsR1x21
        case hyR1x21 => (intro uz hSw; (try dsimp only at hSw); go_simp; try with_reducible rfl)
        try simp only [Act.put, List.setIfInBounds_toArray, List.set_cons_zero, List.set_cons_succ]
        change wpAnyH _ _ _ _ _ _ #[true, true, true, true, true, true, true, true, true, true, true, true, true, true, true, true, true, true, true, true, true, false, false] _ _
        refine wpAnyH_take (i := 21) (v := ?vR1x22) (by (try simp only [List.getElem?_toArray, List.getElem?_cons_succ, List.getElem?_cons_zero]); rfl) (by kernel_rfl) (by kernel_rfl) (by kernel_rfl) (by exact fun _ _ _ h => h) (Or.inl ⟨by first | kernel_rfl | rfl, ?hyR1x22⟩) (by exact hS) ?rsR1x22
        case hyR1x22 => (intro uz hSw; (try dsimp only at hSw); go_simp; try with_reducible rfl)
        try simp only [Act.put, List.setIfInBounds_toArray, List.set_cons_zero, List.set_cons_succ]
        change wpAnyH _ _ _ _ _ _ #[true, true, true, true, true, true, true, true, true, true, true, true, true, true, true, true, true, true, true, true, true, true, false] _ _
        refine wpAnyH_take (i := 22) (v := ?vR1x23) (by (try simp only [List.getElem?_toArray, List.getElem?_cons_succ, List.getElem?_cons_zero]); rfl) (by kernel_rfl) (by kernel_rfl) (by kernel_rfl) (by exact fun _ _ _ h => h) (Or.inl ⟨by first | kernel_rfl | rfl, ?hyR1x23⟩) (by exact hS) ?rsR1x23
        case hyR1x23 => (intro uz hSw; (try dsimp only at hSw); go_simp; try with_reducible rfl)
        try simp only [Act.put, List.setIfInBounds_toArray, List.set_cons_zero, List.set_cons_succ]
        change wpAnyH _ _ _ _ _ _ #[true, true, true, true, true, true, true, true, true, true, true, true, true, true, true, true, true, true, true, true, true, true, true] _ _
        refine wpAnyH_done (by kernel_rfl) ?_ _
        have HQR := Lib.hid (HQW.out.trans hS)
        clear hS
        obtain ⟨k1, _, _, _⟩ := HC.out _ HQR.out
        go_wp2_with fail
        exact ⟨⟨k + 1, by go_num, by omega, by (rw [HS2.out]; try (first | rfl | go_num)), HQR.out⟩, by simp [intOf]; omega⟩
      | false =>
        have e2 : ¬ t.toList = [] := by simpa using he2
        have hst : sgs (S.take (k + 1)) = cn := by rw [HST.out]; simp
        have HS2 := Lib.hid hst
        clear hst HST
        go_upto_region 19 with fail
        refine wp_region_held_drew (S := fun u => Q wr u) (by kernel_rfl) (by exact (Q.refl wr).drew) (fun hHeld => ?_)
        have hS : Q wr wr.drew := hHeld
        clear hHeld
        have hq : Q wr wr.drew := (Q.refl _).drew
        clear hq
        generalize wr.drew = yR2x0 at *
        change wpAnyH _ _ _ _ _ _ #[false, false, false, false, false, false, false, false, false, false, false, false, false, false, false, false, false, false, false, false, false, false, false] _ _
        refine wpAnyH_take (i := 0) (v := ?vR2x1) (by (try simp only [List.getElem?_toArray, List.getElem?_cons_succ, List.getElem?_cons_zero]); rfl) (by kernel_rfl) (by kernel_rfl) (by kernel_rfl) (by exact fun _ _ _ h => h) (Or.inl ⟨by first | kernel_rfl | rfl, ?hyR2x1⟩) (by exact hS) ?rsR2x1
        case hyR2x1 => (intro uz hSw; (try dsimp only at hSw); go_simp; try with_reducible rfl)
        try simp only [Act.put, List.setIfInBounds_toArray, List.set_cons_zero, List.set_cons_succ]
        change wpAnyH _ _ _ _ _ _ #[true, false, false, false, false, false, false, false, false, false, false, false, false, false, false, false, false, false, false, false, false, false, false] _ _
        refine wpAnyH_take (i := 1) (v := ?vR2x2) (by (try simp only [List.getElem?_toArray, List.getElem?_cons_succ, List.getElem?_cons_zero]); rfl) (by kernel_rfl) (by kernel_rfl) (by kernel_rfl) (by exact fun _ _ _ h => h) (Or.inl ⟨by first | kernel_rfl | rfl, ?hyR2x2⟩) (by exact hS) ?rsR2x2
        case hyR2x2 => (intro uz hSw; (try dsimp only at hSw); go_simp; try with_reducible rfl)
        try simp only [Act.put, List.setIfInBounds_toArray, List.set_cons_zero, List.set_cons_succ]
        change wpAnyH _ _ _ _ _ _ #[true, true, false, false, false, false, false, false, false, false, false, false, false, false, false, false, false, false, false, false, false, false, false] _ _
        refine wpAnyH_take (i := 2) (v := ?vR2x3) (by (try simp only [List.getElem?_toArray, List.getElem?_cons_succ, List.getElem?_cons_zero]); rfl) (by kernel_rfl) (by kernel_rfl) (by kernel_rfl) (by exact fun _ _ _ h => h) (Or.inl ⟨by first | kernel_rfl | rfl, ?hyR2x3⟩) (by exact hS) ?rsR2x3
        case hyR2x3 => (intro uz hSw; (try dsimp only at hSw); go_simp; try with_reducible rfl)
        try simp only [Act.put, List.setIfInBounds_toArray, List.set_cons_zero, List.set_cons_succ]
        change wpAnyH _ _ _ _ _ _ #[true, true, true, false, false, false, false, false, false, false, false, false, false, false, false, false, false, false, false, false, false, false, false] _ _
        refine wpAnyH_take (i := 3) (v := ?vR2x4) (by (try simp only [List.getElem?_toArray, List.getElem?_cons_succ, List.getElem?_cons_zero]); rfl) (by kernel_rfl) (by kernel_rfl) (by kernel_rfl) (by exact fun _ _ _ h => h) (Or.inl ⟨by first | kernel_rfl | rfl, ?hyR2x4⟩) (by exact hS) ?rsR2x4
        case hyR2x4 => (intro uz hSw; (try dsimp only at hSw); obtain ⟨k1, k2, k3, k4⟩ := HC.out uz (HQW.out.trans hSw); go_simp; try with_reducible rfl)
        try simp only [Act.put, List.setIfInBounds_toArray, List.set_cons_zero, List.set_cons_succ]
        change wpAnyH _ _ _ _ _ _ #[true, true, true, true, false, false, false, false, false, false, false, false, false, false, false, false, false, false, false, false, false, false, false] _ _
        refine wpAnyH_take (i := 4) (v := ?vR2x5) (by (try simp only [List.getElem?_toArray, List.getElem?_cons_succ, List.getElem?_cons_zero]); rfl) (by kernel_rfl) (by kernel_rfl) (by kernel_rfl) (by exact fun _ _ _ h => h) (Or.inl ⟨by first | kernel_rfl | rfl, ?hyR2x5⟩) (by exact hS) ?rsR2x5
        case hyR2x5 => (intro uz hSw; (try dsimp only at hSw); go_simp; try with_reducible rfl)
        try simp only [Act.put, List.setIfInBounds_toArray, List.set_cons_zero, List.set_cons_succ]
        change wpAnyH _ _ _ _ _ _ #[true, true, true, true, true, false, false, false, false, false, false, false, false, false, false, false, false, false, false, false, false, false, false] _ _
        refine wpAnyH_take (i := 5) (v := ?vR2x6) (by (try simp only [List.getElem?_toArray, List.getElem?_cons_succ, List.getElem?_cons_zero]); rfl) (by kernel_rfl) (by kernel_rfl) (by kernel_rfl) (by exact fun _ _ _ h => h) (Or.inl ⟨by first | kernel_rfl | rfl, ?hyR2x6⟩) (by exact hS) ?rsR2x6
        case hyR2x6 => (intro uz hSw; (try dsimp only at hSw); go_simp; try with_reducible rfl)
        try simp only [Act.put, List.setIfInBounds_toArray, List.set_cons_zero, List.set_cons_succ]
        change wpAnyH _ _ _ _ _ _ #[true, true, true, true, true, true, false, false, false, false, false, false, false, false, false, false, false, false, false, false, false, false, false] _ _
        refine wpAnyH_take (i := 6) (v := ?vR2x7) (by (try simp only [List.getElem?_toArray, List.getElem?_cons_succ, List.getElem?_cons_zero]); rfl) (by kernel_rfl) (by kernel_rfl) (by kernel_rfl) (by exact fun _ _ _ h => h) (Or.inl ⟨by first | kernel_rfl | rfl, ?hyR2x7⟩) (by exact hS) ?rsR2x7
        case hyR2x7 => (intro uz hSw; (try dsimp only at hSw); go_simp; try with_reducible rfl)
        try simp only [Act.put, List.setIfInBounds_toArray, List.set_cons_zero, List.set_cons_succ]
        change wpAnyH _ _ _ _ _ _ #[true, true, true, true, true, true, true, false, false, false, false, false, false, false, false, false, false, false, false, false, false, false, false] _ _
        refine wpAnyH_take (i := 7) (v := ?vR2x8) (by (try simp only [List.getElem?_toArray, List.getElem?_cons_succ, List.getElem?_cons_zero]); rfl) (by kernel_rfl) (by kernel_rfl) (by kernel_rfl) (by exact fun _ _ _ h => h) (Or.inl ⟨by first | kernel_rfl | rfl, ?hyR2x8⟩) (by exact hS) ?rsR2x8
        case hyR2x8 => (intro uz hSw; (try dsimp only at hSw); obtain ⟨k1, k2, k3, k4⟩ := HC.out uz (HQW.out.trans hSw); go_simp; try with_reducible rfl)
        try simp only [Act.put, List.setIfInBounds_toArray, List.set_cons_zero, List.set_cons_succ]
        change wpAnyH _ _ _ _ _ _ #[true, true, true, true, true, true, true, true, false, false, false, false, false, false, false, false, false, false, false, false, false, false, false] _ _
        refine wpAnyH_take (i := 8) (v := ?vR2x9) (by (try simp only [List.getElem?_toArray, List.getElem?_cons_succ, List.getElem?_cons_zero]); rfl) (by kernel_rfl) (by kernel_rfl) (by kernel_rfl) (by exact fun _ _ _ h => h) (Or.inl ⟨by first | kernel_rfl | rfl, ?hyR2x9⟩) (by exact hS) ?rsR2x9
        case hyR2x9 => (intro uz hSw; (try dsimp only at hSw); go_simp; try with_reducible rfl)
        try simp only [Act.put, List.setIfInBounds_toArray, List.set_cons_zero, List.set_cons_succ]
        change wpAnyH _ _ _ _ _ _ #[true, true, true, true, true, true, true, true, true, false, false, false, false, false, false, false, false, false, false, false, false, false, false] _ _
        refine wpAnyH_take (i := 9) (v := ?vR2x10) (by (try simp only [List.getElem?_toArray, List.getElem?_cons_succ, List.getElem?_cons_zero]); rfl) (by kernel_rfl) (by kernel_rfl) (by kernel_rfl) (by exact fun _ _ _ h => h) (Or.inl ⟨by first | kernel_rfl | rfl, ?hyR2x10⟩) (by exact hS) ?rsR2x10
        case hyR2x10 => (intro uz hSw; (try dsimp only at hSw); go_simp; try with_reducible rfl)
        try simp only [Act.put, List.setIfInBounds_toArray, List.set_cons_zero, List.set_cons_succ]
        change wpAnyH _ _ _ _ _ _ #[true, true, true, true, true, true, true, true, true, true, false, false, false, false, false, false, false, false, false, false, false, false, false] _ _
        refine wpAnyH_take (i := 10) (v := ?vR2x11) (by (try simp only [List.getElem?_toArray, List.getElem?_cons_succ, List.getElem?_cons_zero]); rfl) (by kernel_rfl) (by kernel_rfl) (by kernel_rfl) (by exact fun _ _ _ h => h) (Or.inl ⟨by first | kernel_rfl | rfl, ?hyR2x11⟩) (by exact hS) ?rsR2x11
        case hyR2x11 => (intro uz hSw; (try dsimp only at hSw); go_simp; try with_reducible rfl)
        try simp only [Act.put, List.setIfInBounds_toArray, List.set_cons_zero, List.set_cons_succ]
        change wpAnyH _ _ _ _ _ _ #[true, true, true, true, true, true, true, true, true, true, true, false, false, false, false, false, false, false, false, false, false, false, false] _ _
        refine wpAnyH_take (i := 11) (v := ?vR2x12) (by (try simp only [List.getElem?_toArray, List.getElem?_cons_succ, List.getElem?_cons_zero]); rfl) (by kernel_rfl) (by kernel_rfl) (by kernel_rfl) (by exact fun _ _ _ h => h) (Or.inl ⟨by first | kernel_rfl | rfl, ?hyR2x12⟩) (by exact hS) ?rsR2x12
        case hyR2x12 => (intro uz hSw; (try dsimp only at hSw); go_simp; try with_reducible rfl)
        try simp only [Act.put, List.setIfInBounds_toArray, List.set_cons_zero, List.set_cons_succ]
        change wpAnyH _ _ _ _ _ _ #[true, true, true, true, true, true, true, true, true, true, true, true, false, false, false, false, false, false, false, false, false, false, false] _ _
        refine wpAnyH_take (i := 12) (v := ?vR2x13) (by (try simp only [List.getElem?_toArray, List.getElem?_cons_succ, List.getElem?_cons_zero]); rfl) (by kernel_rfl) (by kernel_rfl) (by kernel_rfl) (by exact fun _ _ _ h => h) (Or.inl ⟨by first | kernel_rfl | rfl, ?hyR2x13⟩) (by exact hS) ?rsR2x13
        case hyR2x13 => (intro uz hSw; (try dsimp only at hSw); go_simp; try with_reducible rfl)
        try simp only [Act.put, List.setIfInBounds_toArray, List.set_cons_zero, List.set_cons_succ]
        change wpAnyH _ _ _ _ _ _ #[true, true, true, true, true, true, true, true, true, true, true, true, true, false, false, false, false, false, false, false, false, false, false] _ _
        refine wpAnyH_take (i := 13) (v := ?vR2x14) (by (try simp only [List.getElem?_toArray, List.getElem?_cons_succ, List.getElem?_cons_zero]); rfl) (by kernel_rfl) (by kernel_rfl) (by kernel_rfl) (by exact fun _ _ _ h => h) (Or.inl ⟨by first | kernel_rfl | rfl, ?hyR2x14⟩) (by exact hS) ?rsR2x14
        case hyR2x14 => (intro uz hSw; (try dsimp only at hSw); go_simp; try with_reducible rfl)
        try simp only [Act.put, List.setIfInBounds_toArray, List.set_cons_zero, List.set_cons_succ]
        change wpAnyH _ _ _ _ _ _ #[true, true, true, true, true, true, true, true, true, true, true, true, true, true, false, false, false, false, false, false, false, false, false] _ _
        refine wpAnyH_take (i := 14) (v := ?vR2x15) (by (try simp only [List.getElem?_toArray, List.getElem?_cons_succ, List.getElem?_cons_zero]); rfl) (by kernel_rfl) (by kernel_rfl) (by kernel_rfl) (by exact fun _ _ _ h => h) (Or.inl ⟨by first | kernel_rfl | rfl, ?hyR2x15⟩) (by exact hS) ?rsR2x15
        case hyR2x15 => (intro uz hSw; (try dsimp only at hSw); obtain ⟨k1, k2, k3, k4⟩ := HC.out uz (HQW.out.trans hSw); go_simp; try with_reducible rfl)
        try simp only [Act.put, List.setIfInBounds_toArray, List.set_cons_zero, List.set_cons_succ]
        change wpAnyH _ _ _ _ _ _ #[true, true, true, true, true, true, true, true, true, true, true, true, true, true, true, false, false, false, false, false, false, false, false] _ _
        refine wpAnyH_take (i := 15) (v := ?vR2x16) (by (try simp only [List.getElem?_toArray, List.getElem?_cons_succ, List.getElem?_cons_zero]); rfl) (by kernel_rfl) (by kernel_rfl) (by kernel_rfl) (by exact fun _ _ _ h => h) (Or.inl ⟨by first | kernel_rfl | rfl, ?hyR2x16⟩) (by exact hS) ?rsR2x16
        case hyR2x16 => (intro uz hSw; (try dsimp only at hSw); go_simp; try with_reducible rfl)
        try simp only [Act.put, List.setIfInBounds_toArray, List.set_cons_zero, List.set_cons_succ]
        change wpAnyH _ _ _ _ _ _ #[true, true, true, true, true, true, true, true, true, true, true, true, true, true, true, true, false, false, false, false, false, false, false] _ _
        refine wpAnyH_take (i := 16) (v := ?vR2x17) (by (try simp only [List.getElem?_toArray, List.getElem?_cons_succ, List.getElem?_cons_zero]); rfl) (by kernel_rfl) (by kernel_rfl) (by kernel_rfl) (by exact fun _ _ _ h => h) (Or.inl ⟨by first | kernel_rfl | rfl, ?hyR2x17⟩) (by exact hS) ?rsR2x17
        case hyR2x17 => (intro uz hSw; (try dsimp only at hSw); go_simp; try with_reducible rfl)
        try simp only [Act.put, List.setIfInBounds_toArray, List.set_cons_zero, List.set_cons_succ]
        change wpAnyH _ _ _ _ _ _ #[true, true, true, true, true, true, true, true, true, true, true, true, true, true, true, true, true, false, false, false, false, false, false] _ _
        refine wpAnyH_take (i := 17) (v := ?vR2x18) (by (try simp only [List.getElem?_toArray, List.getElem?_cons_succ, List.getElem?_cons_zero]); rfl) (by kernel_rfl) (by kernel_rfl) (by kernel_rfl) (by exact fun _ _ _ h => h) (Or.inl ⟨by first | kernel_rfl | rfl, ?hyR2x18⟩) (by exact hS) ?rsR2x18
        case hyR2x18 => (intro uz hSw; (try dsimp only at hSw); go_simp; try with_reducible rfl)
        try simp only [Act.put, List.setIfInBounds_toArray, List.set_cons_zero, List.set_cons_succ]
        change wpAnyH _ _ _ _ _ _ #[true, true, true, true, true, true, true, true, true, true, true, true, true, true, true, true, true, true, false, false, false, false, false] _ _
        refine wpAnyH_take (i := 18) (v := ?vR2x19) (by (try simp only [List.getElem?_toArray, List.getElem?_cons_succ, List.getElem?_cons_zero]); rfl) (by kernel_rfl) (by kernel_rfl) (by kernel_rfl) (by exact fun _ _ _ h => h) (Or.inl ⟨by first | kernel_rfl | rfl, ?hyR2x19⟩) (by exact hS) ?rsR2x19
        case hyR2x19 => (intro uz hSw; (try dsimp only at hSw); go_simp; try with_reducible rfl)
        try simp only [Act.put, List.setIfInBounds_toArray, List.set_cons_zero, List.set_cons_succ]
        change wpAnyH _ _ _ _ _ _ #[true, true, true, true, true, true, true, true, true, true, true, true, true, true, true, true, true, true, true, false, false, false, false] _ _
        refine wpAnyH_take (i := 19) (v := ?vR2x20) (by (try simp only [List.getElem?_toArray, List.getElem?_cons_succ, List.getElem?_cons_zero]); rfl) (by kernel_rfl) (by kernel_rfl) (by kernel_rfl) (by exact fun _ _ _ h => h) (Or.inl ⟨by first | kernel_rfl | rfl, ?hyR2x20⟩) (by exact hS) ?rsR2x20
        case hyR2x20 => (intro uz hSw; (try dsimp only at hSw); obtain ⟨k1, k2, k3, k4⟩ := HC.out uz (HQW.out.trans hSw); go_simp; try with_reducible rfl)
        try simp only [Act.put, List.setIfInBounds_toArray, List.set_cons_zero, List.set_cons_succ]
        change wpAnyH _ _ _ _ _ _ #[true, true, true, true, true, true, true, true, true, true, true, true, true, true, true, true, true, true, true, true, false, false, false] _ _
        refine wpAnyH_take (i := 20) (v := ?vR2x21) (by (try simp only [List.getElem?_toArray, List.getElem?_cons_succ, List.getElem?_cons_zero]); rfl) (by kernel_rfl) (by kernel_rfl) (by kernel_rfl) (by exact fun _ _ _ h => h) (Or.inl ⟨by first | kernel_rfl | rfl, ?hyR2x21⟩) (by exact hS) ?rsR2x21
        case hyR2x21 => (intro uz hSw; (try dsimp only at hSw); go_simp; try with_reducible rfl)
        try simp only [Act.put, List.setIfInBounds_toArray, List.set_cons_zero, List.set_cons_succ]
        change wpAnyH _ _ _ _ _ _ #[true, true, true, true, true, true, true, true, true, true, true, true, true, true, true, true, true, true, true, true, true, false, false] _ _
        refine wpAnyH_take (i := 21) (v := ?vR2x22) (by (try simp only [List.getElem?_toArray, List.getElem?_cons_succ, List.getElem?_cons_zero]); rfl) (by kernel_rfl) (by kernel_rfl) (by kernel_rfl) (by exact fun _ _ _ h => h) (Or.inl ⟨by first | kernel_rfl | rfl, ?hyR2x22⟩) (by exact hS) ?rsR2x22
        case hyR2x22 => (intro uz hSw; (try dsimp only at hSw); go_simp; try with_reducible rfl)
        try simp only [Act.put, List.setIfInBounds_toArray, List.set_cons_zero, List.set_cons_succ]
        change wpAnyH _ _ _ _ _ _ #[true, true, true, true, true, true, true, true, true, true, true, true, true, true, true, true, true, true, true, true, true, true, false] _ _
        refine wpAnyH_take (i := 22) (v := ?vR2x23) (by (try simp only [List.getElem?_toArray, List.getElem?_cons_succ, List.getElem?_cons_zero]); rfl) (by kernel_rfl) (by kernel_rfl) (by kernel_rfl) (by exact fun _ _ _ h => h) (Or.inl ⟨by first | kernel_rfl | rfl, ?hyR2x23⟩) (by exact hS) ?rsR2x23
        case hyR2x23 => (intro uz hSw; (try dsimp only at hSw); go_simp; try with_reducible rfl)
        try simp only [Act.put, List.setIfInBounds_toArray, List.set_cons_zero, List.set_cons_succ]
        change wpAnyH _ _ _ _ _ _ #[true, true, true, true, true, true, true, true, true, true, true, true, true, true, true, true, true, true, true, true, true, true, true] _ _
        refine wpAnyH_done (by kernel_rfl) ?_ _
        have HQR := Lib.hid (HQW.out.trans hS)
        clear hS
        obtain ⟨k1, _, _, _⟩ := HC.out _ HQR.out
        go_wp2_with fail
        exact ⟨⟨k + 1, by go_num, by omega, by (rw [HS2.out]; try (first | rfl | go_num)), HQR.out⟩, by simp [intOf]; omega⟩
    · have hnlt : ¬ (k : Int) < (L : Int) := by omega
      have hkL : k = L := by omega
      have hfin : sgs (S.take k) = if neg = true then 1 else 0 := by rw [hkL, ← HM.out, List.take_length]; exact HF2.out
      have HQE := Lib.hid (HQF.out.trans hq)
      clear hq hlt hk hkL HQW
      rw [hfin]
      cases neg with
      | true =>
        simp only [if_pos]
        go_wp2_with fail
        refine (lives_any _).mono ?_
        rintro e w12 ⟨rfl, hq12⟩
        have HQ12 := Lib.hid (HQE.out.trans hq12)
        clear hq12
        go_wp2_with fail
        go_ret
        exact ⟨rfl, HQ12.out⟩
      | false =>
        simp only [Bool.false_eq_true, if_false]
        go_wp2_with fail
        refine (lives_any _).mono ?_
        rintro e w12 ⟨rfl, hq12⟩
        have HQ12 := Lib.hid (HQE.out.trans hq12)
        clear hq12
        go_wp2_with fail
        go_ret
        exact ⟨rfl, HQ12.out⟩

end Ro
end Go.Proofs.YtglljkbpdbnhaaaGreatDoor
