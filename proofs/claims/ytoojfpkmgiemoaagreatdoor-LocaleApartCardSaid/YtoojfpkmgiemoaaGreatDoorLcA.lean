/- No two of a locale's symbols are the same, as the statement asks. -/
import Derived.Test.YtoojfpkmgiemoaaGreatDoorRows
import Derived.Test.YtoojfpkmgiemoaaGreatDoorMA
import Derived.Test.YtoojfpkmgiemoaaGreatDoorMB
import Derived.Test.YtoojfpkmgiemoaaGreatDoorMC
import Derived.Test.YtoojfpkmgiemoaaGreatDoorMF
import Derived.Test.YtoojfpkmgiemoaaGreatDoorMBP
import Derived.Test.YtoojfpkmgiemoaaGreatDoorMBS
import Derived.Test.YtoojfpkmgiemoaaGreatDoorLocM
import Derived.Test.YtoojfpkmgiemoaaGreatDoorLocB
import Derived.Test.YtoojfpkmgiemoaaGreatDoorLocF
import Derived.Test.YtoojfpkmgiemoaaGreatDoorLocL
import Derived.Test.YtoojfpkmgiemoaaGreatDoorLocU
import Derived.Test.YtoojfpkmgiemoaaGreatDoorLocW
import Derived.Test.YtoojfpkmgiemoaaGreatDoorLocX
import Derived.Deep.QuietTactic
import Derived.BigQuiet
set_option linter.unusedVariables false
set_option linter.unusedSimpArgs false
namespace Go.Proofs.YtoojfpkmgiemoaaGreatDoor
open Go.RowKit
namespace Ro
open Um Cm Gm Lo


set_option maxRecDepth 100000 in
set_option maxHeartbeats 4000000 in
theorem law_apart (g0 g1 g2 g3 g4 g5 a0 b0 : Int) (w : World) (h0 : -9223372036854775808 ≤ g0 ∧ g0 ≤ 9223372036854775807) (h1 : -9223372036854775808 ≤ g1 ∧ g1 ≤ 9223372036854775807) (h2 : -9223372036854775808 ≤ g2 ∧ g2 ≤ 9223372036854775807) (h3 : -9223372036854775808 ≤ g3 ∧ g3 ≤ 9223372036854775807) (h4 : -9223372036854775808 ≤ g4 ∧ g4 ≤ 9223372036854775807) (h5 : -9223372036854775808 ≤ g5 ∧ g5 ≤ 9223372036854775807) (h6 : -9223372036854775808 ≤ a0 ∧ a0 ≤ 9223372036854775807) (h7 : -9223372036854775808 ≤ b0 ∧ b0 ≤ 9223372036854775807) :
    Calls Tryz.prog 7 #[.agg #[.int .i64 g0, .int .i64 g1, .int .i64 g2, .int .i64 g3, .int .i64 g4, .int .i64 g5], .int .i64 a0, .int .i64 b0] w fun e w' => e = .returned (.bool true) ∧ Q w w' := by
  have HA := Lib.hid (fun u => Ur.around_any a0 13 u h6.1 h6.2 (by omega) (by omega))
  have HBB := Lib.hid (fun u => Ur.around_any b0 13 u h7.1 h7.2 (by omega) (by omega))
  have hba := around_bd a0 13 (by omega)
  have hbb := around_bd b0 13 (by omega)
  obtain ⟨i, hi⟩ : ∃ k : Nat, (k : Int) = around a0 13 := ⟨(around a0 13).toNat, by omega⟩
  obtain ⟨k, hk⟩ : ∃ k : Nat, (k : Int) = around b0 13 := ⟨(around b0 13).toNat, by omega⟩
  rw [← hi] at HA hba
  rw [← hk] at HBB hbb
  have hi13 : i < 13 := by omega
  have hk13 : k < 13 := by omega
  clear hi hk hba hbb h6 h7
  obtain ⟨z0, hz0⟩ : ∃ z, z = w.alloc (.cells #[.int .i64 g0, .int .i64 g1, .int .i64 g2, .int .i64 g3, .int .i64 g4, .int .i64 g5] 23) := ⟨_, rfl⟩
  have HQ0 := Lib.hid (show Q w z0 by rw [hz0]; exact (Q.refl w).alloc _)
  have hg0 : Bk z0 w.heap.size 23 [.int .i64 g0, .int .i64 g1, .int .i64 g2, .int .i64 g3, .int .i64 g4, .int .i64 g5] := by rw [hz0]; exact Bk.new _ _ _
  have HGO := Lib.hid (fun u => good_any g0 g1 g2 g3 g4 g5 u h0 h1 h2 h3 h4 h5)
  clear h0 h1 h2 h3 h4 h5
  go_enter Tryz.func7, Tryz.ntmps7
  go_upto_region 1 with fail
  rw [← hz0]
  clear hz0
  generalize w.heap.size = bG at *
  have cg0 := hg0.cell 0 rfl
  have cg1 := hg0.cell 1 rfl
  have cg2 := hg0.cell 2 rfl
  have cg3 := hg0.cell 3 rfl
  have cg4 := hg0.cell 4 rfl
  have cg5 := hg0.cell 5 rfl
  clear hg0
  go_wp2_with fail
  clear cg0 cg1 cg2 cg3 cg4 cg5
  refine (HGO.out _).mono ?_
  rintro e w1 ⟨r, rfl, ⟨X, hI⟩, hq1⟩
  have HI := Lib.hid hI
  have HQ1 := Lib.hid (HQ0.out.trans hq1)
  obtain ⟨z1, hz1⟩ : ∃ z, z = w1.alloc (.cells #[.string (Lm.bs r.nam), .string (Lm.bs r.pat), .string (Lm.bs r.sys), .string (Lm.bs r.dec), .string (Lm.bs r.grp), .string (Lm.bs r.min), .string (Lm.bs r.per), .string (Lm.bs r.cur)] 25) := ⟨_, rfl⟩
  have HQZ1 := Lib.hid (show Q w z1 by rw [hz1]; exact HQ1.out.alloc _)
  have HR := Lib.hid (show Bk z1 w1.heap.size 25 (recC r) by rw [hz1]; exact Bk.new _ _ _)
  clear hq1 hI
  unfold recV
  go_upto_region 2 with fail
  rw [← hz1]
  clear hz1
  generalize w1.heap.size = bR at *
  have cr0 := HR.out.cell 0 rfl
  have cr1 := HR.out.cell 1 rfl
  have cr2 := HR.out.cell 2 rfl
  have cr3 := HR.out.cell 3 rfl
  have cr4 := HR.out.cell 4 rfl
  have cr5 := HR.out.cell 5 rfl
  have cr6 := HR.out.cell 6 rfl
  have cr7 := HR.out.cell 7 rfl
  go_wp2_with fail
  clear cr0 cr1 cr2 cr3 cr4 cr5 cr6 cr7
  refine (of_any r _).mono ?_
  rintro e w2 ⟨rfl, hq2⟩
  have HQ2 := Lib.hid (HQZ1.out.trans hq2)
  have HR2 := Lib.hid (HR.out.q hq2)
  clear hq2
  unfold recV
  go_wp2_with fail
  refine (new_mk HI.out _).mono ?_
  rintro e w3 ⟨g, a, b, c, d, cl, rfl, hB, hcl, hq3⟩
  have HB := Lib.hid hB
  have HCL := Lib.hid hcl
  have HQ3 := Lib.hid (HQ2.out.trans hq3)
  have HR3 := Lib.hid (HR2.out.q hq3)
  clear hB hcl hq3
  obtain ⟨x, hx, hxs, hxf⟩ := sym_fact HI.out i hi13
  obtain ⟨y, hy, hys, hyf⟩ := sym_fact HI.out k hk13
  have hO := ok_of HI.out
  have hpr0 := hO.pr
  have HNE := Lib.hid (show i ≠ k → x ≠ y from fun hik e => by
    subst e
    have e1 := Lm.plc_nodup (Lm.syms r) 0 i x hO.dis hx
    have e2 := Lm.plc_nodup (Lm.syms r) 0 k x hO.dis hy
    rw [e1] at e2
    omega)
  have HEQ := Lib.hid (show i = k → x = y from fun hik => by
    subst hik
    rw [hx] at hy
    exact Option.some.inj hy)
  have HSX := Lib.hid (fun (hc : i ≠ 11 ∨ 0 < X.pr) u (hq : Q w3 u) => (show Calls Tryz.prog 22 #[.pointer (some ⟨g, 0, none⟩), .string x] u fun e w' => e = .returned (.int .i64 (i : Int)) ∧ Q u w' by
    have h := sign_any g r X a b c d cl x u (HB.out.q hq)
    rw [(hxf hc).1] at h; exact h))
  have HSY := Lib.hid (fun (hc : k ≠ 11 ∨ 0 < X.pr) u (hq : Q w3 u) => (show Calls Tryz.prog 22 #[.pointer (some ⟨g, 0, none⟩), .string y] u fun e w' => e = .returned (.int .i64 (k : Int)) ∧ Q u w' by
    have h := sign_any g r X a b c d cl y u (HB.out.q hq)
    rw [(hyf hc).1] at h; exact h))
  have HSP := Lib.hid (fun (hc : i ≠ 11 ∨ 0 < X.pr) u => (show Calls Tryz.prog 31 #[.string x] u fun e w' => (∃ A C, e = .returned (.slice A 1 C)) ∧ Q u w' from
    (Gr.split_any x u (by omega)).mono (fun e w' ⟨v, h1, h2, h3⟩ => by
      obtain ⟨A, C, rfl, _, _⟩ := h2.lst.form0 (hxf hc).2
      exact ⟨⟨A, C, h1⟩, h3⟩)))
  have HS0 := Lib.hid (fun u (hq : Q w3 u) => (show Calls Tryz.prog 22 #[.pointer (some ⟨g, 0, none⟩), .string ⟨#[]⟩] u fun e w' => e = .returned (.int .i64 (-1)) ∧ Q u w' from sign_any g r X a b c d cl ⟨#[]⟩ u (HB.out.q hq)))
  have HDI := Lib.hid (fun (h : i < 10) u (hq : Q w3 u) => (show Calls Tryz.prog 16 #[.pointer (some ⟨g, 0, none⟩), .int .i64 (i : Int)] u fun e w' => e = .returned (.string x) ∧ Q u w' by
    have e : Lm.dgt r i = x := by
      have h2 : (Lm.syms r)[i]? = some (Lm.dgt r i) := by
        match i, h with
        | 0, _ => rfl
        | 1, _ => rfl
        | 2, _ => rfl
        | 3, _ => rfl
        | 4, _ => rfl
        | 5, _ => rfl
        | 6, _ => rfl
        | 7, _ => rfl
        | 8, _ => rfl
        | 9, _ => rfl
      rw [h2] at hx; exact Option.some.inj hx
    rw [← e]; exact digit_in g r X a b c d cl i u (HB.out.q hq) h))
  have HDK := Lib.hid (fun (h : k < 10) u (hq : Q w3 u) => (show Calls Tryz.prog 16 #[.pointer (some ⟨g, 0, none⟩), .int .i64 (k : Int)] u fun e w' => e = .returned (.string y) ∧ Q u w' by
    have e : Lm.dgt r k = y := by
      have h2 : (Lm.syms r)[k]? = some (Lm.dgt r k) := by
        match k, h with
        | 0, _ => rfl
        | 1, _ => rfl
        | 2, _ => rfl
        | 3, _ => rfl
        | 4, _ => rfl
        | 5, _ => rfl
        | 6, _ => rfl
        | 7, _ => rfl
        | 8, _ => rfl
        | 9, _ => rfl
      rw [h2] at hy; exact Option.some.inj hy
    rw [← e]; exact digit_in g r X a b c d cl k u (HB.out.q hq) h))
  have HDO := Lib.hid (fun (n : Int) (h : 10 ≤ n) u => digit_out g n u (.inr h))
  have HSZ := Lib.hid (fun u (hq : Q w3 u) => sizes_any g r X a b c d cl u (HB.out.q hq))
  have HX := Lib.hid hx
  have HY := Lib.hid hy
  obtain ⟨z4, hz4⟩ : ∃ z, z = w3.alloc (.cells #[.string (Lm.bs r.dec), .string (Lm.bs r.grp), .string (Lm.bs r.min)] 9) := ⟨_, rfl⟩
  have HQ4 := Lib.hid (show Q w3 z4 by rw [hz4]; exact (Q.refl w3).alloc _)
  have HSL := Lib.hid (show Bk z4 w3.heap.size 9 [.string (Lm.bs r.dec), .string (Lm.bs r.grp), .string (Lm.bs r.min)] by rw [hz4]; exact Bk.new _ _ _)
  have c3 := HR3.out.cell 3 rfl
  have c4 := HR3.out.cell 4 rfl
  have c5 := HR3.out.cell 5 rfl
  clear hx hy hxs hys hxf hyf hO
  go_upto_region 6 with fail
  rw [← hz4]
  clear hz4 c3 c4 c5
  generalize w3.heap.size = bS at *
  obtain ⟨pr, hpr⟩ : ∃ p, p = X.pr := ⟨_, rfl⟩
  rw [← hpr] at HSZ HSX HSY HSP hpr0
  generalize X.se = se at *
  clear hpr
  go_wp2_with fail
  refine (HA.out _).mono ?_
  rintro e wx ⟨rfl, rfl⟩
  go_wp2_with fail
  refine (HBB.out _).mono ?_
  rintro e wx ⟨rfl, rfl⟩
  have hic : i < 10 ∨ i = 10 ∨ i = 11 ∨ i = 12 := by omega
  rcases hic with hil | rfl | rfl | rfl
  · have hii : (i : Int) < 10 := by omega
    have hij : ¬ (9 : Int) < (i : Int) := by omega
    have hine : ((i : Int) == 11) = false := by rw [beq_eq_false_iff_ne]; omega
    go_wp2_with fail
    refine (HDI.out hil _ HQ4.out).mono ?_
    rintro e w5 ⟨rfl, hq5⟩
    have HQA := Lib.hid (HQ4.out.trans hq5)
    have BKA := Lib.hid (HSL.out.q hq5)
    clear hq5
    go_upto_region 11 with fail
    have hkc : k < 10 ∨ k = 10 ∨ k = 11 ∨ k = 12 := by omega
    rcases hkc with hkl | rfl | rfl | rfl
    · have hki : (k : Int) < 10 := by omega
      have hkj : ¬ (9 : Int) < (k : Int) := by omega
      have hkne : ((k : Int) == 11) = false := by rw [beq_eq_false_iff_ne]; omega
      go_wp2_with fail
      refine (HDK.out hkl _ HQA.out).mono ?_
      rintro e w6 ⟨rfl, hq6⟩
      have HQB := Lib.hid (HQA.out.trans hq6)
      clear hq6
      go_upto_region 14 with fail
      by_cases hz : pr = 0
      · subst hz
        go_wp2_with fail
        refine (HSZ.out _ HQB.out).mono ?_
        rintro e w7 ⟨rfl, hq7⟩
        have HQ7 := Lib.hid (HQB.out.trans hq7)
        clear hq7
        by_cases hik0 : i = k
        · subst hik0
          have hxy := HEQ.out (by first | rfl | trivial)
          subst hxy
          have hb : (x.toList == x.toList) = true := by simp
          go_wp2_with fail
          refine (HSX.out (.inl (by omega)) _ HQ7.out).mono ?_
          rintro e w8 ⟨rfl, hq8⟩
          have HQ8 := Lib.hid (HQ7.out.trans hq8)
          go_wp2_with fail
          refine (HSY.out (.inl (by omega)) _ HQ8.out).mono ?_
          rintro e w9 ⟨rfl, hq9⟩
          have HQ9 := Lib.hid (HQ8.out.trans hq9)
          go_wp2_with fail
          refine (HSP.out (.inl (by omega)) _).mono ?_
          rintro e w10 ⟨⟨A, C, rfl⟩, hq10⟩
          have HQ10 := Lib.hid (HQ9.out.trans hq10)
          go_wp2_with fail
          refine (lives_any _).mono ?_
          rintro e w11 ⟨rfl, hq11⟩
          go_wp2_with fail
          go_ret
          exact ⟨rfl, HQ3.out.trans (HQ10.out.trans hq11)⟩
        · have hxy := str_ne (HNE.out (by omega))
          have hik : (((i : Int) : Int) == ((k : Int) : Int)) = false := by rw [beq_eq_false_iff_ne]; omega
          clear hik0
          go_wp2_with fail
          refine (HSX.out (.inl (by omega)) _ HQ7.out).mono ?_
          rintro e w8 ⟨rfl, hq8⟩
          have HQ8 := Lib.hid (HQ7.out.trans hq8)
          go_wp2_with fail
          refine (HSY.out (.inl (by omega)) _ HQ8.out).mono ?_
          rintro e w9 ⟨rfl, hq9⟩
          have HQ9 := Lib.hid (HQ8.out.trans hq9)
          go_wp2_with fail
          refine (HSP.out (.inl (by omega)) _).mono ?_
          rintro e w10 ⟨⟨A, C, rfl⟩, hq10⟩
          have HQ10 := Lib.hid (HQ9.out.trans hq10)
          go_wp2_with fail
          refine (lives_any _).mono ?_
          rintro e w11 ⟨rfl, hq11⟩
          go_wp2_with fail
          go_ret
          exact ⟨rfl, HQ3.out.trans (HQ10.out.trans hq11)⟩
      · have hzb : (pr == 0) = false := beq_eq_false_iff_ne.2 hz
        go_wp2_with fail
        refine (HSZ.out _ HQB.out).mono ?_
        rintro e w7 ⟨rfl, hq7⟩
        have HQ7 := Lib.hid (HQB.out.trans hq7)
        clear hq7
        by_cases hik0 : i = k
        · subst hik0
          have hxy := HEQ.out (by first | rfl | trivial)
          subst hxy
          have hb : (x.toList == x.toList) = true := by simp
          go_wp2_with fail
          refine (HSX.out (.inl (by omega)) _ HQ7.out).mono ?_
          rintro e w8 ⟨rfl, hq8⟩
          have HQ8 := Lib.hid (HQ7.out.trans hq8)
          go_wp2_with fail
          refine (HSY.out (.inl (by omega)) _ HQ8.out).mono ?_
          rintro e w9 ⟨rfl, hq9⟩
          have HQ9 := Lib.hid (HQ8.out.trans hq9)
          go_wp2_with fail
          refine (HSP.out (.inl (by omega)) _).mono ?_
          rintro e w10 ⟨⟨A, C, rfl⟩, hq10⟩
          have HQ10 := Lib.hid (HQ9.out.trans hq10)
          go_wp2_with fail
          refine (lives_any _).mono ?_
          rintro e w11 ⟨rfl, hq11⟩
          go_wp2_with fail
          go_ret
          exact ⟨rfl, HQ3.out.trans (HQ10.out.trans hq11)⟩
        · have hxy := str_ne (HNE.out (by omega))
          have hik : (((i : Int) : Int) == ((k : Int) : Int)) = false := by rw [beq_eq_false_iff_ne]; omega
          clear hik0
          go_wp2_with fail
          refine (HSX.out (.inl (by omega)) _ HQ7.out).mono ?_
          rintro e w8 ⟨rfl, hq8⟩
          have HQ8 := Lib.hid (HQ7.out.trans hq8)
          go_wp2_with fail
          refine (HSY.out (.inl (by omega)) _ HQ8.out).mono ?_
          rintro e w9 ⟨rfl, hq9⟩
          have HQ9 := Lib.hid (HQ8.out.trans hq9)
          go_wp2_with fail
          refine (HSP.out (.inl (by omega)) _).mono ?_
          rintro e w10 ⟨⟨A, C, rfl⟩, hq10⟩
          have HQ10 := Lib.hid (HQ9.out.trans hq10)
          go_wp2_with fail
          refine (lives_any _).mono ?_
          rintro e w11 ⟨rfl, hq11⟩
          go_wp2_with fail
          go_ret
          exact ⟨rfl, HQ3.out.trans (HQ10.out.trans hq11)⟩
    · go_wp2_with fail
      refine (HDO.out _ (by omega) _).mono ?_
      rintro e w6 ⟨rfl, hq6⟩
      have HQB := Lib.hid (HQA.out.trans hq6)
      have hye : Lm.bs r.dec = y := Option.some.inj HY.out
      have csk := (BKA.out.q hq6).cell 0 rfl
      rw [hye] at csk
      clear hq6 hye
      go_upto_region 14 with fail
      clear csk
      by_cases hz : pr = 0
      · subst hz
        go_wp2_with fail
        refine (HSZ.out _ HQB.out).mono ?_
        rintro e w7 ⟨rfl, hq7⟩
        have HQ7 := Lib.hid (HQB.out.trans hq7)
        clear hq7
        have hxy := str_ne (HNE.out (by omega))
        have hik : (((i : Int) : Int) == (10 : Int)) = false := by rw [beq_eq_false_iff_ne]; omega
        go_wp2_with fail
        refine (HSX.out (.inl (by omega)) _ HQ7.out).mono ?_
        rintro e w8 ⟨rfl, hq8⟩
        have HQ8 := Lib.hid (HQ7.out.trans hq8)
        go_wp2_with fail
        refine (HSY.out (.inl (by omega)) _ HQ8.out).mono ?_
        rintro e w9 ⟨rfl, hq9⟩
        have HQ9 := Lib.hid (HQ8.out.trans hq9)
        go_wp2_with fail
        refine (HSP.out (.inl (by omega)) _).mono ?_
        rintro e w10 ⟨⟨A, C, rfl⟩, hq10⟩
        have HQ10 := Lib.hid (HQ9.out.trans hq10)
        go_wp2_with fail
        refine (lives_any _).mono ?_
        rintro e w11 ⟨rfl, hq11⟩
        go_wp2_with fail
        go_ret
        exact ⟨rfl, HQ3.out.trans (HQ10.out.trans hq11)⟩
      · have hzb : (pr == 0) = false := beq_eq_false_iff_ne.2 hz
        go_wp2_with fail
        refine (HSZ.out _ HQB.out).mono ?_
        rintro e w7 ⟨rfl, hq7⟩
        have HQ7 := Lib.hid (HQB.out.trans hq7)
        clear hq7
        have hxy := str_ne (HNE.out (by omega))
        have hik : (((i : Int) : Int) == (10 : Int)) = false := by rw [beq_eq_false_iff_ne]; omega
        go_wp2_with fail
        refine (HSX.out (.inl (by omega)) _ HQ7.out).mono ?_
        rintro e w8 ⟨rfl, hq8⟩
        have HQ8 := Lib.hid (HQ7.out.trans hq8)
        go_wp2_with fail
        refine (HSY.out (.inl (by omega)) _ HQ8.out).mono ?_
        rintro e w9 ⟨rfl, hq9⟩
        have HQ9 := Lib.hid (HQ8.out.trans hq9)
        go_wp2_with fail
        refine (HSP.out (.inl (by omega)) _).mono ?_
        rintro e w10 ⟨⟨A, C, rfl⟩, hq10⟩
        have HQ10 := Lib.hid (HQ9.out.trans hq10)
        go_wp2_with fail
        refine (lives_any _).mono ?_
        rintro e w11 ⟨rfl, hq11⟩
        go_wp2_with fail
        go_ret
        exact ⟨rfl, HQ3.out.trans (HQ10.out.trans hq11)⟩
    · go_wp2_with fail
      refine (HDO.out _ (by omega) _).mono ?_
      rintro e w6 ⟨rfl, hq6⟩
      have HQB := Lib.hid (HQA.out.trans hq6)
      have hye : Lm.bs r.grp = y := Option.some.inj HY.out
      have csk := (BKA.out.q hq6).cell 1 rfl
      rw [hye] at csk
      clear hq6 hye
      go_upto_region 14 with fail
      clear csk
      by_cases hz : pr = 0
      · subst hz
        go_wp2_with fail
        refine (HSZ.out _ HQB.out).mono ?_
        rintro e w7 ⟨rfl, hq7⟩
        have HQ7 := Lib.hid (HQB.out.trans hq7)
        clear hq7
        go_wp2_with fail
        refine (HS0.out _ HQ7.out).mono ?_
        rintro e w8 ⟨rfl, hq8⟩
        go_wp2_with fail
        refine (lives_any _).mono ?_
        rintro e w9 ⟨rfl, hq9⟩
        go_wp2_with fail
        go_ret
        exact ⟨rfl, HQ3.out.trans (HQ7.out.trans (hq8.trans hq9))⟩
      · have hzb : (pr == 0) = false := beq_eq_false_iff_ne.2 hz
        go_wp2_with fail
        refine (HSZ.out _ HQB.out).mono ?_
        rintro e w7 ⟨rfl, hq7⟩
        have HQ7 := Lib.hid (HQB.out.trans hq7)
        clear hq7
        have hxy := str_ne (HNE.out (by omega))
        have hik : (((i : Int) : Int) == (11 : Int)) = false := by rw [beq_eq_false_iff_ne]; omega
        go_wp2_with fail
        refine (HSX.out (.inl (by omega)) _ HQ7.out).mono ?_
        rintro e w8 ⟨rfl, hq8⟩
        have HQ8 := Lib.hid (HQ7.out.trans hq8)
        go_wp2_with fail
        refine (HSY.out (.inr (by omega)) _ HQ8.out).mono ?_
        rintro e w9 ⟨rfl, hq9⟩
        have HQ9 := Lib.hid (HQ8.out.trans hq9)
        go_wp2_with fail
        refine (HSP.out (.inl (by omega)) _).mono ?_
        rintro e w10 ⟨⟨A, C, rfl⟩, hq10⟩
        have HQ10 := Lib.hid (HQ9.out.trans hq10)
        go_wp2_with fail
        refine (lives_any _).mono ?_
        rintro e w11 ⟨rfl, hq11⟩
        go_wp2_with fail
        go_ret
        exact ⟨rfl, HQ3.out.trans (HQ10.out.trans hq11)⟩
    · go_wp2_with fail
      refine (HDO.out _ (by omega) _).mono ?_
      rintro e w6 ⟨rfl, hq6⟩
      have HQB := Lib.hid (HQA.out.trans hq6)
      have hye : Lm.bs r.min = y := Option.some.inj HY.out
      have csk := (BKA.out.q hq6).cell 2 rfl
      rw [hye] at csk
      clear hq6 hye
      go_upto_region 14 with fail
      clear csk
      by_cases hz : pr = 0
      · subst hz
        go_wp2_with fail
        refine (HSZ.out _ HQB.out).mono ?_
        rintro e w7 ⟨rfl, hq7⟩
        have HQ7 := Lib.hid (HQB.out.trans hq7)
        clear hq7
        have hxy := str_ne (HNE.out (by omega))
        have hik : (((i : Int) : Int) == (12 : Int)) = false := by rw [beq_eq_false_iff_ne]; omega
        go_wp2_with fail
        refine (HSX.out (.inl (by omega)) _ HQ7.out).mono ?_
        rintro e w8 ⟨rfl, hq8⟩
        have HQ8 := Lib.hid (HQ7.out.trans hq8)
        go_wp2_with fail
        refine (HSY.out (.inl (by omega)) _ HQ8.out).mono ?_
        rintro e w9 ⟨rfl, hq9⟩
        have HQ9 := Lib.hid (HQ8.out.trans hq9)
        go_wp2_with fail
        refine (HSP.out (.inl (by omega)) _).mono ?_
        rintro e w10 ⟨⟨A, C, rfl⟩, hq10⟩
        have HQ10 := Lib.hid (HQ9.out.trans hq10)
        go_wp2_with fail
        refine (lives_any _).mono ?_
        rintro e w11 ⟨rfl, hq11⟩
        go_wp2_with fail
        go_ret
        exact ⟨rfl, HQ3.out.trans (HQ10.out.trans hq11)⟩
      · have hzb : (pr == 0) = false := beq_eq_false_iff_ne.2 hz
        go_wp2_with fail
        refine (HSZ.out _ HQB.out).mono ?_
        rintro e w7 ⟨rfl, hq7⟩
        have HQ7 := Lib.hid (HQB.out.trans hq7)
        clear hq7
        have hxy := str_ne (HNE.out (by omega))
        have hik : (((i : Int) : Int) == (12 : Int)) = false := by rw [beq_eq_false_iff_ne]; omega
        go_wp2_with fail
        refine (HSX.out (.inl (by omega)) _ HQ7.out).mono ?_
        rintro e w8 ⟨rfl, hq8⟩
        have HQ8 := Lib.hid (HQ7.out.trans hq8)
        go_wp2_with fail
        refine (HSY.out (.inl (by omega)) _ HQ8.out).mono ?_
        rintro e w9 ⟨rfl, hq9⟩
        have HQ9 := Lib.hid (HQ8.out.trans hq9)
        go_wp2_with fail
        refine (HSP.out (.inl (by omega)) _).mono ?_
        rintro e w10 ⟨⟨A, C, rfl⟩, hq10⟩
        have HQ10 := Lib.hid (HQ9.out.trans hq10)
        go_wp2_with fail
        refine (lives_any _).mono ?_
        rintro e w11 ⟨rfl, hq11⟩
        go_wp2_with fail
        go_ret
        exact ⟨rfl, HQ3.out.trans (HQ10.out.trans hq11)⟩

  · go_wp2_with fail
    refine (HDO.out _ (by omega) _).mono ?_
    rintro e w5 ⟨rfl, hq5⟩
    have HQA := Lib.hid (HQ4.out.trans hq5)
    have BKA := Lib.hid (HSL.out.q hq5)
    have hxe : Lm.bs r.dec = x := Option.some.inj HX.out
    have csi := (HSL.out.q hq5).cell 0 rfl
    rw [hxe] at csi
    clear hq5 hxe
    go_upto_region 11 with fail
    clear csi
    have hkc : k < 10 ∨ k = 10 ∨ k = 11 ∨ k = 12 := by omega
    rcases hkc with hkl | rfl | rfl | rfl
    · have hki : (k : Int) < 10 := by omega
      have hkj : ¬ (9 : Int) < (k : Int) := by omega
      have hkne : ((k : Int) == 11) = false := by rw [beq_eq_false_iff_ne]; omega
      go_wp2_with fail
      refine (HDK.out hkl _ HQA.out).mono ?_
      rintro e w6 ⟨rfl, hq6⟩
      have HQB := Lib.hid (HQA.out.trans hq6)
      clear hq6
      go_upto_region 14 with fail
      by_cases hz : pr = 0
      · subst hz
        go_wp2_with fail
        refine (HSZ.out _ HQB.out).mono ?_
        rintro e w7 ⟨rfl, hq7⟩
        have HQ7 := Lib.hid (HQB.out.trans hq7)
        clear hq7
        have hxy := str_ne (HNE.out (by omega))
        have hik : ((10 : Int) == ((k : Int) : Int)) = false := by rw [beq_eq_false_iff_ne]; omega
        go_wp2_with fail
        refine (HSX.out (.inl (by omega)) _ HQ7.out).mono ?_
        rintro e w8 ⟨rfl, hq8⟩
        have HQ8 := Lib.hid (HQ7.out.trans hq8)
        go_wp2_with fail
        refine (HSY.out (.inl (by omega)) _ HQ8.out).mono ?_
        rintro e w9 ⟨rfl, hq9⟩
        have HQ9 := Lib.hid (HQ8.out.trans hq9)
        go_wp2_with fail
        refine (HSP.out (.inl (by omega)) _).mono ?_
        rintro e w10 ⟨⟨A, C, rfl⟩, hq10⟩
        have HQ10 := Lib.hid (HQ9.out.trans hq10)
        go_wp2_with fail
        refine (lives_any _).mono ?_
        rintro e w11 ⟨rfl, hq11⟩
        go_wp2_with fail
        go_ret
        exact ⟨rfl, HQ3.out.trans (HQ10.out.trans hq11)⟩
      · have hzb : (pr == 0) = false := beq_eq_false_iff_ne.2 hz
        go_wp2_with fail
        refine (HSZ.out _ HQB.out).mono ?_
        rintro e w7 ⟨rfl, hq7⟩
        have HQ7 := Lib.hid (HQB.out.trans hq7)
        clear hq7
        have hxy := str_ne (HNE.out (by omega))
        have hik : ((10 : Int) == ((k : Int) : Int)) = false := by rw [beq_eq_false_iff_ne]; omega
        go_wp2_with fail
        refine (HSX.out (.inl (by omega)) _ HQ7.out).mono ?_
        rintro e w8 ⟨rfl, hq8⟩
        have HQ8 := Lib.hid (HQ7.out.trans hq8)
        go_wp2_with fail
        refine (HSY.out (.inl (by omega)) _ HQ8.out).mono ?_
        rintro e w9 ⟨rfl, hq9⟩
        have HQ9 := Lib.hid (HQ8.out.trans hq9)
        go_wp2_with fail
        refine (HSP.out (.inl (by omega)) _).mono ?_
        rintro e w10 ⟨⟨A, C, rfl⟩, hq10⟩
        have HQ10 := Lib.hid (HQ9.out.trans hq10)
        go_wp2_with fail
        refine (lives_any _).mono ?_
        rintro e w11 ⟨rfl, hq11⟩
        go_wp2_with fail
        go_ret
        exact ⟨rfl, HQ3.out.trans (HQ10.out.trans hq11)⟩
    · go_wp2_with fail
      refine (HDO.out _ (by omega) _).mono ?_
      rintro e w6 ⟨rfl, hq6⟩
      have HQB := Lib.hid (HQA.out.trans hq6)
      have hye : Lm.bs r.dec = y := Option.some.inj HY.out
      have csk := (BKA.out.q hq6).cell 0 rfl
      rw [hye] at csk
      clear hq6 hye
      go_upto_region 14 with fail
      clear csk
      by_cases hz : pr = 0
      · subst hz
        go_wp2_with fail
        refine (HSZ.out _ HQB.out).mono ?_
        rintro e w7 ⟨rfl, hq7⟩
        have HQ7 := Lib.hid (HQB.out.trans hq7)
        clear hq7
        have hxy := HEQ.out (by first | rfl | trivial)
        subst hxy
        have hb : (x.toList == x.toList) = true := by simp
        go_wp2_with fail
        refine (HSX.out (.inl (by omega)) _ HQ7.out).mono ?_
        rintro e w8 ⟨rfl, hq8⟩
        have HQ8 := Lib.hid (HQ7.out.trans hq8)
        go_wp2_with fail
        refine (HSY.out (.inl (by omega)) _ HQ8.out).mono ?_
        rintro e w9 ⟨rfl, hq9⟩
        have HQ9 := Lib.hid (HQ8.out.trans hq9)
        go_wp2_with fail
        refine (HSP.out (.inl (by omega)) _).mono ?_
        rintro e w10 ⟨⟨A, C, rfl⟩, hq10⟩
        have HQ10 := Lib.hid (HQ9.out.trans hq10)
        go_wp2_with fail
        refine (lives_any _).mono ?_
        rintro e w11 ⟨rfl, hq11⟩
        go_wp2_with fail
        go_ret
        exact ⟨rfl, HQ3.out.trans (HQ10.out.trans hq11)⟩
      · have hzb : (pr == 0) = false := beq_eq_false_iff_ne.2 hz
        go_wp2_with fail
        refine (HSZ.out _ HQB.out).mono ?_
        rintro e w7 ⟨rfl, hq7⟩
        have HQ7 := Lib.hid (HQB.out.trans hq7)
        clear hq7
        have hxy := HEQ.out (by first | rfl | trivial)
        subst hxy
        have hb : (x.toList == x.toList) = true := by simp
        go_wp2_with fail
        refine (HSX.out (.inl (by omega)) _ HQ7.out).mono ?_
        rintro e w8 ⟨rfl, hq8⟩
        have HQ8 := Lib.hid (HQ7.out.trans hq8)
        go_wp2_with fail
        refine (HSY.out (.inl (by omega)) _ HQ8.out).mono ?_
        rintro e w9 ⟨rfl, hq9⟩
        have HQ9 := Lib.hid (HQ8.out.trans hq9)
        go_wp2_with fail
        refine (HSP.out (.inl (by omega)) _).mono ?_
        rintro e w10 ⟨⟨A, C, rfl⟩, hq10⟩
        have HQ10 := Lib.hid (HQ9.out.trans hq10)
        go_wp2_with fail
        refine (lives_any _).mono ?_
        rintro e w11 ⟨rfl, hq11⟩
        go_wp2_with fail
        go_ret
        exact ⟨rfl, HQ3.out.trans (HQ10.out.trans hq11)⟩
    · go_wp2_with fail
      refine (HDO.out _ (by omega) _).mono ?_
      rintro e w6 ⟨rfl, hq6⟩
      have HQB := Lib.hid (HQA.out.trans hq6)
      have hye : Lm.bs r.grp = y := Option.some.inj HY.out
      have csk := (BKA.out.q hq6).cell 1 rfl
      rw [hye] at csk
      clear hq6 hye
      go_upto_region 14 with fail
      clear csk
      by_cases hz : pr = 0
      · subst hz
        go_wp2_with fail
        refine (HSZ.out _ HQB.out).mono ?_
        rintro e w7 ⟨rfl, hq7⟩
        have HQ7 := Lib.hid (HQB.out.trans hq7)
        clear hq7
        go_wp2_with fail
        refine (HS0.out _ HQ7.out).mono ?_
        rintro e w8 ⟨rfl, hq8⟩
        go_wp2_with fail
        refine (lives_any _).mono ?_
        rintro e w9 ⟨rfl, hq9⟩
        go_wp2_with fail
        go_ret
        exact ⟨rfl, HQ3.out.trans (HQ7.out.trans (hq8.trans hq9))⟩
      · have hzb : (pr == 0) = false := beq_eq_false_iff_ne.2 hz
        go_wp2_with fail
        refine (HSZ.out _ HQB.out).mono ?_
        rintro e w7 ⟨rfl, hq7⟩
        have HQ7 := Lib.hid (HQB.out.trans hq7)
        clear hq7
        have hxy := str_ne (HNE.out (by omega))
        have hik : ((10 : Int) == (11 : Int)) = false := by rw [beq_eq_false_iff_ne]; omega
        go_wp2_with fail
        refine (HSX.out (.inl (by omega)) _ HQ7.out).mono ?_
        rintro e w8 ⟨rfl, hq8⟩
        have HQ8 := Lib.hid (HQ7.out.trans hq8)
        go_wp2_with fail
        refine (HSY.out (.inr (by omega)) _ HQ8.out).mono ?_
        rintro e w9 ⟨rfl, hq9⟩
        have HQ9 := Lib.hid (HQ8.out.trans hq9)
        go_wp2_with fail
        refine (HSP.out (.inl (by omega)) _).mono ?_
        rintro e w10 ⟨⟨A, C, rfl⟩, hq10⟩
        have HQ10 := Lib.hid (HQ9.out.trans hq10)
        go_wp2_with fail
        refine (lives_any _).mono ?_
        rintro e w11 ⟨rfl, hq11⟩
        go_wp2_with fail
        go_ret
        exact ⟨rfl, HQ3.out.trans (HQ10.out.trans hq11)⟩
    · go_wp2_with fail
      refine (HDO.out _ (by omega) _).mono ?_
      rintro e w6 ⟨rfl, hq6⟩
      have HQB := Lib.hid (HQA.out.trans hq6)
      have hye : Lm.bs r.min = y := Option.some.inj HY.out
      have csk := (BKA.out.q hq6).cell 2 rfl
      rw [hye] at csk
      clear hq6 hye
      go_upto_region 14 with fail
      clear csk
      by_cases hz : pr = 0
      · subst hz
        go_wp2_with fail
        refine (HSZ.out _ HQB.out).mono ?_
        rintro e w7 ⟨rfl, hq7⟩
        have HQ7 := Lib.hid (HQB.out.trans hq7)
        clear hq7
        have hxy := str_ne (HNE.out (by omega))
        have hik : ((10 : Int) == (12 : Int)) = false := by rw [beq_eq_false_iff_ne]; omega
        go_wp2_with fail
        refine (HSX.out (.inl (by omega)) _ HQ7.out).mono ?_
        rintro e w8 ⟨rfl, hq8⟩
        have HQ8 := Lib.hid (HQ7.out.trans hq8)
        go_wp2_with fail
        refine (HSY.out (.inl (by omega)) _ HQ8.out).mono ?_
        rintro e w9 ⟨rfl, hq9⟩
        have HQ9 := Lib.hid (HQ8.out.trans hq9)
        go_wp2_with fail
        refine (HSP.out (.inl (by omega)) _).mono ?_
        rintro e w10 ⟨⟨A, C, rfl⟩, hq10⟩
        have HQ10 := Lib.hid (HQ9.out.trans hq10)
        go_wp2_with fail
        refine (lives_any _).mono ?_
        rintro e w11 ⟨rfl, hq11⟩
        go_wp2_with fail
        go_ret
        exact ⟨rfl, HQ3.out.trans (HQ10.out.trans hq11)⟩
      · have hzb : (pr == 0) = false := beq_eq_false_iff_ne.2 hz
        go_wp2_with fail
        refine (HSZ.out _ HQB.out).mono ?_
        rintro e w7 ⟨rfl, hq7⟩
        have HQ7 := Lib.hid (HQB.out.trans hq7)
        clear hq7
        have hxy := str_ne (HNE.out (by omega))
        have hik : ((10 : Int) == (12 : Int)) = false := by rw [beq_eq_false_iff_ne]; omega
        go_wp2_with fail
        refine (HSX.out (.inl (by omega)) _ HQ7.out).mono ?_
        rintro e w8 ⟨rfl, hq8⟩
        have HQ8 := Lib.hid (HQ7.out.trans hq8)
        go_wp2_with fail
        refine (HSY.out (.inl (by omega)) _ HQ8.out).mono ?_
        rintro e w9 ⟨rfl, hq9⟩
        have HQ9 := Lib.hid (HQ8.out.trans hq9)
        go_wp2_with fail
        refine (HSP.out (.inl (by omega)) _).mono ?_
        rintro e w10 ⟨⟨A, C, rfl⟩, hq10⟩
        have HQ10 := Lib.hid (HQ9.out.trans hq10)
        go_wp2_with fail
        refine (lives_any _).mono ?_
        rintro e w11 ⟨rfl, hq11⟩
        go_wp2_with fail
        go_ret
        exact ⟨rfl, HQ3.out.trans (HQ10.out.trans hq11)⟩

  · go_wp2_with fail
    refine (HDO.out _ (by omega) _).mono ?_
    rintro e w5 ⟨rfl, hq5⟩
    have HQA := Lib.hid (HQ4.out.trans hq5)
    have BKA := Lib.hid (HSL.out.q hq5)
    have hxe : Lm.bs r.grp = x := Option.some.inj HX.out
    have csi := (HSL.out.q hq5).cell 1 rfl
    rw [hxe] at csi
    clear hq5 hxe
    go_upto_region 11 with fail
    clear csi
    have hkc : k < 10 ∨ k = 10 ∨ k = 11 ∨ k = 12 := by omega
    rcases hkc with hkl | rfl | rfl | rfl
    · have hki : (k : Int) < 10 := by omega
      have hkj : ¬ (9 : Int) < (k : Int) := by omega
      have hkne : ((k : Int) == 11) = false := by rw [beq_eq_false_iff_ne]; omega
      go_wp2_with fail
      refine (HDK.out hkl _ HQA.out).mono ?_
      rintro e w6 ⟨rfl, hq6⟩
      have HQB := Lib.hid (HQA.out.trans hq6)
      clear hq6
      go_upto_region 14 with fail
      by_cases hz : pr = 0
      · subst hz
        go_wp2_with fail
        refine (HSZ.out _ HQB.out).mono ?_
        rintro e w7 ⟨rfl, hq7⟩
        have HQ7 := Lib.hid (HQB.out.trans hq7)
        clear hq7
        go_wp2_with fail
        refine (HS0.out _ HQ7.out).mono ?_
        rintro e w8 ⟨rfl, hq8⟩
        go_wp2_with fail
        refine (lives_any _).mono ?_
        rintro e w9 ⟨rfl, hq9⟩
        go_wp2_with fail
        go_ret
        exact ⟨rfl, HQ3.out.trans (HQ7.out.trans (hq8.trans hq9))⟩
      · have hzb : (pr == 0) = false := beq_eq_false_iff_ne.2 hz
        go_wp2_with fail
        refine (HSZ.out _ HQB.out).mono ?_
        rintro e w7 ⟨rfl, hq7⟩
        have HQ7 := Lib.hid (HQB.out.trans hq7)
        clear hq7
        have hxy := str_ne (HNE.out (by omega))
        have hik : ((11 : Int) == ((k : Int) : Int)) = false := by rw [beq_eq_false_iff_ne]; omega
        go_wp2_with fail
        refine (HSX.out (.inr (by omega)) _ HQ7.out).mono ?_
        rintro e w8 ⟨rfl, hq8⟩
        have HQ8 := Lib.hid (HQ7.out.trans hq8)
        go_wp2_with fail
        refine (HSY.out (.inl (by omega)) _ HQ8.out).mono ?_
        rintro e w9 ⟨rfl, hq9⟩
        have HQ9 := Lib.hid (HQ8.out.trans hq9)
        go_wp2_with fail
        refine (HSP.out (.inr (by omega)) _).mono ?_
        rintro e w10 ⟨⟨A, C, rfl⟩, hq10⟩
        have HQ10 := Lib.hid (HQ9.out.trans hq10)
        go_wp2_with fail
        refine (lives_any _).mono ?_
        rintro e w11 ⟨rfl, hq11⟩
        go_wp2_with fail
        go_ret
        exact ⟨rfl, HQ3.out.trans (HQ10.out.trans hq11)⟩
    · go_wp2_with fail
      refine (HDO.out _ (by omega) _).mono ?_
      rintro e w6 ⟨rfl, hq6⟩
      have HQB := Lib.hid (HQA.out.trans hq6)
      have hye : Lm.bs r.dec = y := Option.some.inj HY.out
      have csk := (BKA.out.q hq6).cell 0 rfl
      rw [hye] at csk
      clear hq6 hye
      go_upto_region 14 with fail
      clear csk
      by_cases hz : pr = 0
      · subst hz
        go_wp2_with fail
        refine (HSZ.out _ HQB.out).mono ?_
        rintro e w7 ⟨rfl, hq7⟩
        have HQ7 := Lib.hid (HQB.out.trans hq7)
        clear hq7
        go_wp2_with fail
        refine (HS0.out _ HQ7.out).mono ?_
        rintro e w8 ⟨rfl, hq8⟩
        go_wp2_with fail
        refine (lives_any _).mono ?_
        rintro e w9 ⟨rfl, hq9⟩
        go_wp2_with fail
        go_ret
        exact ⟨rfl, HQ3.out.trans (HQ7.out.trans (hq8.trans hq9))⟩
      · have hzb : (pr == 0) = false := beq_eq_false_iff_ne.2 hz
        go_wp2_with fail
        refine (HSZ.out _ HQB.out).mono ?_
        rintro e w7 ⟨rfl, hq7⟩
        have HQ7 := Lib.hid (HQB.out.trans hq7)
        clear hq7
        have hxy := str_ne (HNE.out (by omega))
        have hik : ((11 : Int) == (10 : Int)) = false := by rw [beq_eq_false_iff_ne]; omega
        go_wp2_with fail
        refine (HSX.out (.inr (by omega)) _ HQ7.out).mono ?_
        rintro e w8 ⟨rfl, hq8⟩
        have HQ8 := Lib.hid (HQ7.out.trans hq8)
        go_wp2_with fail
        refine (HSY.out (.inl (by omega)) _ HQ8.out).mono ?_
        rintro e w9 ⟨rfl, hq9⟩
        have HQ9 := Lib.hid (HQ8.out.trans hq9)
        go_wp2_with fail
        refine (HSP.out (.inr (by omega)) _).mono ?_
        rintro e w10 ⟨⟨A, C, rfl⟩, hq10⟩
        have HQ10 := Lib.hid (HQ9.out.trans hq10)
        go_wp2_with fail
        refine (lives_any _).mono ?_
        rintro e w11 ⟨rfl, hq11⟩
        go_wp2_with fail
        go_ret
        exact ⟨rfl, HQ3.out.trans (HQ10.out.trans hq11)⟩
    · go_wp2_with fail
      refine (HDO.out _ (by omega) _).mono ?_
      rintro e w6 ⟨rfl, hq6⟩
      have HQB := Lib.hid (HQA.out.trans hq6)
      have hye : Lm.bs r.grp = y := Option.some.inj HY.out
      have csk := (BKA.out.q hq6).cell 1 rfl
      rw [hye] at csk
      clear hq6 hye
      go_upto_region 14 with fail
      clear csk
      by_cases hz : pr = 0
      · subst hz
        go_wp2_with fail
        refine (HSZ.out _ HQB.out).mono ?_
        rintro e w7 ⟨rfl, hq7⟩
        have HQ7 := Lib.hid (HQB.out.trans hq7)
        clear hq7
        go_wp2_with fail
        refine (HS0.out _ HQ7.out).mono ?_
        rintro e w8 ⟨rfl, hq8⟩
        go_wp2_with fail
        refine (lives_any _).mono ?_
        rintro e w9 ⟨rfl, hq9⟩
        go_wp2_with fail
        go_ret
        exact ⟨rfl, HQ3.out.trans (HQ7.out.trans (hq8.trans hq9))⟩
      · have hzb : (pr == 0) = false := beq_eq_false_iff_ne.2 hz
        go_wp2_with fail
        refine (HSZ.out _ HQB.out).mono ?_
        rintro e w7 ⟨rfl, hq7⟩
        have HQ7 := Lib.hid (HQB.out.trans hq7)
        clear hq7
        have hxy := HEQ.out (by first | rfl | trivial)
        subst hxy
        have hb : (x.toList == x.toList) = true := by simp
        go_wp2_with fail
        refine (HSX.out (.inr (by omega)) _ HQ7.out).mono ?_
        rintro e w8 ⟨rfl, hq8⟩
        have HQ8 := Lib.hid (HQ7.out.trans hq8)
        go_wp2_with fail
        refine (HSY.out (.inr (by omega)) _ HQ8.out).mono ?_
        rintro e w9 ⟨rfl, hq9⟩
        have HQ9 := Lib.hid (HQ8.out.trans hq9)
        go_wp2_with fail
        refine (HSP.out (.inr (by omega)) _).mono ?_
        rintro e w10 ⟨⟨A, C, rfl⟩, hq10⟩
        have HQ10 := Lib.hid (HQ9.out.trans hq10)
        go_wp2_with fail
        refine (lives_any _).mono ?_
        rintro e w11 ⟨rfl, hq11⟩
        go_wp2_with fail
        go_ret
        exact ⟨rfl, HQ3.out.trans (HQ10.out.trans hq11)⟩
    · go_wp2_with fail
      refine (HDO.out _ (by omega) _).mono ?_
      rintro e w6 ⟨rfl, hq6⟩
      have HQB := Lib.hid (HQA.out.trans hq6)
      have hye : Lm.bs r.min = y := Option.some.inj HY.out
      have csk := (BKA.out.q hq6).cell 2 rfl
      rw [hye] at csk
      clear hq6 hye
      go_upto_region 14 with fail
      clear csk
      by_cases hz : pr = 0
      · subst hz
        go_wp2_with fail
        refine (HSZ.out _ HQB.out).mono ?_
        rintro e w7 ⟨rfl, hq7⟩
        have HQ7 := Lib.hid (HQB.out.trans hq7)
        clear hq7
        go_wp2_with fail
        refine (HS0.out _ HQ7.out).mono ?_
        rintro e w8 ⟨rfl, hq8⟩
        go_wp2_with fail
        refine (lives_any _).mono ?_
        rintro e w9 ⟨rfl, hq9⟩
        go_wp2_with fail
        go_ret
        exact ⟨rfl, HQ3.out.trans (HQ7.out.trans (hq8.trans hq9))⟩
      · have hzb : (pr == 0) = false := beq_eq_false_iff_ne.2 hz
        go_wp2_with fail
        refine (HSZ.out _ HQB.out).mono ?_
        rintro e w7 ⟨rfl, hq7⟩
        have HQ7 := Lib.hid (HQB.out.trans hq7)
        clear hq7
        have hxy := str_ne (HNE.out (by omega))
        have hik : ((11 : Int) == (12 : Int)) = false := by rw [beq_eq_false_iff_ne]; omega
        go_wp2_with fail
        refine (HSX.out (.inr (by omega)) _ HQ7.out).mono ?_
        rintro e w8 ⟨rfl, hq8⟩
        have HQ8 := Lib.hid (HQ7.out.trans hq8)
        go_wp2_with fail
        refine (HSY.out (.inl (by omega)) _ HQ8.out).mono ?_
        rintro e w9 ⟨rfl, hq9⟩
        have HQ9 := Lib.hid (HQ8.out.trans hq9)
        go_wp2_with fail
        refine (HSP.out (.inr (by omega)) _).mono ?_
        rintro e w10 ⟨⟨A, C, rfl⟩, hq10⟩
        have HQ10 := Lib.hid (HQ9.out.trans hq10)
        go_wp2_with fail
        refine (lives_any _).mono ?_
        rintro e w11 ⟨rfl, hq11⟩
        go_wp2_with fail
        go_ret
        exact ⟨rfl, HQ3.out.trans (HQ10.out.trans hq11)⟩

  · go_wp2_with fail
    refine (HDO.out _ (by omega) _).mono ?_
    rintro e w5 ⟨rfl, hq5⟩
    have HQA := Lib.hid (HQ4.out.trans hq5)
    have BKA := Lib.hid (HSL.out.q hq5)
    have hxe : Lm.bs r.min = x := Option.some.inj HX.out
    have csi := (HSL.out.q hq5).cell 2 rfl
    rw [hxe] at csi
    clear hq5 hxe
    go_upto_region 11 with fail
    clear csi
    have hkc : k < 10 ∨ k = 10 ∨ k = 11 ∨ k = 12 := by omega
    rcases hkc with hkl | rfl | rfl | rfl
    · have hki : (k : Int) < 10 := by omega
      have hkj : ¬ (9 : Int) < (k : Int) := by omega
      have hkne : ((k : Int) == 11) = false := by rw [beq_eq_false_iff_ne]; omega
      go_wp2_with fail
      refine (HDK.out hkl _ HQA.out).mono ?_
      rintro e w6 ⟨rfl, hq6⟩
      have HQB := Lib.hid (HQA.out.trans hq6)
      clear hq6
      go_upto_region 14 with fail
      by_cases hz : pr = 0
      · subst hz
        go_wp2_with fail
        refine (HSZ.out _ HQB.out).mono ?_
        rintro e w7 ⟨rfl, hq7⟩
        have HQ7 := Lib.hid (HQB.out.trans hq7)
        clear hq7
        have hxy := str_ne (HNE.out (by omega))
        have hik : ((12 : Int) == ((k : Int) : Int)) = false := by rw [beq_eq_false_iff_ne]; omega
        go_wp2_with fail
        refine (HSX.out (.inl (by omega)) _ HQ7.out).mono ?_
        rintro e w8 ⟨rfl, hq8⟩
        have HQ8 := Lib.hid (HQ7.out.trans hq8)
        go_wp2_with fail
        refine (HSY.out (.inl (by omega)) _ HQ8.out).mono ?_
        rintro e w9 ⟨rfl, hq9⟩
        have HQ9 := Lib.hid (HQ8.out.trans hq9)
        go_wp2_with fail
        refine (HSP.out (.inl (by omega)) _).mono ?_
        rintro e w10 ⟨⟨A, C, rfl⟩, hq10⟩
        have HQ10 := Lib.hid (HQ9.out.trans hq10)
        go_wp2_with fail
        refine (lives_any _).mono ?_
        rintro e w11 ⟨rfl, hq11⟩
        go_wp2_with fail
        go_ret
        exact ⟨rfl, HQ3.out.trans (HQ10.out.trans hq11)⟩
      · have hzb : (pr == 0) = false := beq_eq_false_iff_ne.2 hz
        go_wp2_with fail
        refine (HSZ.out _ HQB.out).mono ?_
        rintro e w7 ⟨rfl, hq7⟩
        have HQ7 := Lib.hid (HQB.out.trans hq7)
        clear hq7
        have hxy := str_ne (HNE.out (by omega))
        have hik : ((12 : Int) == ((k : Int) : Int)) = false := by rw [beq_eq_false_iff_ne]; omega
        go_wp2_with fail
        refine (HSX.out (.inl (by omega)) _ HQ7.out).mono ?_
        rintro e w8 ⟨rfl, hq8⟩
        have HQ8 := Lib.hid (HQ7.out.trans hq8)
        go_wp2_with fail
        refine (HSY.out (.inl (by omega)) _ HQ8.out).mono ?_
        rintro e w9 ⟨rfl, hq9⟩
        have HQ9 := Lib.hid (HQ8.out.trans hq9)
        go_wp2_with fail
        refine (HSP.out (.inl (by omega)) _).mono ?_
        rintro e w10 ⟨⟨A, C, rfl⟩, hq10⟩
        have HQ10 := Lib.hid (HQ9.out.trans hq10)
        go_wp2_with fail
        refine (lives_any _).mono ?_
        rintro e w11 ⟨rfl, hq11⟩
        go_wp2_with fail
        go_ret
        exact ⟨rfl, HQ3.out.trans (HQ10.out.trans hq11)⟩
    · go_wp2_with fail
      refine (HDO.out _ (by omega) _).mono ?_
      rintro e w6 ⟨rfl, hq6⟩
      have HQB := Lib.hid (HQA.out.trans hq6)
      have hye : Lm.bs r.dec = y := Option.some.inj HY.out
      have csk := (BKA.out.q hq6).cell 0 rfl
      rw [hye] at csk
      clear hq6 hye
      go_upto_region 14 with fail
      clear csk
      by_cases hz : pr = 0
      · subst hz
        go_wp2_with fail
        refine (HSZ.out _ HQB.out).mono ?_
        rintro e w7 ⟨rfl, hq7⟩
        have HQ7 := Lib.hid (HQB.out.trans hq7)
        clear hq7
        have hxy := str_ne (HNE.out (by omega))
        have hik : ((12 : Int) == (10 : Int)) = false := by rw [beq_eq_false_iff_ne]; omega
        go_wp2_with fail
        refine (HSX.out (.inl (by omega)) _ HQ7.out).mono ?_
        rintro e w8 ⟨rfl, hq8⟩
        have HQ8 := Lib.hid (HQ7.out.trans hq8)
        go_wp2_with fail
        refine (HSY.out (.inl (by omega)) _ HQ8.out).mono ?_
        rintro e w9 ⟨rfl, hq9⟩
        have HQ9 := Lib.hid (HQ8.out.trans hq9)
        go_wp2_with fail
        refine (HSP.out (.inl (by omega)) _).mono ?_
        rintro e w10 ⟨⟨A, C, rfl⟩, hq10⟩
        have HQ10 := Lib.hid (HQ9.out.trans hq10)
        go_wp2_with fail
        refine (lives_any _).mono ?_
        rintro e w11 ⟨rfl, hq11⟩
        go_wp2_with fail
        go_ret
        exact ⟨rfl, HQ3.out.trans (HQ10.out.trans hq11)⟩
      · have hzb : (pr == 0) = false := beq_eq_false_iff_ne.2 hz
        go_wp2_with fail
        refine (HSZ.out _ HQB.out).mono ?_
        rintro e w7 ⟨rfl, hq7⟩
        have HQ7 := Lib.hid (HQB.out.trans hq7)
        clear hq7
        have hxy := str_ne (HNE.out (by omega))
        have hik : ((12 : Int) == (10 : Int)) = false := by rw [beq_eq_false_iff_ne]; omega
        go_wp2_with fail
        refine (HSX.out (.inl (by omega)) _ HQ7.out).mono ?_
        rintro e w8 ⟨rfl, hq8⟩
        have HQ8 := Lib.hid (HQ7.out.trans hq8)
        go_wp2_with fail
        refine (HSY.out (.inl (by omega)) _ HQ8.out).mono ?_
        rintro e w9 ⟨rfl, hq9⟩
        have HQ9 := Lib.hid (HQ8.out.trans hq9)
        go_wp2_with fail
        refine (HSP.out (.inl (by omega)) _).mono ?_
        rintro e w10 ⟨⟨A, C, rfl⟩, hq10⟩
        have HQ10 := Lib.hid (HQ9.out.trans hq10)
        go_wp2_with fail
        refine (lives_any _).mono ?_
        rintro e w11 ⟨rfl, hq11⟩
        go_wp2_with fail
        go_ret
        exact ⟨rfl, HQ3.out.trans (HQ10.out.trans hq11)⟩
    · go_wp2_with fail
      refine (HDO.out _ (by omega) _).mono ?_
      rintro e w6 ⟨rfl, hq6⟩
      have HQB := Lib.hid (HQA.out.trans hq6)
      have hye : Lm.bs r.grp = y := Option.some.inj HY.out
      have csk := (BKA.out.q hq6).cell 1 rfl
      rw [hye] at csk
      clear hq6 hye
      go_upto_region 14 with fail
      clear csk
      by_cases hz : pr = 0
      · subst hz
        go_wp2_with fail
        refine (HSZ.out _ HQB.out).mono ?_
        rintro e w7 ⟨rfl, hq7⟩
        have HQ7 := Lib.hid (HQB.out.trans hq7)
        clear hq7
        go_wp2_with fail
        refine (HS0.out _ HQ7.out).mono ?_
        rintro e w8 ⟨rfl, hq8⟩
        go_wp2_with fail
        refine (lives_any _).mono ?_
        rintro e w9 ⟨rfl, hq9⟩
        go_wp2_with fail
        go_ret
        exact ⟨rfl, HQ3.out.trans (HQ7.out.trans (hq8.trans hq9))⟩
      · have hzb : (pr == 0) = false := beq_eq_false_iff_ne.2 hz
        go_wp2_with fail
        refine (HSZ.out _ HQB.out).mono ?_
        rintro e w7 ⟨rfl, hq7⟩
        have HQ7 := Lib.hid (HQB.out.trans hq7)
        clear hq7
        have hxy := str_ne (HNE.out (by omega))
        have hik : ((12 : Int) == (11 : Int)) = false := by rw [beq_eq_false_iff_ne]; omega
        go_wp2_with fail
        refine (HSX.out (.inl (by omega)) _ HQ7.out).mono ?_
        rintro e w8 ⟨rfl, hq8⟩
        have HQ8 := Lib.hid (HQ7.out.trans hq8)
        go_wp2_with fail
        refine (HSY.out (.inr (by omega)) _ HQ8.out).mono ?_
        rintro e w9 ⟨rfl, hq9⟩
        have HQ9 := Lib.hid (HQ8.out.trans hq9)
        go_wp2_with fail
        refine (HSP.out (.inl (by omega)) _).mono ?_
        rintro e w10 ⟨⟨A, C, rfl⟩, hq10⟩
        have HQ10 := Lib.hid (HQ9.out.trans hq10)
        go_wp2_with fail
        refine (lives_any _).mono ?_
        rintro e w11 ⟨rfl, hq11⟩
        go_wp2_with fail
        go_ret
        exact ⟨rfl, HQ3.out.trans (HQ10.out.trans hq11)⟩
    · go_wp2_with fail
      refine (HDO.out _ (by omega) _).mono ?_
      rintro e w6 ⟨rfl, hq6⟩
      have HQB := Lib.hid (HQA.out.trans hq6)
      have hye : Lm.bs r.min = y := Option.some.inj HY.out
      have csk := (BKA.out.q hq6).cell 2 rfl
      rw [hye] at csk
      clear hq6 hye
      go_upto_region 14 with fail
      clear csk
      by_cases hz : pr = 0
      · subst hz
        go_wp2_with fail
        refine (HSZ.out _ HQB.out).mono ?_
        rintro e w7 ⟨rfl, hq7⟩
        have HQ7 := Lib.hid (HQB.out.trans hq7)
        clear hq7
        have hxy := HEQ.out (by first | rfl | trivial)
        subst hxy
        have hb : (x.toList == x.toList) = true := by simp
        go_wp2_with fail
        refine (HSX.out (.inl (by omega)) _ HQ7.out).mono ?_
        rintro e w8 ⟨rfl, hq8⟩
        have HQ8 := Lib.hid (HQ7.out.trans hq8)
        go_wp2_with fail
        refine (HSY.out (.inl (by omega)) _ HQ8.out).mono ?_
        rintro e w9 ⟨rfl, hq9⟩
        have HQ9 := Lib.hid (HQ8.out.trans hq9)
        go_wp2_with fail
        refine (HSP.out (.inl (by omega)) _).mono ?_
        rintro e w10 ⟨⟨A, C, rfl⟩, hq10⟩
        have HQ10 := Lib.hid (HQ9.out.trans hq10)
        go_wp2_with fail
        refine (lives_any _).mono ?_
        rintro e w11 ⟨rfl, hq11⟩
        go_wp2_with fail
        go_ret
        exact ⟨rfl, HQ3.out.trans (HQ10.out.trans hq11)⟩
      · have hzb : (pr == 0) = false := beq_eq_false_iff_ne.2 hz
        go_wp2_with fail
        refine (HSZ.out _ HQB.out).mono ?_
        rintro e w7 ⟨rfl, hq7⟩
        have HQ7 := Lib.hid (HQB.out.trans hq7)
        clear hq7
        have hxy := HEQ.out (by first | rfl | trivial)
        subst hxy
        have hb : (x.toList == x.toList) = true := by simp
        go_wp2_with fail
        refine (HSX.out (.inl (by omega)) _ HQ7.out).mono ?_
        rintro e w8 ⟨rfl, hq8⟩
        have HQ8 := Lib.hid (HQ7.out.trans hq8)
        go_wp2_with fail
        refine (HSY.out (.inl (by omega)) _ HQ8.out).mono ?_
        rintro e w9 ⟨rfl, hq9⟩
        have HQ9 := Lib.hid (HQ8.out.trans hq9)
        go_wp2_with fail
        refine (HSP.out (.inl (by omega)) _).mono ?_
        rintro e w10 ⟨⟨A, C, rfl⟩, hq10⟩
        have HQ10 := Lib.hid (HQ9.out.trans hq10)
        go_wp2_with fail
        refine (lives_any _).mono ?_
        rintro e w11 ⟨rfl, hq11⟩
        go_wp2_with fail
        go_ret
        exact ⟨rfl, HQ3.out.trans (HQ10.out.trans hq11)⟩



end Ro
end Go.Proofs.YtoojfpkmgiemoaaGreatDoor
