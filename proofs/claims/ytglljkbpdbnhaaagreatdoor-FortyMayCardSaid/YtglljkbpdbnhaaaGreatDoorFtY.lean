/- Each of the forty may be, as the statement asks. -/
import Derived.Test.YtglljkbpdbnhaaaGreatDoorRows
import Derived.Test.YtglljkbpdbnhaaaGreatDoorMA
import Derived.Test.YtglljkbpdbnhaaaGreatDoorMB
import Derived.Test.YtglljkbpdbnhaaaGreatDoorMC
import Derived.Test.YtglljkbpdbnhaaaGreatDoorMT
import Derived.Test.YtglljkbpdbnhaaaGreatDoorLocM
import Derived.Test.YtglljkbpdbnhaaaGreatDoorLocB
import Derived.Test.YtglljkbpdbnhaaaGreatDoorLocJ
import Derived.Test.YtglljkbpdbnhaaaGreatDoorLocZ
import Derived.Test.YtglljkbpdbnhaaaGreatDoorMU
import Derived.Deep.RegionHeld
import Derived.Deep.QuietTactic
import Derived.BigQuiet
import Derived.Deep.Cut
import Derived.OwnWalkIn
import Derived.TacticsInMore
import Derived.LoopNIn
import Derived.LoopIn
set_option linter.unusedVariables false
set_option linter.unusedSimpArgs false
namespace Go.Proofs.YtglljkbpdbnhaaaGreatDoor
open Go.RowKit Go.Shelf Um
attribute [local go_sem] Oper.semAt_some
namespace Ft


theorem sgn_at {r : Lm.Rec} {X : Pt.Pat} (hO : Lm.Ok r X) {i : Nat} {x : ByteArray} (h : (Lm.syms r)[i]? = some x) (hi : i ≠ 11) : Lm.sgn r x = i := by
  have h0 := hO.ne i x h hi
  unfold Lm.sgn
  rw [if_neg (by omega), Lm.plc_nodup _ 0 i x hO.dis h]
  simp
set_option maxRecDepth 100000 in
set_option maxHeartbeats 8000000 in
theorem law_may (n : Int) (w : World) (h0 : -9223372036854775808 ≤ n) (h1 : n ≤ 9223372036854775807) :
    Calls Tryz.prog 6 #[.int .i64 n] w fun e w' => e = .returned (.bool true) ∧ Q w w' := by
  have HO := Lib.hid (fun u => Fr.one_any n u h0 h1)
  have HLV := Lib.hid (fun u => lives_any u)
  have hba := around_bd n 40 (by omega)
  have hk40 : (around n 40).toNat < 40 := by omega
  generalize (around n 40).toNat = k at *
  have HX := Lib.hid (fun u => record_get (Lm.bs (Fm.T k).nam) u)
  rw [rr_nam hk40, er_nam hk40] at HX
  have HG := Lib.hid (fun u => get_some k u hk40)
  have HN := Lib.hid (fun u => new_forty k hk40 u)
  have HK := Lib.hid (Fm.f_ok k hk40)
  clear hba h0 h1 hk40
  generalize Fm.P (Fm.nP k) = X at *
  have HT : Hid (rV (Fm.T k) = .agg #[.string (Lm.bs (Fm.T k).nam), .string (Lm.bs (Fm.T k).pat), .string (Lm.bs (Fm.T k).sys), .string (Lm.bs (Fm.T k).dec), .string (Lm.bs (Fm.T k).grp), .string (Lm.bs (Fm.T k).min), .string (Lm.bs (Fm.T k).per), .string (Lm.bs (Fm.T k).cur)]) := Lib.hid rfl
  have HT2 : Hid (Lo.recV (Fm.T k) = .agg #[.string (Lm.bs (Fm.T k).nam), .string (Lm.bs (Fm.T k).pat), .string (Lm.bs (Fm.T k).sys), .string (Lm.bs (Fm.T k).dec), .string (Lm.bs (Fm.T k).grp), .string (Lm.bs (Fm.T k).min), .string (Lm.bs (Fm.T k).per), .string (Lm.bs (Fm.T k).cur)]) := Lib.hid rfl
  rw [HT.out] at HO HX
  rw [HT2.out] at HN
  clear HT HT2
  obtain ⟨r, hr⟩ : ∃ r, r = Fm.T k := ⟨_, rfl⟩
  rw [← hr] at HO HX HN HG HK
  clear hr
  have HRV : Hid (Lo.recV r = .agg #[.string (Lm.bs r.nam), .string (Lm.bs r.pat), .string (Lm.bs r.sys), .string (Lm.bs r.dec), .string (Lm.bs r.grp), .string (Lm.bs r.min), .string (Lm.bs r.per), .string (Lm.bs r.cur)]) := Lib.hid rfl
  have HD1 := Lib.hid (sgn_at HK.out (i := 10) rfl (by omega))
  have HD2 := Lib.hid (sgn_at HK.out (i := 12) rfl (by omega))
  generalize Lm.bs r.nam = s0 at HO HX HN HG HRV HD1 HD2
  generalize Lm.bs r.pat = s1 at HO HX HN HG HRV HD1 HD2
  generalize Lm.bs r.sys = s2 at HO HX HN HG HRV HD1 HD2
  generalize Lm.bs r.dec = s3 at HO HX HN HG HRV HD1 HD2
  generalize Lm.bs r.grp = s4 at HO HX HN HG HRV HD1 HD2
  generalize Lm.bs r.min = s5 at HO HX HN HG HRV HD1 HD2
  generalize Lm.bs r.per = s6 at HO HX HN HG HRV HD1 HD2
  generalize Lm.bs r.cur = s7 at HO HX HN HG HRV HD1 HD2
  go_enter Tryz.func6, Tryz.ntmps6
  go_wp2_with fail
  refine (HO.out _).mono ?_
  rintro e w1 ⟨rfl, hq1⟩
  obtain ⟨W1, hW1⟩ : ∃ x, x = w1.alloc (.cells #[.string s0, .string s1, .string s2, .string s3, .string s4, .string s5, .string s6, .string s7] 25) := ⟨_, rfl⟩
  have HQ1 := Lib.hid (show Q w W1 by rw [hW1]; exact hq1.alloc _)
  have hm := (show Bk W1 w1.heap.size 25 [.string s0, .string s1, .string s2, .string s3, .string s4, .string s5, .string s6, .string s7] by rw [hW1]; exact Bk.new _ _ _)
  obtain ⟨bW, hbW⟩ : ∃ b, b = w1.heap.size := ⟨_, rfl⟩
  rw [← hbW] at hm
  have HM := Lib.hid hm
  have m0 := hm.cell 0 rfl
  clear hq1 hm
  go_upto_region 2 with fail
  rw [← hW1, ← hbW]
  clear hW1 hbW
  go_wp2_with fail
  refine (HX.out _).mono ?_
  rintro e w3 ⟨rfl, hq3⟩
  obtain ⟨W3, hW3⟩ : ∃ x, x = w3.alloc (.cells #[.string s0, .string s1, .string s2, .string s3, .string s4, .string s5, .string s6, .string s7] 32) := ⟨_, rfl⟩
  have hq3a : Q W1 W3 := by rw [hW3]; exact hq3.alloc _
  have HQ3 := Lib.hid (HQ1.out.trans hq3a)
  have hr := (show Bk W3 w3.heap.size 32 [.string s0, .string s1, .string s2, .string s3, .string s4, .string s5, .string s6, .string s7] by rw [hW3]; exact Bk.new _ _ _)
  obtain ⟨bR, hbR⟩ : ∃ b, b = w3.heap.size := ⟨_, rfl⟩
  rw [← hbR] at hr
  have HRB := Lib.hid hr
  replace HM := Lib.hid (HM.out.q hq3a)
  have m0 := HM.out.cell 0 rfl
  clear hq3 hr hq3a
  go_upto_region 3 with fail
  rw [← hW3, ← hbR]
  clear hW3 hbR
  go_wp2_with fail
  refine (HG.out _).mono ?_
  rintro e w4 ⟨g, a, b, c, d, cl, rfl, hlb, hq4⟩
  have HLB := Lib.hid hlb
  have HQ4 := Lib.hid (HQ3.out.trans hq4)
  replace HM := Lib.hid (HM.out.q hq4)
  replace HRB := Lib.hid (HRB.out.q hq4)
  clear hlb hq4 m0
  have r0 := HRB.out.cell 0 rfl
  have r1 := HRB.out.cell 1 rfl
  have r2 := HRB.out.cell 2 rfl
  have r3 := HRB.out.cell 3 rfl
  have r4 := HRB.out.cell 4 rfl
  have r5 := HRB.out.cell 5 rfl
  have r6 := HRB.out.cell 6 rfl
  have r7 := HRB.out.cell 7 rfl
  go_wp2_with fail
  clear r0 r1 r2 r3 r4 r5 r6 r7
  refine (HN.out _).mono ?_
  rintro e w5 ⟨g2, a2, b2, c2, d2, cl2, rfl, hlb2, hsl2, hq5⟩
  have HLB2 := Lib.hid hlb2
  have HQ5 := Lib.hid (HQ4.out.trans hq5)
  replace HLB := Lib.hid (HLB.out.q hq5)
  replace HM := Lib.hid (HM.out.q hq5)
  replace HRB := Lib.hid (HRB.out.q hq5)
  clear hlb2 hsl2 hq5
  go_wp2_with fail
  refine (Lo.sizes_any g r X a b c d cl _ HLB.out).mono ?_
  rintro e w5b ⟨rfl, hq⟩
  replace HQ5 := Lib.hid (HQ5.out.trans hq)
  replace HLB := Lib.hid (HLB.out.q hq)
  replace HLB2 := Lib.hid (HLB2.out.q hq)
  replace HM := Lib.hid (HM.out.q hq)
  replace HRB := Lib.hid (HRB.out.q hq)
  clear hq
  go_wp2_with fail
  refine (Lo.sizes_any g2 r X a2 b2 c2 d2 cl2 _ HLB2.out).mono ?_
  rintro e w6 ⟨rfl, hq⟩
  have HQ6 := Lib.hid (HQ5.out.trans hq)
  replace HLB := Lib.hid (HLB.out.q hq)
  replace HM := Lib.hid (HM.out.q hq)
  replace HRB := Lib.hid (HRB.out.q hq)
  clear hq HLB2
  have HRE := Lib.hid (fun u (hq : Q w6 u) => Ro.record_any g r X a b c d cl u (HLB.out.q hq))
  rw [HRV.out] at HRE
  have HS1 := Lib.hid (fun u (hq : Q w6 u) => Lo.sign_any g r X a b c d cl s3 u (HLB.out.q hq))
  rw [HD1.out] at HS1
  have HS2 := Lib.hid (fun u (hq : Q w6 u) => Lo.sign_any g r X a b c d cl s5 u (HLB.out.q hq))
  rw [HD2.out] at HS2
  clear HO HX HG HN HK HD1 HD2 HRV
  go_upto_region 9 with fail
  refine wp_region_held_drew (S := fun u => Q w6 u) (by kernel_rfl) (by exact (Q.refl w6).drew) (fun hHeld => ?_)
  have hS : Q w6 w6.drew := hHeld
  clear hHeld
  have hq : Q w6 w6.drew := (Q.refl _).drew
  clear hq
  generalize w6.drew = yR1x0 at *
  change wpAnyH _ _ _ _ _ _ #[false, false, false, false, false, false, false, false, false, false, false, false, false, false, false, false, false, false, false, false, false, false, false, false, false, false, false, false, false, false, false, false, false, false, false, false, false] _ _
  refine wpAnyH_take (i := 0) (v := ?vR1x1) rfl (by kernel_rfl) (by kernel_rfl) (by kernel_rfl) (fun _ _ _ h => h) (Or.inl ⟨by first | kernel_rfl | rfl, ?hyR1x1⟩) (by exact hS) ?rsR1x1
  case hyR1x1 => (intro uz hSw; (try dsimp only at hSw); go_simp; try with_reducible rfl)
  try simp only [Act.put, List.setIfInBounds_toArray, List.set_cons_zero, List.set_cons_succ]
  change wpAnyH _ _ _ _ _ _ #[true, false, false, false, false, false, false, false, false, false, false, false, false, false, false, false, false, false, false, false, false, false, false, false, false, false, false, false, false, false, false, false, false, false, false, false, false] _ _
  refine wpAnyH_take (i := 2) (v := ?vR1x2) rfl (by kernel_rfl) (by kernel_rfl) (by kernel_rfl) (fun _ _ _ h => h) (Or.inl ⟨by first | kernel_rfl | rfl, ?hyR1x2⟩) (by exact hS) ?rsR1x2
  case hyR1x2 => (intro uz hSw; (try dsimp only at hSw); have kr := HRB.out.q hSw; have kw := HM.out.q hSw; have r0 := kr.cell 0 rfl; have m0 := kw.cell 0 rfl; have r1 := kr.cell 1 rfl; have m1 := kw.cell 1 rfl; have r2 := kr.cell 2 rfl; have m2 := kw.cell 2 rfl; have r3 := kr.cell 3 rfl; have m3 := kw.cell 3 rfl; have r4 := kr.cell 4 rfl; have m4 := kw.cell 4 rfl; have r5 := kr.cell 5 rfl; have m5 := kw.cell 5 rfl; have r6 := kr.cell 6 rfl; have m6 := kw.cell 6 rfl; have r7 := kr.cell 7 rfl; have m7 := kw.cell 7 rfl; clear kr kw; go_simp; try with_reducible rfl)
  try simp only [Act.put, List.setIfInBounds_toArray, List.set_cons_zero, List.set_cons_succ]
  change wpAnyH _ _ _ _ _ _ #[true, false, true, false, false, false, false, false, false, false, false, false, false, false, false, false, false, false, false, false, false, false, false, false, false, false, false, false, false, false, false, false, false, false, false, false, false] _ _
  refine wpAnyH_ready (rs := [1]) (by kernel_rfl) (by simp) ?_
  refine (AllReadyH.cons rfl (fun K hK => ?_) AllReadyH.nil)
  go_simp
  refine (HRE.out _ hS).mono ?_
  rintro e yR1x3 ⟨rfl, hq⟩
  try (go_wp2_with fail)
  have hS2 := Q.trans hS hq
  refine hK.out _ _ (by exact hS2) (fun hHeld => ?_)
  clear hK K hHeld hS hq
  have hS := hS2
  clear hS2
  try simp only [Act.put, List.setIfInBounds_toArray, List.set_cons_zero, List.set_cons_succ]
  change wpAnyH _ _ _ _ _ _ #[true, true, true, false, false, false, false, false, false, false, false, false, false, false, false, false, false, false, false, false, false, false, false, false, false, false, false, false, false, false, false, false, false, false, false, false, false] _ _
  refine wpAnyH_take (i := 3) (v := ?vR1x4) rfl (by kernel_rfl) (by kernel_rfl) (by kernel_rfl) (fun _ _ _ h => h) (Or.inl ⟨by first | kernel_rfl | rfl, ?hyR1x4⟩) (by exact hS) ?rsR1x4
  case hyR1x4 => (intro uz hSw; (try dsimp only at hSw); go_simp; try with_reducible rfl)
  try simp only [Act.put, List.setIfInBounds_toArray, List.set_cons_zero, List.set_cons_succ]
  change wpAnyH _ _ _ _ _ _ #[true, true, true, true, false, false, false, false, false, false, false, false, false, false, false, false, false, false, false, false, false, false, false, false, false, false, false, false, false, false, false, false, false, false, false, false, false] _ _
  refine wpAnyH_take (i := 4) (v := ?vR1x5) rfl (by kernel_rfl) (by kernel_rfl) (by kernel_rfl) (fun _ _ _ h => h) (Or.inl ⟨by first | kernel_rfl | rfl, ?hyR1x5⟩) (by exact hS) ?rsR1x5
  case hyR1x5 => (intro uz hSw; (try dsimp only at hSw); go_simp; try with_reducible rfl)
  try simp only [Act.put, List.setIfInBounds_toArray, List.set_cons_zero, List.set_cons_succ]
  change wpAnyH _ _ _ _ _ _ #[true, true, true, true, true, false, false, false, false, false, false, false, false, false, false, false, false, false, false, false, false, false, false, false, false, false, false, false, false, false, false, false, false, false, false, false, false] _ _
  refine wpAnyH_take (i := 5) (v := ?vR1x6) rfl (by kernel_rfl) (by kernel_rfl) (by kernel_rfl) (fun _ _ _ h => h) (Or.inl ⟨by first | kernel_rfl | rfl, ?hyR1x6⟩) (by exact hS) ?rsR1x6
  case hyR1x6 => (intro uz hSw; (try dsimp only at hSw); have kr := HRB.out.q hSw; have kw := HM.out.q hSw; have r0 := kr.cell 0 rfl; have m0 := kw.cell 0 rfl; have r1 := kr.cell 1 rfl; have m1 := kw.cell 1 rfl; have r2 := kr.cell 2 rfl; have m2 := kw.cell 2 rfl; have r3 := kr.cell 3 rfl; have m3 := kw.cell 3 rfl; have r4 := kr.cell 4 rfl; have m4 := kw.cell 4 rfl; have r5 := kr.cell 5 rfl; have m5 := kw.cell 5 rfl; have r6 := kr.cell 6 rfl; have m6 := kw.cell 6 rfl; have r7 := kr.cell 7 rfl; have m7 := kw.cell 7 rfl; clear kr kw; go_simp; try with_reducible rfl)
  try simp only [Act.put, List.setIfInBounds_toArray, List.set_cons_zero, List.set_cons_succ]
  change wpAnyH _ _ _ _ _ _ #[true, true, true, true, true, true, false, false, false, false, false, false, false, false, false, false, false, false, false, false, false, false, false, false, false, false, false, false, false, false, false, false, false, false, false, false, false] _ _
  refine wpAnyH_take (i := 6) (v := ?vR1x7) rfl (by kernel_rfl) (by kernel_rfl) (by kernel_rfl) (fun _ _ _ h => h) (Or.inl ⟨by first | kernel_rfl | rfl, ?hyR1x7⟩) (by exact hS) ?rsR1x7
  case hyR1x7 => (intro uz hSw; (try dsimp only at hSw); have kr := HRB.out.q hSw; have kw := HM.out.q hSw; have r0 := kr.cell 0 rfl; have m0 := kw.cell 0 rfl; have r1 := kr.cell 1 rfl; have m1 := kw.cell 1 rfl; have r2 := kr.cell 2 rfl; have m2 := kw.cell 2 rfl; have r3 := kr.cell 3 rfl; have m3 := kw.cell 3 rfl; have r4 := kr.cell 4 rfl; have m4 := kw.cell 4 rfl; have r5 := kr.cell 5 rfl; have m5 := kw.cell 5 rfl; have r6 := kr.cell 6 rfl; have m6 := kw.cell 6 rfl; have r7 := kr.cell 7 rfl; have m7 := kw.cell 7 rfl; clear kr kw; go_simp; try with_reducible rfl)
  try simp only [Act.put, List.setIfInBounds_toArray, List.set_cons_zero, List.set_cons_succ]
  change wpAnyH _ _ _ _ _ _ #[true, true, true, true, true, true, true, false, false, false, false, false, false, false, false, false, false, false, false, false, false, false, false, false, false, false, false, false, false, false, false, false, false, false, false, false, false] _ _
  refine wpAnyH_take (i := 7) (v := ?vR1x8) rfl (by kernel_rfl) (by kernel_rfl) (by kernel_rfl) (fun _ _ _ h => h) (Or.inl ⟨by first | kernel_rfl | rfl, ?hyR1x8⟩) (by exact hS) ?rsR1x8
  case hyR1x8 => (intro uz hSw; (try dsimp only at hSw); go_simp; try with_reducible rfl)
  try simp only [Act.put, List.setIfInBounds_toArray, List.set_cons_zero, List.set_cons_succ]
  change wpAnyH _ _ _ _ _ _ #[true, true, true, true, true, true, true, true, false, false, false, false, false, false, false, false, false, false, false, false, false, false, false, false, false, false, false, false, false, false, false, false, false, false, false, false, false] _ _
  refine wpAnyH_take (i := 8) (v := ?vR1x9) rfl (by kernel_rfl) (by kernel_rfl) (by kernel_rfl) (fun _ _ _ h => h) (Or.inl ⟨by first | kernel_rfl | rfl, ?hyR1x9⟩) (by exact hS) ?rsR1x9
  case hyR1x9 => (intro uz hSw; (try dsimp only at hSw); go_simp; try with_reducible rfl)
  try simp only [Act.put, List.setIfInBounds_toArray, List.set_cons_zero, List.set_cons_succ]
  change wpAnyH _ _ _ _ _ _ #[true, true, true, true, true, true, true, true, true, false, false, false, false, false, false, false, false, false, false, false, false, false, false, false, false, false, false, false, false, false, false, false, false, false, false, false, false] _ _
  refine wpAnyH_take (i := 9) (v := ?vR1x10) rfl (by kernel_rfl) (by kernel_rfl) (by kernel_rfl) (fun _ _ _ h => h) (Or.inl ⟨by first | kernel_rfl | rfl, ?hyR1x10⟩) (by exact hS) ?rsR1x10
  case hyR1x10 => (intro uz hSw; (try dsimp only at hSw); go_simp; try with_reducible rfl)
  try simp only [Act.put, List.setIfInBounds_toArray, List.set_cons_zero, List.set_cons_succ]
  change wpAnyH _ _ _ _ _ _ #[true, true, true, true, true, true, true, true, true, true, false, false, false, false, false, false, false, false, false, false, false, false, false, false, false, false, false, false, false, false, false, false, false, false, false, false, false] _ _
  refine wpAnyH_take (i := 10) (v := ?vR1x11) rfl (by kernel_rfl) (by kernel_rfl) (by kernel_rfl) (fun _ _ _ h => h) (Or.inl ⟨by first | kernel_rfl | rfl, ?hyR1x11⟩) (by exact hS) ?rsR1x11
  case hyR1x11 => (intro uz hSw; (try dsimp only at hSw); go_simp; try with_reducible rfl)
  try simp only [Act.put, List.setIfInBounds_toArray, List.set_cons_zero, List.set_cons_succ]
  change wpAnyH _ _ _ _ _ _ #[true, true, true, true, true, true, true, true, true, true, true, false, false, false, false, false, false, false, false, false, false, false, false, false, false, false, false, false, false, false, false, false, false, false, false, false, false] _ _
  refine wpAnyH_take (i := 11) (v := ?vR1x12) rfl (by kernel_rfl) (by kernel_rfl) (by kernel_rfl) (fun _ _ _ h => h) (Or.inl ⟨by first | kernel_rfl | rfl, ?hyR1x12⟩) (by exact hS) ?rsR1x12
  case hyR1x12 => (intro uz hSw; (try dsimp only at hSw); go_simp; try with_reducible rfl)
  try simp only [Act.put, List.setIfInBounds_toArray, List.set_cons_zero, List.set_cons_succ]
  change wpAnyH _ _ _ _ _ _ #[true, true, true, true, true, true, true, true, true, true, true, true, false, false, false, false, false, false, false, false, false, false, false, false, false, false, false, false, false, false, false, false, false, false, false, false, false] _ _
  refine wpAnyH_take (i := 12) (v := ?vR1x13) rfl (by kernel_rfl) (by kernel_rfl) (by kernel_rfl) (fun _ _ _ h => h) (Or.inl ⟨by first | kernel_rfl | rfl, ?hyR1x13⟩) (by exact hS) ?rsR1x13
  case hyR1x13 => (intro uz hSw; (try dsimp only at hSw); go_simp; try with_reducible rfl)
  try simp only [Act.put, List.setIfInBounds_toArray, List.set_cons_zero, List.set_cons_succ]
  change wpAnyH _ _ _ _ _ _ #[true, true, true, true, true, true, true, true, true, true, true, true, true, false, false, false, false, false, false, false, false, false, false, false, false, false, false, false, false, false, false, false, false, false, false, false, false] _ _
  refine wpAnyH_take (i := 13) (v := ?vR1x14) rfl (by kernel_rfl) (by kernel_rfl) (by kernel_rfl) (fun _ _ _ h => h) (Or.inl ⟨by first | kernel_rfl | rfl, ?hyR1x14⟩) (by exact hS) ?rsR1x14
  case hyR1x14 => (intro uz hSw; (try dsimp only at hSw); go_simp; try with_reducible rfl)
  try simp only [Act.put, List.setIfInBounds_toArray, List.set_cons_zero, List.set_cons_succ]
  change wpAnyH _ _ _ _ _ _ #[true, true, true, true, true, true, true, true, true, true, true, true, true, true, false, false, false, false, false, false, false, false, false, false, false, false, false, false, false, false, false, false, false, false, false, false, false] _ _
  refine wpAnyH_take (i := 14) (v := ?vR1x15) rfl (by kernel_rfl) (by kernel_rfl) (by kernel_rfl) (fun _ _ _ h => h) (Or.inl ⟨by first | kernel_rfl | rfl, ?hyR1x15⟩) (by exact hS) ?rsR1x15
  case hyR1x15 => (intro uz hSw; (try dsimp only at hSw); go_simp; try with_reducible rfl)
  try simp only [Act.put, List.setIfInBounds_toArray, List.set_cons_zero, List.set_cons_succ]
  change wpAnyH _ _ _ _ _ _ #[true, true, true, true, true, true, true, true, true, true, true, true, true, true, true, false, false, false, false, false, false, false, false, false, false, false, false, false, false, false, false, false, false, false, false, false, false] _ _
  refine wpAnyH_take (i := 15) (v := ?vR1x16) rfl (by kernel_rfl) (by kernel_rfl) (by kernel_rfl) (fun _ _ _ h => h) (Or.inl ⟨by first | kernel_rfl | rfl, ?hyR1x16⟩) (by exact hS) ?rsR1x16
  case hyR1x16 => (intro uz hSw; (try dsimp only at hSw); go_simp; try with_reducible rfl)
  try simp only [Act.put, List.setIfInBounds_toArray, List.set_cons_zero, List.set_cons_succ]
  change wpAnyH _ _ _ _ _ _ #[true, true, true, true, true, true, true, true, true, true, true, true, true, true, true, true, false, false, false, false, false, false, false, false, false, false, false, false, false, false, false, false, false, false, false, false, false] _ _
  refine wpAnyH_take (i := 16) (v := ?vR1x17) rfl (by kernel_rfl) (by kernel_rfl) (by kernel_rfl) (fun _ _ _ h => h) (Or.inl ⟨by first | kernel_rfl | rfl, ?hyR1x17⟩) (by exact hS) ?rsR1x17
  case hyR1x17 => (intro uz hSw; (try dsimp only at hSw); go_simp; try with_reducible rfl)
  try simp only [Act.put, List.setIfInBounds_toArray, List.set_cons_zero, List.set_cons_succ]
  change wpAnyH _ _ _ _ _ _ #[true, true, true, true, true, true, true, true, true, true, true, true, true, true, true, true, true, false, false, false, false, false, false, false, false, false, false, false, false, false, false, false, false, false, false, false, false] _ _
  refine wpAnyH_take (i := 17) (v := ?vR1x18) rfl (by kernel_rfl) (by kernel_rfl) (by kernel_rfl) (fun _ _ _ h => h) (Or.inl ⟨by first | kernel_rfl | rfl, ?hyR1x18⟩) (by exact hS) ?rsR1x18
  case hyR1x18 => (intro uz hSw; (try dsimp only at hSw); go_simp; try with_reducible rfl)
  try simp only [Act.put, List.setIfInBounds_toArray, List.set_cons_zero, List.set_cons_succ]
  change wpAnyH _ _ _ _ _ _ #[true, true, true, true, true, true, true, true, true, true, true, true, true, true, true, true, true, true, false, false, false, false, false, false, false, false, false, false, false, false, false, false, false, false, false, false, false] _ _
  refine wpAnyH_take (i := 18) (v := ?vR1x19) rfl (by kernel_rfl) (by kernel_rfl) (by kernel_rfl) (fun _ _ _ h => h) (Or.inl ⟨by first | kernel_rfl | rfl, ?hyR1x19⟩) (by exact hS) ?rsR1x19
  case hyR1x19 => (intro uz hSw; (try dsimp only at hSw); go_simp; try with_reducible rfl)
  try simp only [Act.put, List.setIfInBounds_toArray, List.set_cons_zero, List.set_cons_succ]
  change wpAnyH _ _ _ _ _ _ #[true, true, true, true, true, true, true, true, true, true, true, true, true, true, true, true, true, true, true, false, false, false, false, false, false, false, false, false, false, false, false, false, false, false, false, false, false] _ _
  refine wpAnyH_take (i := 19) (v := ?vR1x20) rfl (by kernel_rfl) (by kernel_rfl) (by kernel_rfl) (fun _ _ _ h => h) (Or.inl ⟨by first | kernel_rfl | rfl, ?hyR1x20⟩) (by exact hS) ?rsR1x20
  case hyR1x20 => (intro uz hSw; (try dsimp only at hSw); go_simp; try with_reducible rfl)
  try simp only [Act.put, List.setIfInBounds_toArray, List.set_cons_zero, List.set_cons_succ]
  change wpAnyH _ _ _ _ _ _ #[true, true, true, true, true, true, true, true, true, true, true, true, true, true, true, true, true, true, true, true, false, false, false, false, false, false, false, false, false, false, false, false, false, false, false, false, false] _ _
  refine wpAnyH_take (i := 20) (v := ?vR1x21) rfl (by kernel_rfl) (by kernel_rfl) (by kernel_rfl) (fun _ _ _ h => h) (Or.inl ⟨by first | kernel_rfl | rfl, ?hyR1x21⟩) (by exact hS) ?rsR1x21
  case hyR1x21 => (intro uz hSw; (try dsimp only at hSw); go_simp; try with_reducible rfl)
  try simp only [Act.put, List.setIfInBounds_toArray, List.set_cons_zero, List.set_cons_succ]
  change wpAnyH _ _ _ _ _ _ #[true, true, true, true, true, true, true, true, true, true, true, true, true, true, true, true, true, true, true, true, true, false, false, false, false, false, false, false, false, false, false, false, false, false, false, false, false] _ _
  refine wpAnyH_take (i := 21) (v := ?vR1x22) rfl (by kernel_rfl) (by kernel_rfl) (by kernel_rfl) (fun _ _ _ h => h) (Or.inl ⟨by first | kernel_rfl | rfl, ?hyR1x22⟩) (by exact hS) ?rsR1x22
  case hyR1x22 => (intro uz hSw; (try dsimp only at hSw); go_simp; try with_reducible rfl)
  try simp only [Act.put, List.setIfInBounds_toArray, List.set_cons_zero, List.set_cons_succ]
  change wpAnyH _ _ _ _ _ _ #[true, true, true, true, true, true, true, true, true, true, true, true, true, true, true, true, true, true, true, true, true, true, false, false, false, false, false, false, false, false, false, false, false, false, false, false, false] _ _
  refine wpAnyH_take (i := 22) (v := ?vR1x23) rfl (by kernel_rfl) (by kernel_rfl) (by kernel_rfl) (fun _ _ _ h => h) (Or.inl ⟨by first | kernel_rfl | rfl, ?hyR1x23⟩) (by exact hS) ?rsR1x23
  case hyR1x23 => (intro uz hSw; (try dsimp only at hSw); have kr := HRB.out.q hSw; have kw := HM.out.q hSw; have r0 := kr.cell 0 rfl; have m0 := kw.cell 0 rfl; have r1 := kr.cell 1 rfl; have m1 := kw.cell 1 rfl; have r2 := kr.cell 2 rfl; have m2 := kw.cell 2 rfl; have r3 := kr.cell 3 rfl; have m3 := kw.cell 3 rfl; have r4 := kr.cell 4 rfl; have m4 := kw.cell 4 rfl; have r5 := kr.cell 5 rfl; have m5 := kw.cell 5 rfl; have r6 := kr.cell 6 rfl; have m6 := kw.cell 6 rfl; have r7 := kr.cell 7 rfl; have m7 := kw.cell 7 rfl; clear kr kw; go_simp; try with_reducible rfl)
  try simp only [Act.put, List.setIfInBounds_toArray, List.set_cons_zero, List.set_cons_succ]
  change wpAnyH _ _ _ _ _ _ #[true, true, true, true, true, true, true, true, true, true, true, true, true, true, true, true, true, true, true, true, true, true, true, false, false, false, false, false, false, false, false, false, false, false, false, false, false] _ _
  refine wpAnyH_ready (rs := [23]) (by kernel_rfl) (by simp) ?_
  refine (AllReadyH.cons rfl (fun K hK => ?_) AllReadyH.nil)
  go_simp
  refine (HS1.out _ hS).mono ?_
  rintro e yR1x24 ⟨rfl, hq⟩
  try (go_wp2_with fail)
  have hS2 := Q.trans hS hq
  refine hK.out _ _ (by exact hS2) (fun hHeld => ?_)
  clear hK K hHeld hS hq
  have hS := hS2
  clear hS2
  try simp only [Act.put, List.setIfInBounds_toArray, List.set_cons_zero, List.set_cons_succ]
  change wpAnyH _ _ _ _ _ _ #[true, true, true, true, true, true, true, true, true, true, true, true, true, true, true, true, true, true, true, true, true, true, true, true, false, false, false, false, false, false, false, false, false, false, false, false, false] _ _
  refine wpAnyH_take (i := 24) (v := ?vR1x25) rfl (by kernel_rfl) (by kernel_rfl) (by kernel_rfl) (fun _ _ _ h => h) (Or.inl ⟨by first | kernel_rfl | rfl, ?hyR1x25⟩) (by exact hS) ?rsR1x25
  case hyR1x25 => (intro uz hSw; (try dsimp only at hSw); go_simp; try with_reducible rfl)
  try simp only [Act.put, List.setIfInBounds_toArray, List.set_cons_zero, List.set_cons_succ]
  change wpAnyH _ _ _ _ _ _ #[true, true, true, true, true, true, true, true, true, true, true, true, true, true, true, true, true, true, true, true, true, true, true, true, true, false, false, false, false, false, false, false, false, false, false, false, false] _ _
  refine wpAnyH_take (i := 25) (v := ?vR1x26) rfl (by kernel_rfl) (by kernel_rfl) (by kernel_rfl) (fun _ _ _ h => h) (Or.inl ⟨by first | kernel_rfl | rfl, ?hyR1x26⟩) (by exact hS) ?rsR1x26
  case hyR1x26 => (intro uz hSw; (try dsimp only at hSw); go_simp; try with_reducible rfl)
  try simp only [Act.put, List.setIfInBounds_toArray, List.set_cons_zero, List.set_cons_succ]
  change wpAnyH _ _ _ _ _ _ #[true, true, true, true, true, true, true, true, true, true, true, true, true, true, true, true, true, true, true, true, true, true, true, true, true, true, false, false, false, false, false, false, false, false, false, false, false] _ _
  refine wpAnyH_take (i := 26) (v := ?vR1x27) rfl (by kernel_rfl) (by kernel_rfl) (by kernel_rfl) (fun _ _ _ h => h) (Or.inl ⟨by first | kernel_rfl | rfl, ?hyR1x27⟩) (by exact hS) ?rsR1x27
  case hyR1x27 => (intro uz hSw; (try dsimp only at hSw); go_simp; try with_reducible rfl)
  try simp only [Act.put, List.setIfInBounds_toArray, List.set_cons_zero, List.set_cons_succ]
  change wpAnyH _ _ _ _ _ _ #[true, true, true, true, true, true, true, true, true, true, true, true, true, true, true, true, true, true, true, true, true, true, true, true, true, true, true, false, false, false, false, false, false, false, false, false, false] _ _
  refine wpAnyH_take (i := 27) (v := ?vR1x28) rfl (by kernel_rfl) (by kernel_rfl) (by kernel_rfl) (fun _ _ _ h => h) (Or.inl ⟨by first | kernel_rfl | rfl, ?hyR1x28⟩) (by exact hS) ?rsR1x28
  case hyR1x28 => (intro uz hSw; (try dsimp only at hSw); go_simp; try with_reducible rfl)
  try simp only [Act.put, List.setIfInBounds_toArray, List.set_cons_zero, List.set_cons_succ]
  change wpAnyH _ _ _ _ _ _ #[true, true, true, true, true, true, true, true, true, true, true, true, true, true, true, true, true, true, true, true, true, true, true, true, true, true, true, true, false, false, false, false, false, false, false, false, false] _ _
  refine wpAnyH_take (i := 28) (v := ?vR1x29) rfl (by kernel_rfl) (by kernel_rfl) (by kernel_rfl) (fun _ _ _ h => h) (Or.inl ⟨by first | kernel_rfl | rfl, ?hyR1x29⟩) (by exact hS) ?rsR1x29
  case hyR1x29 => (intro uz hSw; (try dsimp only at hSw); go_simp; try with_reducible rfl)
  try simp only [Act.put, List.setIfInBounds_toArray, List.set_cons_zero, List.set_cons_succ]
  change wpAnyH _ _ _ _ _ _ #[true, true, true, true, true, true, true, true, true, true, true, true, true, true, true, true, true, true, true, true, true, true, true, true, true, true, true, true, true, false, false, false, false, false, false, false, false] _ _
  refine wpAnyH_take (i := 29) (v := ?vR1x30) rfl (by kernel_rfl) (by kernel_rfl) (by kernel_rfl) (fun _ _ _ h => h) (Or.inl ⟨by first | kernel_rfl | rfl, ?hyR1x30⟩) (by exact hS) ?rsR1x30
  case hyR1x30 => (intro uz hSw; (try dsimp only at hSw); have kr := HRB.out.q hSw; have kw := HM.out.q hSw; have r0 := kr.cell 0 rfl; have m0 := kw.cell 0 rfl; have r1 := kr.cell 1 rfl; have m1 := kw.cell 1 rfl; have r2 := kr.cell 2 rfl; have m2 := kw.cell 2 rfl; have r3 := kr.cell 3 rfl; have m3 := kw.cell 3 rfl; have r4 := kr.cell 4 rfl; have m4 := kw.cell 4 rfl; have r5 := kr.cell 5 rfl; have m5 := kw.cell 5 rfl; have r6 := kr.cell 6 rfl; have m6 := kw.cell 6 rfl; have r7 := kr.cell 7 rfl; have m7 := kw.cell 7 rfl; clear kr kw; go_simp; try with_reducible rfl)
  try simp only [Act.put, List.setIfInBounds_toArray, List.set_cons_zero, List.set_cons_succ]
  change wpAnyH _ _ _ _ _ _ #[true, true, true, true, true, true, true, true, true, true, true, true, true, true, true, true, true, true, true, true, true, true, true, true, true, true, true, true, true, true, false, false, false, false, false, false, false] _ _
  refine wpAnyH_ready (rs := [30]) (by kernel_rfl) (by simp) ?_
  refine (AllReadyH.cons rfl (fun K hK => ?_) AllReadyH.nil)
  go_simp
  refine (HS2.out _ hS).mono ?_
  rintro e yR1x31 ⟨rfl, hq⟩
  try (go_wp2_with fail)
  have hS2 := Q.trans hS hq
  refine hK.out _ _ (by exact hS2) (fun hHeld => ?_)
  clear hK K hHeld hS hq
  have hS := hS2
  clear hS2
  try simp only [Act.put, List.setIfInBounds_toArray, List.set_cons_zero, List.set_cons_succ]
  change wpAnyH _ _ _ _ _ _ #[true, true, true, true, true, true, true, true, true, true, true, true, true, true, true, true, true, true, true, true, true, true, true, true, true, true, true, true, true, true, true, false, false, false, false, false, false] _ _
  refine wpAnyH_take (i := 31) (v := ?vR1x32) rfl (by kernel_rfl) (by kernel_rfl) (by kernel_rfl) (fun _ _ _ h => h) (Or.inl ⟨by first | kernel_rfl | rfl, ?hyR1x32⟩) (by exact hS) ?rsR1x32
  case hyR1x32 => (intro uz hSw; (try dsimp only at hSw); go_simp; try with_reducible rfl)
  try simp only [Act.put, List.setIfInBounds_toArray, List.set_cons_zero, List.set_cons_succ]
  change wpAnyH _ _ _ _ _ _ #[true, true, true, true, true, true, true, true, true, true, true, true, true, true, true, true, true, true, true, true, true, true, true, true, true, true, true, true, true, true, true, true, false, false, false, false, false] _ _
  refine wpAnyH_take (i := 32) (v := ?vR1x33) rfl (by kernel_rfl) (by kernel_rfl) (by kernel_rfl) (fun _ _ _ h => h) (Or.inl ⟨by first | kernel_rfl | rfl, ?hyR1x33⟩) (by exact hS) ?rsR1x33
  case hyR1x33 => (intro uz hSw; (try dsimp only at hSw); go_simp; try with_reducible rfl)
  try simp only [Act.put, List.setIfInBounds_toArray, List.set_cons_zero, List.set_cons_succ]
  change wpAnyH _ _ _ _ _ _ #[true, true, true, true, true, true, true, true, true, true, true, true, true, true, true, true, true, true, true, true, true, true, true, true, true, true, true, true, true, true, true, true, true, false, false, false, false] _ _
  refine wpAnyH_take (i := 33) (v := ?vR1x34) rfl (by kernel_rfl) (by kernel_rfl) (by kernel_rfl) (fun _ _ _ h => h) (Or.inl ⟨by first | kernel_rfl | rfl, ?hyR1x34⟩) (by exact hS) ?rsR1x34
  case hyR1x34 => (intro uz hSw; (try dsimp only at hSw); go_simp; try with_reducible rfl)
  try simp only [Act.put, List.setIfInBounds_toArray, List.set_cons_zero, List.set_cons_succ]
  change wpAnyH _ _ _ _ _ _ #[true, true, true, true, true, true, true, true, true, true, true, true, true, true, true, true, true, true, true, true, true, true, true, true, true, true, true, true, true, true, true, true, true, true, false, false, false] _ _
  refine wpAnyH_ready (rs := [34]) (by kernel_rfl) (by simp) ?_
  refine (AllReadyH.cons rfl (fun K hK => ?_) AllReadyH.nil)
  go_simp
  refine (HLV.out _).mono ?_
  rintro e yR1x35 ⟨rfl, hq⟩
  try (go_wp2_with fail)
  have hS2 := Q.trans hS hq
  refine hK.out _ _ (by exact hS2) (fun hHeld => ?_)
  clear hK K hHeld hS hq
  have hS := hS2
  clear hS2
  try simp only [Act.put, List.setIfInBounds_toArray, List.set_cons_zero, List.set_cons_succ]
  change wpAnyH _ _ _ _ _ _ #[true, true, true, true, true, true, true, true, true, true, true, true, true, true, true, true, true, true, true, true, true, true, true, true, true, true, true, true, true, true, true, true, true, true, true, false, false] _ _
  refine wpAnyH_take (i := 35) (v := ?vR1x36) rfl (by kernel_rfl) (by kernel_rfl) (by kernel_rfl) (fun _ _ _ h => h) (Or.inl ⟨by first | kernel_rfl | rfl, ?hyR1x36⟩) (by exact hS) ?rsR1x36
  case hyR1x36 => (intro uz hSw; (try dsimp only at hSw); go_simp; try with_reducible rfl)
  try simp only [Act.put, List.setIfInBounds_toArray, List.set_cons_zero, List.set_cons_succ]
  change wpAnyH _ _ _ _ _ _ #[true, true, true, true, true, true, true, true, true, true, true, true, true, true, true, true, true, true, true, true, true, true, true, true, true, true, true, true, true, true, true, true, true, true, true, true, false] _ _
  refine wpAnyH_take (i := 36) (v := ?vR1x37) rfl (by kernel_rfl) (by kernel_rfl) (by kernel_rfl) (fun _ _ _ h => h) (Or.inl ⟨by first | kernel_rfl | rfl, ?hyR1x37⟩) (by exact hS) ?rsR1x37
  case hyR1x37 => (intro uz hSw; (try dsimp only at hSw); go_simp; try with_reducible rfl)
  try simp only [Act.put, List.setIfInBounds_toArray, List.set_cons_zero, List.set_cons_succ]
  change wpAnyH _ _ _ _ _ _ #[true, true, true, true, true, true, true, true, true, true, true, true, true, true, true, true, true, true, true, true, true, true, true, true, true, true, true, true, true, true, true, true, true, true, true, true, true] _ _
  refine wpAnyH_done (by kernel_rfl) ?_ _
  have HQF := Lib.hid (HQ6.out.trans hS)
  clear hS
  go_wp2_with fail
  try (rename_i dx1 d1 hx1 dx2 d2 hx2; have hy1 : (some 2 : Option Tmp) = some d1 := hx1; have hy2 : (some 96 : Option Tmp) = some d2 := hx2; obtain rfl := Option.some.inj hy1; obtain rfl := Option.some.inj hy2; clear hx1 hx2 hy1 hy2)
  go_ret
  exact ⟨rfl, HQF.out⟩

end Ft
end Go.Proofs.YtglljkbpdbnhaaaGreatDoor
