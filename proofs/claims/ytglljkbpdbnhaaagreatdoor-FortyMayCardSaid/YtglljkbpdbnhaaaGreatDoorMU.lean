/- The forty records' patterns parsed; their locales. The locale of a name, as the statements ask. -/
import Derived.Test.YtglljkbpdbnhaaaGreatDoorRows
import Derived.Test.YtglljkbpdbnhaaaGreatDoorMA
import Derived.Test.YtglljkbpdbnhaaaGreatDoorMB
import Derived.Test.YtglljkbpdbnhaaaGreatDoorMBP
import Derived.Test.YtglljkbpdbnhaaaGreatDoorMO
import Derived.Test.YtglljkbpdbnhaaaGreatDoorMP
import Derived.Test.YtglljkbpdbnhaaaGreatDoorMR
import Derived.Test.YtglljkbpdbnhaaaGreatDoorMBS
import Derived.Test.YtglljkbpdbnhaaaGreatDoorLocM
import Derived.Test.YtglljkbpdbnhaaaGreatDoorLocB
import Derived.Test.YtglljkbpdbnhaaaGreatDoorLocJ
import Derived.Test.YtglljkbpdbnhaaaGreatDoorMT
import Derived.Test.YtglljkbpdbnhaaaGreatDoorMC
import Derived.Test.YtglljkbpdbnhaaaGreatDoorLocZ
import Derived.Deep.QuietTactic
import Derived.BigQuiet
import Derived.Deep.Cut
import Derived.OwnWalkIn
import Derived.TacticsInMore
import Derived.LoopNIn
import Derived.LoopIn
set_option linter.unusedVariables false
set_option linter.unusedSimpArgs false
namespace Go.Proofs.YtglljkbpdbnhaaaGreatDoor
open Go.RowKit
namespace Ft
open Um Cm Gm

/-- What is asked of the program's Parse. -/
def Par (p : Nat) : Prop := ∀ u, Calls Tryz.prog 34 #[.string (Lm.bs (Fm.ptB.getD p []))] u fun e w' => ∃ v, e = .returned (.tuple #[v, .int .i64 0]) ∧ Pg.PV w' u.heap.size v (Fm.P p) ∧ Q u w'
theorem par_of {p : Nat} (hp : p < 14) (h : ∀ u, Calls Tryz.prog 34 #[.string ⟨(joinL (Fm.ptC.getD p [])).toArray⟩] u fun e w' => ∃ v, e = .returned (.tuple #[v, .int .i64 0]) ∧ Pg.PV w' u.heap.size v (Pt.parseC (Fm.ptC.getD p [])).1 ∧ Q u w') : Par p := by
  obtain ⟨h1, h2, _⟩ := Fm.ptC_B p hp
  rw [h1, h2] at h
  exact h
set_option maxRecDepth 100000 in
theorem par0 : Par 0 := par_of (by omega) (Pg.parse1 (cs := Fm.ptC.getD 0 []) (by decide +kernel) (by decide +kernel) (P := [(1, 164)]) (N := [(4, 35), (4, 44), (4, 35), (4, 35), (4, 48), (4, 46), (4, 48), (4, 48)]) (S := []) (c := false) (by decide +kernel) ⟨(by unfold Pt.okT; decide +kernel), (by unfold Pt.okT; decide +kernel), (by decide +kernel)⟩ (by decide +kernel) (by decide +kernel) (by decide +kernel))
set_option maxRecDepth 100000 in
theorem par1 : Par 1 := par_of (by omega) (Pg.parse1 (cs := Fm.ptC.getD 1 []) (by decide +kernel) (by decide +kernel) (P := []) (N := [(4, 48), (4, 46), (4, 48), (4, 48)]) (S := [(0, 160), (1, 164)]) (c := false) (by decide +kernel) ⟨(by unfold Pt.okT; decide +kernel), (by unfold Pt.okT; decide +kernel), (by decide +kernel)⟩ (by decide +kernel) (by decide +kernel) (by decide +kernel))
set_option maxRecDepth 100000 in
theorem par2 : Par 2 := par_of (by omega) (Pg.parse1 (cs := Fm.ptC.getD 2 []) (by decide +kernel) (by decide +kernel) (P := []) (N := [(4, 35), (4, 44), (4, 35), (4, 35), (4, 44), (4, 35), (4, 35), (4, 48), (4, 46), (4, 48), (4, 48)]) (S := [(1, 164)]) (c := false) (by decide +kernel) ⟨(by unfold Pt.okT; decide +kernel), (by unfold Pt.okT; decide +kernel), (by decide +kernel)⟩ (by decide +kernel) (by decide +kernel) (by decide +kernel))
set_option maxRecDepth 100000 in
theorem par3 : Par 3 := par_of (by omega) (Pg.parse1 (cs := Fm.ptC.getD 3 []) (by decide +kernel) (by decide +kernel) (P := []) (N := [(4, 35), (4, 44), (4, 35), (4, 35), (4, 48), (4, 46), (4, 48), (4, 48)]) (S := [(0, 160), (1, 164)]) (c := false) (by decide +kernel) ⟨(by unfold Pt.okT; decide +kernel), (by unfold Pt.okT; decide +kernel), (by decide +kernel)⟩ (by decide +kernel) (by decide +kernel) (by decide +kernel))
set_option maxRecDepth 100000 in
theorem par4 : Par 4 := par_of (by omega) (Pg.parse1 (cs := Fm.ptC.getD 4 []) (by decide +kernel) (by decide +kernel) (P := [(1, 164), (0, 160)]) (N := [(4, 35), (4, 44), (4, 35), (4, 35), (4, 48), (4, 46), (4, 48), (4, 48)]) (S := []) (c := false) (by decide +kernel) ⟨(by unfold Pt.okT; decide +kernel), (by unfold Pt.okT; decide +kernel), (by decide +kernel)⟩ (by decide +kernel) (by decide +kernel) (by decide +kernel))
set_option maxRecDepth 100000 in
theorem par5 : Par 5 := par_of (by omega) (Pg.parse2 (cs := Fm.ptC.getD 5 []) (by decide +kernel) (by decide +kernel) (P := [(1, 164), (0, 160)]) (N := [(4, 35), (4, 44), (4, 35), (4, 35), (4, 48), (4, 46), (4, 48), (4, 48)]) (S := []) (P' := [(1, 164), (3, 45)]) (N' := [(4, 35), (4, 44), (4, 35), (4, 35), (4, 48), (4, 46), (4, 48), (4, 48)]) (S' := []) (c := false) (by decide +kernel) ⟨(by unfold Pt.okT; decide +kernel), (by unfold Pt.okT; decide +kernel), (by decide +kernel)⟩ (by decide +kernel) (by decide +kernel) (by decide +kernel) ⟨(by unfold Pt.okT; decide +kernel), (by unfold Pt.okT; decide +kernel), (by decide +kernel)⟩ (by decide +kernel) (by decide +kernel) (by decide +kernel))
set_option maxRecDepth 100000 in
theorem par6 : Par 6 := par_of (by omega) (Pg.parse1 (cs := Fm.ptC.getD 6 []) (by decide +kernel) (by decide +kernel) (P := [(1, 164)]) (N := [(4, 35), (4, 44), (4, 35), (4, 35), (4, 44), (4, 35), (4, 35), (4, 48), (4, 46), (4, 48), (4, 48)]) (S := []) (c := false) (by decide +kernel) ⟨(by unfold Pt.okT; decide +kernel), (by unfold Pt.okT; decide +kernel), (by decide +kernel)⟩ (by decide +kernel) (by decide +kernel) (by decide +kernel))
set_option maxRecDepth 100000 in
theorem par7 : Par 7 := par_of (by omega) (Pg.parse1 (cs := Fm.ptC.getD 7 []) (by decide +kernel) (by decide +kernel) (P := []) (N := [(4, 35), (4, 44), (4, 35), (4, 35), (4, 48), (4, 46), (4, 48), (4, 48)]) (S := []) (c := false) (by decide +kernel) ⟨(by unfold Pt.okT; decide +kernel), (by unfold Pt.okT; decide +kernel), (by decide +kernel)⟩ (by decide +kernel) (by decide +kernel) (by decide +kernel))
set_option maxRecDepth 100000 in
theorem par8 : Par 8 := par_of (by omega) (Pg.parse1 (cs := Fm.ptC.getD 8 []) (by decide +kernel) (by decide +kernel) (P := [(1, 164)]) (N := [(4, 35), (4, 44), (4, 35), (4, 35), (4, 48)]) (S := []) (c := false) (by decide +kernel) ⟨(by unfold Pt.okT; decide +kernel), (by unfold Pt.okT; decide +kernel), (by decide +kernel)⟩ (by decide +kernel) (by decide +kernel) (by decide +kernel))
set_option maxRecDepth 100000 in
theorem par9 : Par 9 := par_of (by omega) (Pg.parse1 (cs := Fm.ptC.getD 9 []) (by decide +kernel) (by decide +kernel) (P := []) (N := [(4, 35), (4, 44), (4, 35), (4, 35), (4, 48), (4, 46), (4, 48), (4, 48)]) (S := [(1, 164)]) (c := false) (by decide +kernel) ⟨(by unfold Pt.okT; decide +kernel), (by unfold Pt.okT; decide +kernel), (by decide +kernel)⟩ (by decide +kernel) (by decide +kernel) (by decide +kernel))
set_option maxRecDepth 100000 in
theorem par10 : Par 10 := par_of (by omega) (Pg.parse2 (cs := Fm.ptC.getD 10 []) (by decide +kernel) (by decide +kernel) (P := [(1, 164)]) (N := [(4, 35), (4, 44), (4, 35), (4, 35), (4, 48), (4, 46), (4, 48), (4, 48)]) (S := []) (P' := [(1, 164), (3, 45)]) (N' := [(4, 35), (4, 44), (4, 35), (4, 35), (4, 48), (4, 46), (4, 48), (4, 48)]) (S' := []) (c := false) (by decide +kernel) ⟨(by unfold Pt.okT; decide +kernel), (by unfold Pt.okT; decide +kernel), (by decide +kernel)⟩ (by decide +kernel) (by decide +kernel) (by decide +kernel) ⟨(by unfold Pt.okT; decide +kernel), (by unfold Pt.okT; decide +kernel), (by decide +kernel)⟩ (by decide +kernel) (by decide +kernel) (by decide +kernel))
set_option maxRecDepth 100000 in
theorem par11 : Par 11 := par_of (by omega) (Pg.parse2 (cs := Fm.ptC.getD 11 []) (by decide +kernel) (by decide +kernel) (P := [(1, 164), (0, 160)]) (N := [(4, 35), (4, 44), (4, 35), (4, 35), (4, 48), (4, 46), (4, 48), (4, 48)]) (S := []) (P' := [(1, 164), (0, 160), (3, 45)]) (N' := [(4, 35), (4, 44), (4, 35), (4, 35), (4, 48), (4, 46), (4, 48), (4, 48)]) (S' := []) (c := false) (by decide +kernel) ⟨(by unfold Pt.okT; decide +kernel), (by unfold Pt.okT; decide +kernel), (by decide +kernel)⟩ (by decide +kernel) (by decide +kernel) (by decide +kernel) ⟨(by unfold Pt.okT; decide +kernel), (by unfold Pt.okT; decide +kernel), (by decide +kernel)⟩ (by decide +kernel) (by decide +kernel) (by decide +kernel))
set_option maxRecDepth 100000 in
theorem par12 : Par 12 := par_of (by omega) (Pg.parse1 (cs := Fm.ptC.getD 12 []) (by decide +kernel) (by decide +kernel) (P := []) (N := [(4, 35), (4, 44), (4, 35), (4, 35), (4, 48), (4, 46), (4, 35), (4, 35)]) (S := [(2, 37)]) (c := false) (by decide +kernel) ⟨(by unfold Pt.okT; decide +kernel), (by unfold Pt.okT; decide +kernel), (by decide +kernel)⟩ (by decide +kernel) (by decide +kernel) (by decide +kernel))
set_option maxRecDepth 100000 in
theorem par13 : Par 13 := par_of (by omega) (Pg.parse1 (cs := Fm.ptC.getD 13 []) (by decide +kernel) (by decide +kernel) (P := [(1, 164), (0, 160)]) (N := [(4, 35), (4, 44), (4, 35), (4, 35), (4, 44), (4, 35), (4, 35), (4, 48), (4, 46), (4, 48), (4, 48)]) (S := []) (c := false) (by decide +kernel) ⟨(by unfold Pt.okT; decide +kernel), (by unfold Pt.okT; decide +kernel), (by decide +kernel)⟩ (by decide +kernel) (by decide +kernel) (by decide +kernel))
theorem par_all : ∀ p, p < 14 → Par p := fun p hp => match p, hp with
  | 0, _ => par0
  | 1, _ => par1
  | 2, _ => par2
  | 3, _ => par3
  | 4, _ => par4
  | 5, _ => par5
  | 6, _ => par6
  | 7, _ => par7
  | 8, _ => par8
  | 9, _ => par9
  | 10, _ => par10
  | 11, _ => par11
  | 12, _ => par12
  | 13, _ => par13
  | n + 14, h => absurd h (by omega)
theorem new_forty (i : Nat) (hi : i < 40) (w : World) :
    Calls Tryz.prog 9 #[Lo.recV (Fm.T i)] w fun e w' => ∃ g a b c d cl, e = .returned (.tuple #[.pointer (some ⟨g, 0, none⟩), Value.nilIface]) ∧ Lo.LB w' g (Fm.T i) (Fm.P (Fm.nP i)) a b c d cl ∧ SLst w' cl (Lm.clus (Fm.T i) (Fm.P (Fm.nP i))) ∧ Q w w' :=
  Lo.new_ok _ _ w (Fm.f_ok i hi) (by rw [Fm.pat_of i hi]; exact par_all _ (Fm.nP_lt i hi))
end Ft
end Go.Proofs.YtglljkbpdbnhaaaGreatDoor

set_option linter.unusedVariables false
set_option linter.unusedSimpArgs false
namespace Go.Proofs.YtglljkbpdbnhaaaGreatDoor
open Go.RowKit Go.Shelf Um
attribute [local go_sem] Oper.semAt_some
namespace Ft

theorem fnd_nam {k : Nat} (h : k < 40) : Fm.fnd (Fm.nam k) 40 = k := by
  by_cases h0 : 0 ≤ Fm.fnd (Fm.nam k) 40
  · have h1 := Fm.fnd_some 40 h0
    have h2 := (Fm.fnd_lt (Fm.nam k) 40).1
    have := Fm.nam_in (Fm.fnd (Fm.nam k) 40).toNat (by omega) k h h1
    omega
  · exact absurd rfl ((Fm.fnd_none 40).1 (by omega) k h)
theorem rr_nam {k : Nat} (h : k < 40) : rr (Lm.bs (Fm.T k).nam) = Fm.T k := by
  unfold rr
  rw [Lm.bs_list]
  show (if 0 ≤ Fm.fnd (Fm.nam k) 40 then Fm.T (Fm.fnd (Fm.nam k) 40).toNat else Fm.rec0) = _
  rw [fnd_nam h, if_pos (by omega), Int.toNat_natCast]
theorem er_nam {k : Nat} (h : k < 40) : er (Lm.bs (Fm.T k).nam) = 0 := by
  unfold er
  rw [Lm.bs_list]
  show (if 0 ≤ Fm.fnd (Fm.nam k) 40 then (0 : Int) else 7) = _
  rw [fnd_nam h, if_pos (by omega)]
set_option maxRecDepth 100000 in
set_option maxHeartbeats 4000000 in
theorem get_none (s : ByteArray) (w : World) (hf : Fm.fnd s.data.toList 40 < 0) :
    Calls Tryz.prog 28 #[.string s] w fun e w' => e = .returned (.tuple #[.pointer none, .int .i64 7]) ∧ Q w w' := by
  have HX := Lib.hid (fun u => record_get s u)
  rw [show er s = 7 from if_neg (by omega)] at HX
  clear hf
  have hX2 : ∃ z0 z1 z2 z3 z4 z5 z6 z7 : ByteArray, rV (rr s) = .agg #[.string z0, .string z1, .string z2, .string z3, .string z4, .string z5, .string z6, .string z7] := ⟨_, _, _, _, _, _, _, _, rfl⟩
  obtain ⟨z0, z1, z2, z3, z4, z5, z6, z7, hz⟩ := hX2
  rw [hz] at HX
  clear hz
  go_enter Tryz.func28, Tryz.ntmps28
  go_wp2_with fail
  refine (HX.out _).mono ?_
  rintro e w1 ⟨rfl, hq1⟩
  have HQ := Lib.hid (show Q w (w1.alloc (.cells #[.string z0, .string z1, .string z2, .string z3, .string z4, .string z5, .string z6, .string z7] 32)) from hq1.alloc _)
  clear hq1
  go_wp2_with fail
  go_ret2
  exact ⟨rfl, HQ.out⟩
set_option maxRecDepth 100000 in
set_option maxHeartbeats 4000000 in
theorem get_some (k : Nat) (w : World) (hk : k < 40) :
    Calls Tryz.prog 28 #[.string (Lm.bs (Fm.T k).nam)] w fun e w' => ∃ g a b c d cl, e = .returned (.tuple #[.pointer (some ⟨g, 0, none⟩), .int .i64 0]) ∧ Lo.LB w' g (Fm.T k) (Fm.P (Fm.nP k)) a b c d cl ∧ Q w w' := by
  have HX := Lib.hid (fun u => record_get (Lm.bs (Fm.T k).nam) u)
  rw [rr_nam hk, er_nam hk] at HX
  have HN := Lib.hid (fun u => new_forty k hk u)
  have HT : Hid (rV (Fm.T k) = .agg #[.string (Lm.bs (Fm.T k).nam), .string (Lm.bs (Fm.T k).pat), .string (Lm.bs (Fm.T k).sys), .string (Lm.bs (Fm.T k).dec), .string (Lm.bs (Fm.T k).grp), .string (Lm.bs (Fm.T k).min), .string (Lm.bs (Fm.T k).per), .string (Lm.bs (Fm.T k).cur)]) := Lib.hid rfl
  have HT2 : Hid (Lo.recV (Fm.T k) = .agg #[.string (Lm.bs (Fm.T k).nam), .string (Lm.bs (Fm.T k).pat), .string (Lm.bs (Fm.T k).sys), .string (Lm.bs (Fm.T k).dec), .string (Lm.bs (Fm.T k).grp), .string (Lm.bs (Fm.T k).min), .string (Lm.bs (Fm.T k).per), .string (Lm.bs (Fm.T k).cur)]) := Lib.hid rfl
  rw [HT.out] at HX
  rw [HT2.out] at HN
  clear HT HT2
  obtain ⟨r, hr⟩ : ∃ r, r = Fm.T k := ⟨_, rfl⟩
  rw [← hr] at HX HN ⊢
  clear hr
  generalize Lm.bs r.nam = s0 at HX HN ⊢
  generalize Lm.bs r.pat = s1 at HX HN ⊢
  generalize Lm.bs r.sys = s2 at HX HN ⊢
  generalize Lm.bs r.dec = s3 at HX HN ⊢
  generalize Lm.bs r.grp = s4 at HX HN ⊢
  generalize Lm.bs r.min = s5 at HX HN ⊢
  generalize Lm.bs r.per = s6 at HX HN ⊢
  generalize Lm.bs r.cur = s7 at HX HN ⊢
  go_enter Tryz.func28, Tryz.ntmps28
  go_wp2_with fail
  refine (HX.out _).mono ?_
  rintro e w1 ⟨rfl, hq1⟩
  obtain ⟨W1, hW1⟩ : ∃ x, x = w1.alloc (.cells #[.string s0, .string s1, .string s2, .string s3, .string s4, .string s5, .string s6, .string s7] 32) := ⟨_, rfl⟩
  have HQ1 := Lib.hid (show Q w W1 by rw [hW1]; exact hq1.alloc _)
  have hm := (show Bk W1 w1.heap.size 32 [.string s0, .string s1, .string s2, .string s3, .string s4, .string s5, .string s6, .string s7] by rw [hW1]; exact Bk.new _ _ _)
  clear hq1
  go_upto_region 4 with fail
  rw [← hW1]
  clear hW1
  have m0 := hm.cell 0 rfl
  have m1 := hm.cell 1 rfl
  have m2 := hm.cell 2 rfl
  have m3 := hm.cell 3 rfl
  have m4 := hm.cell 4 rfl
  have m5 := hm.cell 5 rfl
  have m6 := hm.cell 6 rfl
  have m7 := hm.cell 7 rfl
  clear hm
  go_wp2_with fail
  refine (HN.out _).mono ?_
  rintro e w2 ⟨g, a, b, c, d, cl, rfl, hlb, hsl, hq2⟩
  have HQ2 := Lib.hid (HQ1.out.trans hq2)
  have HLB := Lib.hid hlb
  clear hq2 hlb hsl
  go_wp2_with fail
  go_ret2
  exact ⟨g, a, b, c, d, cl, rfl, HLB.out, HQ2.out⟩
set_option maxRecDepth 100000 in
set_option maxHeartbeats 4000000 in
theorem law_none (s : ByteArray) (w : World) (hs : s.size ≤ maxLen) :
    Calls Tryz.prog 7 #[.string s] w fun e w' => e = .returned (.bool true) ∧ Q w w' := by
  have HF := Lib.hid (fun u => Ur.few_any s 16 u hs (by omega))
  have HLV := Lib.hid (fun u => lives_any u)
  generalize Ur.few s 16 = t at *
  have HI := Lib.hid (fun u => Fr.find_any t u)
  by_cases hf : Fm.fnd t.data.toList 40 < 0
  · have HG := Lib.hid (fun u => get_none t u hf)
    have hf2 : ¬ 0 ≤ Fm.fnd t.data.toList 40 := by omega
    have hf3 : decide (0 ≤ Fm.fnd t.data.toList 40) = false := decide_eq_false hf2
    generalize Fm.fnd t.data.toList 40 = x at *
    go_enter Tryz.func7, Tryz.ntmps7
    go_wp2_with fail
    refine (HF.out _).mono ?_
    rintro e u ⟨rfl, rfl⟩
    go_wp2_with fail
    refine (HG.out _).mono ?_
    rintro e w1 ⟨rfl, hq1⟩
    have HQ1 := Lib.hid hq1
    clear hq1
    go_wp2_with fail
    refine (HI.out _).mono ?_
    rintro e w2 ⟨rfl, hq2⟩
    have HQ2 := Lib.hid (HQ1.out.trans hq2)
    clear hq2
    go_wp2_with fail
    refine (HLV.out _).mono ?_
    rintro e w3 ⟨rfl, hq3⟩
    have HQ3 := Lib.hid (HQ2.out.trans hq3)
    clear hq3
    go_wp2_with fail
    go_ret
    exact ⟨rfl, HQ3.out⟩
  · have hf2 : 0 ≤ Fm.fnd t.data.toList 40 := by omega
    have hlt := (Fm.fnd_lt t.data.toList 40).1
    obtain ⟨k, hk⟩ : ∃ k : Nat, (k : Int) = Fm.fnd t.data.toList 40 := ⟨(Fm.fnd t.data.toList 40).toNat, by omega⟩
    have hn := Fm.fnd_some 40 hf2
    rw [← hk] at hn hlt HI
    rw [Int.toNat_natCast] at hn
    have ht : t = Lm.bs (Fm.T k).nam := (Fm.bs_of hn).symm
    have HG := Lib.hid (fun u => get_some k u (by omega))
    rw [← ht] at HG
    have hk0 : (0 : Int) ≤ (k : Int) := by omega
    clear ht hn hk hf hf2 hlt
    go_enter Tryz.func7, Tryz.ntmps7
    go_wp2_with fail
    refine (HF.out _).mono ?_
    rintro e u ⟨rfl, rfl⟩
    go_wp2_with fail
    refine (HG.out _).mono ?_
    rintro e w1 ⟨g, a, b, c, d, cl, rfl, hlb, hq1⟩
    have HQ1 := Lib.hid hq1
    clear hq1 hlb
    go_wp2_with fail
    refine (HI.out _).mono ?_
    rintro e w2 ⟨rfl, hq2⟩
    have HQ2 := Lib.hid (HQ1.out.trans hq2)
    clear hq2
    go_wp2_with fail
    refine (HLV.out _).mono ?_
    rintro e w3 ⟨rfl, hq3⟩
    have HQ3 := Lib.hid (HQ2.out.trans hq3)
    clear hq3
    go_wp2_with fail
    go_ret
    exact ⟨rfl, HQ3.out⟩

end Ft
end Go.Proofs.YtglljkbpdbnhaaaGreatDoor
