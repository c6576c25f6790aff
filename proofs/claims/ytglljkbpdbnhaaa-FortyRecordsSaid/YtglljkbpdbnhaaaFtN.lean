/- Each name's record. -/
import Derived.Test.YtglljkbpdbnhaaaRows
import Derived.Test.YtglljkbpdbnhaaaInts
import Derived.Test.YtglljkbpdbnhaaaUtfM
import Derived.Test.YtglljkbpdbnhaaaUtfG
import Derived.Test.YtglljkbpdbnhaaaUtfR
import Derived.Test.YtglljkbpdbnhaaaGap
import Derived.Test.YtglljkbpdbnhaaaEls
import Derived.Test.YtglljkbpdbnhaaaBlk
import Derived.Test.YtglljkbpdbnhaaaRng
import Derived.Test.YtglljkbpdbnhaaaRng2
import Derived.Test.YtglljkbpdbnhaaaFtM
import Derived.Test.YtglljkbpdbnhaaaFtA
import Derived.Test.YtglljkbpdbnhaaaFtB
import Derived.Test.YtglljkbpdbnhaaaFtC
import Derived.Test.YtglljkbpdbnhaaaFtD
import Derived.Test.YtglljkbpdbnhaaaFtR
import Derived.Test.YtglljkbpdbnhaaaFtL
import Derived.Deep.QuietTactic
import Derived.BigQuiet
import Derived.Deep.Cut
import Derived.OwnWalkIn
import Derived.TacticsInMore
import Derived.LoopNIn
import Derived.LoopIn
set_option linter.unusedVariables false
set_option linter.unusedSimpArgs false
namespace Go.Proofs.Ytglljkbpdbnhaaa
open Go.RowKit Go.Shelf Um
attribute [local go_sem] Oper.semAt_some
namespace Ft

theorem fnd_nam {k : Nat} (h : k < 40) : Fm.fnd (Fm.nam k) 40 = k := by
  by_cases h0 : 0 ≤ Fm.fnd (Fm.nam k) 40
  · have h1 := Fm.fnd_some 40 h0
    have h2 := (Fm.fnd_lt (Fm.nam k) 40).1
    have := Fm.nam_in (Fm.fnd (Fm.nam k) 40).toNat (by omega) k h h1
    omega
  · exact absurd rfl ((Fm.fnd_none 40).1 (by omega) k h)
theorem rr_nam {k : Nat} (h : k < 40) : rr (Lm.bs (Fm.T k).nam) = Fm.T k := by
  unfold rr
  rw [Lm.bs_list]
  show (if 0 ≤ Fm.fnd (Fm.nam k) 40 then Fm.T (Fm.fnd (Fm.nam k) 40).toNat else Fm.rec0) = _
  rw [fnd_nam h, if_pos (by omega), Int.toNat_natCast]
theorem er_nam {k : Nat} (h : k < 40) : er (Lm.bs (Fm.T k).nam) = 0 := by
  unfold er
  rw [Lm.bs_list]
  show (if 0 ≤ Fm.fnd (Fm.nam k) 40 then (0 : Int) else 7) = _
  rw [fnd_nam h, if_pos (by omega)]
theorem nms_len : nms.length = 40 := by unfold nms; simp
theorem nms_at {k : Nat} (h : k < 40) : nms[k]? = some (Lm.bs (Fm.T k).nam) := by
  unfold nms
  rw [List.getElem?_map, List.getElem?_range h]
  rfl
set_option maxRecDepth 100000 in
set_option maxHeartbeats 4000000 in
theorem law_records (n : Int) (s : ByteArray) (w : World) (h0 : -9223372036854775808 ≤ n) (h1 : n ≤ 9223372036854775807) (hs : s.size ≤ maxLen) :
    Calls Try.prog 3 #[.int .i64 n, .string s] w fun e w' => e = .returned (.bool true) ∧ Q w w' := by
  have HF := Lib.hid (fun u => Ur.few_any s 16 u hs (by omega))
  have HA := Lib.hid (fun u => Ur.around_any n 40 u h0 h1 (by omega) (by omega))
  have HO := Lib.hid (fun u => Fr.one_any n u h0 h1)
  have HLV := Lib.hid (fun u => lives_any u)
  have HNM := Lib.hid (fun u => names_any u)
  have hba := around_bd n 40 (by omega)
  obtain ⟨k, hk⟩ : ∃ k : Nat, (k : Int) = around n 40 := ⟨(around n 40).toNat, by omega⟩
  rw [← hk] at HA HO hba
  rw [Int.toNat_natCast] at HO
  have hk40 : k < 40 := by omega
  have hki : (k : Int) < 40 := by omega
  have hk0 : ¬ (k : Int) < 0 := by omega
  clear hk hba h0 h1
  generalize Ur.few s 16 = t at *
  have HR := Lib.hid (fun u => record_get (Lm.bs (Fm.T k).nam) u)
  rw [rr_nam hk40, er_nam hk40] at HR
  have HX := Lib.hid (fun u => record_get t u)
  have HI := Lib.hid (fun u => Fr.find_any t u)
  have HNA := Lib.hid (nms_at hk40)
  have hT : rV (Fm.T k) = .agg #[.string (Lm.bs (Fm.T k).nam), .string (Lm.bs (Fm.T k).pat), .string (Lm.bs (Fm.T k).sys), .string (Lm.bs (Fm.T k).dec), .string (Lm.bs (Fm.T k).grp), .string (Lm.bs (Fm.T k).min), .string (Lm.bs (Fm.T k).per), .string (Lm.bs (Fm.T k).cur)] := rfl
  rw [hT] at HO HR
  clear hT
  generalize Lm.bs (Fm.T k).nam = s0 at *
  generalize Lm.bs (Fm.T k).pat = s1 at *
  generalize Lm.bs (Fm.T k).sys = s2 at *
  generalize Lm.bs (Fm.T k).dec = s3 at *
  generalize Lm.bs (Fm.T k).grp = s4 at *
  generalize Lm.bs (Fm.T k).min = s5 at *
  generalize Lm.bs (Fm.T k).per = s6 at *
  generalize Lm.bs (Fm.T k).cur = s7 at *
  have hcase : (0 ≤ Fm.fnd t.data.toList 40 ∧ er t = 0) ∨ (Fm.fnd t.data.toList 40 < 0 ∧ er t = 7 ∧ rr t = Fm.rec0) := by
    by_cases hf : 0 ≤ Fm.fnd t.data.toList 40
    · exact .inl ⟨hf, if_pos hf⟩
    · exact .inr ⟨by omega, if_neg hf, if_neg hf⟩
  have hX2 : ∃ z0 z1 z2 z3 z4 z5 z6 z7 : ByteArray, rV (rr t) = .agg #[.string z0, .string z1, .string z2, .string z3, .string z4, .string z5, .string z6, .string z7] ∧ (rr t = Fm.rec0 → z0 = ⟨#[]⟩ ∧ z1 = ⟨#[]⟩ ∧ z2 = ⟨#[]⟩ ∧ z3 = ⟨#[]⟩ ∧ z4 = ⟨#[]⟩ ∧ z5 = ⟨#[]⟩ ∧ z6 = ⟨#[]⟩ ∧ z7 = ⟨#[]⟩) :=
    ⟨_, _, _, _, _, _, _, _, rfl, fun h => by rw [h]; exact ⟨rfl, rfl, rfl, rfl, rfl, rfl, rfl, rfl⟩⟩
  obtain ⟨z0, z1, z2, z3, z4, z5, z6, z7, hz, hzz⟩ := hX2
  rw [hz] at HX
  have HZZ := Lib.hid hzz
  clear hz hzz
  go_enter Try.func3, Try.ntmps3
  go_wp2_with fail
  refine (HF.out _).mono ?_
  rintro e u ⟨rfl, rfl⟩
  go_wp2_with fail
  refine (HO.out _).mono ?_
  rintro e w1 ⟨rfl, hq1⟩
  obtain ⟨W1, hW1⟩ : ∃ x, x = w1.alloc (.cells #[.string s0, .string s1, .string s2, .string s3, .string s4, .string s5, .string s6, .string s7] 24) := ⟨_, rfl⟩
  have HQ1 := Lib.hid (show Q w W1 by rw [hW1]; exact hq1.alloc _)
  have hm := (show Bk W1 w1.heap.size 24 [.string s0, .string s1, .string s2, .string s3, .string s4, .string s5, .string s6, .string s7] by rw [hW1]; exact Bk.new _ _ _)
  obtain ⟨bW, hbW⟩ : ∃ b, b = w1.heap.size := ⟨_, rfl⟩
  rw [← hbW] at hm
  have HM := Lib.hid hm
  clear hq1 hm
  go_wp2_with fail
  rw [← hW1, ← hbW]
  clear hW1 hbW
  refine (HNM.out _).mono ?_
  rintro e w2 ⟨v, rfl, hv, hq2⟩
  obtain ⟨a, c, rfl, _, _⟩ := hv.form0 nms_len
  have HV := Lib.hid hv
  have HQ2 := Lib.hid (HQ1.out.trans hq2)
  have m0 := (HM.out.q hq2).cell 0 rfl
  replace HM := Lib.hid (HM.out.q hq2)
  clear hv hq2
  go_wp2_with fail
  refine (HA.out _).mono ?_
  rintro e u ⟨rfl, rfl⟩
  go_wp2_with fail
  refine (HR.out _).mono ?_
  rintro e w3 ⟨rfl, hq3⟩
  obtain ⟨W3, hW3⟩ : ∃ x, x = w3.alloc (.cells #[.string s0, .string s1, .string s2, .string s3, .string s4, .string s5, .string s6, .string s7] 29) := ⟨_, rfl⟩
  have hq3a : Q w2 W3 := by rw [hW3]; exact hq3.alloc _
  have HQ3 := Lib.hid (HQ2.out.trans hq3a)
  have hr := (show Bk W3 w3.heap.size 29 [.string s0, .string s1, .string s2, .string s3, .string s4, .string s5, .string s6, .string s7] by rw [hW3]; exact Bk.new _ _ _)
  obtain ⟨bR, hbR⟩ : ∃ b, b = w3.heap.size := ⟨_, rfl⟩
  rw [← hbR] at hr
  have HRB := Lib.hid hr
  replace HM := Lib.hid (HM.out.q hq3a)
  replace HV := Lib.hid (HV.out.q hq3a)
  clear hq3 hr hq3a m0
  go_wp2_with fail
  rw [← hW3, ← hbR]
  clear hW3 hbR
  refine (HX.out _).mono ?_
  rintro e w4 ⟨rfl, hq4⟩
  obtain ⟨W4, hW4⟩ : ∃ x, x = w4.alloc (.cells #[.string z0, .string z1, .string z2, .string z3, .string z4, .string z5, .string z6, .string z7] 29) := ⟨_, rfl⟩
  have hq4a : Q W3 W4 := by rw [hW4]; exact hq4.alloc _
  have HQ4 := Lib.hid (HQ3.out.trans hq4a)
  have hx := (show Bk W4 w4.heap.size 29 [.string z0, .string z1, .string z2, .string z3, .string z4, .string z5, .string z6, .string z7] by rw [hW4]; exact Bk.new _ _ _)
  obtain ⟨bX, hbX⟩ : ∃ b, b = w4.heap.size := ⟨_, rfl⟩
  rw [← hbX] at hx
  have HXB := Lib.hid hx
  replace HM := Lib.hid (HM.out.q hq4a)
  replace HV := Lib.hid (HV.out.q hq4a)
  replace HRB := Lib.hid (HRB.out.q hq4a)
  clear hq4 hx hq4a
  go_wp2_with fail
  rw [← hW4, ← hbX]
  clear hW4 hbX
  refine (HI.out _).mono ?_
  rintro e w5 ⟨rfl, hq5⟩
  have HQ5 := Lib.hid (HQ4.out.trans hq5)
  have hm := HM.out.q hq5
  have hv := HV.out.q hq5
  have hr := HRB.out.q hq5
  have hx := HXB.out.q hq5
  clear HM HV HRB HXB
  obtain ⟨g, off, cap, hvv, hg, _, _, cn⟩ := hv.cellOf nms_len HNA.out
  cases hvv
  have m0 := hm.cell 0 rfl
  have r0 := hr.cell 0 rfl
  have x0 := hx.cell 0 rfl
  have m1 := hm.cell 1 rfl
  have r1 := hr.cell 1 rfl
  have x1 := hx.cell 1 rfl
  have m2 := hm.cell 2 rfl
  have r2 := hr.cell 2 rfl
  have x2 := hx.cell 2 rfl
  have m3 := hm.cell 3 rfl
  have r3 := hr.cell 3 rfl
  have x3 := hx.cell 3 rfl
  have m4 := hm.cell 4 rfl
  have r4 := hr.cell 4 rfl
  have x4 := hx.cell 4 rfl
  have m5 := hm.cell 5 rfl
  have r5 := hr.cell 5 rfl
  have x5 := hx.cell 5 rfl
  have m6 := hm.cell 6 rfl
  have r6 := hr.cell 6 rfl
  have x6 := hx.cell 6 rfl
  have m7 := hm.cell 7 rfl
  have r7 := hr.cell 7 rfl
  have x7 := hx.cell 7 rfl
  generalize er t = f at *
  generalize Fm.fnd t.data.toList 40 = x at *
  have hqd : Q w5 w5.drew := (Q.refl w5).drew
  have cnd := (World.cell?_of_block (w := w5) (a := ⟨g, off + k, none⟩) (hqd.block hg)).trans cn
  have md := (hm.q hqd).cell 0 rfl
  clear hm hr hx hv hq5
  rcases hcase with ⟨hf, rfl⟩ | ⟨hf, rfl, hrr⟩
  · go_upto_region 12 with fail
    go_region_with (refine (HLV.out _).mono ?_; rintro e w6 ⟨rfl, hq6⟩; have HQ6 := Lib.hid (HQ5.out.trans (hqd.trans hq6)))
    all_goals (go_wp2_with fail; go_ret; exact ⟨rfl, HQ6.out⟩)
  · obtain ⟨rfl, rfl, rfl, rfl, rfl, rfl, rfl, rfl⟩ := HZZ.out hrr
    clear hrr
    go_upto_region 12 with fail
    go_region_with (refine (HLV.out _).mono ?_; rintro e w6 ⟨rfl, hq6⟩; have HQ6 := Lib.hid (HQ5.out.trans (hqd.trans hq6)))
    all_goals (go_wp2_with fail; go_ret; exact ⟨rfl, HQ6.out⟩)

end Ft
end Go.Proofs.Ytglljkbpdbnhaaa
