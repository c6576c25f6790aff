/- The document's own answers on locales: what a cluster is, whether an affix has it. -/
import Derived.Test.YtglljkbpdbnhaaaGreatDoorRows
import Derived.Test.YtglljkbpdbnhaaaGreatDoorMA
import Derived.Test.YtglljkbpdbnhaaaGreatDoorMB
import Derived.Test.YtglljkbpdbnhaaaGreatDoorMC
import Derived.Test.YtglljkbpdbnhaaaGreatDoorMF
import Derived.Test.YtglljkbpdbnhaaaGreatDoorMBP
import Derived.Test.YtglljkbpdbnhaaaGreatDoorMJ
import Derived.Test.YtglljkbpdbnhaaaGreatDoorMK
import Derived.Test.YtglljkbpdbnhaaaGreatDoorMBS
import Derived.Test.YtglljkbpdbnhaaaGreatDoorMH
import Derived.Test.YtglljkbpdbnhaaaGreatDoorLocM
import Derived.Test.YtglljkbpdbnhaaaGreatDoorLocB
import Derived.Test.YtglljkbpdbnhaaaGreatDoorLocF
import Derived.Test.YtglljkbpdbnhaaaGreatDoorLocU
import Derived.Test.YtglljkbpdbnhaaaGreatDoorLocW
import Derived.Test.YtglljkbpdbnhaaaGreatDoorLocX
import Derived.Deep.QuietTactic
import Derived.BigQuiet
set_option linter.unusedVariables false
set_option linter.unusedSimpArgs false
namespace Go.Proofs.YtglljkbpdbnhaaaGreatDoor
open Go.RowKit
namespace Ro
open Um Cm Gm Lo


theorem dgt_enc {r : Lm.Rec} (h : 0 ≤ Sm.nz r.sys) (k : Nat) (hk : k < 10) : Lm.dgt r k = encB (Sm.nz r.sys + k) := by
  unfold Lm.dgt Sm.dgS
  rw [if_neg (by omega), if_pos (by omega)]
theorem syms_at (r : Lm.Rec) (k : Nat) (hk : k < 10) : (Lm.syms r)[k]? = some (Lm.dgt r k) := by
  match k, hk with
  | 0, _ => rfl
  | 1, _ => rfl
  | 2, _ => rfl
  | 3, _ => rfl
  | 4, _ => rfl
  | 5, _ => rfl
  | 6, _ => rfl
  | 7, _ => rfl
  | 8, _ => rfl
  | 9, _ => rfl
theorem plc_drop (r : Lm.Rec) (x : ByteArray) (k : Nat) (hk : k < 10) : Lm.plc x ((Lm.syms r).drop k) k = if x = Lm.dgt r k then (k : Int) else Lm.plc x ((Lm.syms r).drop (k + 1)) (k + 1) := by
  obtain ⟨hl, e⟩ := List.getElem?_eq_some_iff.1 (syms_at r k hk)
  rw [List.drop_eq_getElem_cons hl, e]; rfl
/-- Sign, by the document's own row. -/
theorem sgn_end {r : Lm.Rec} {X : Pt.Pat} (hO : Lm.Ok r X) (x : ByteArray) (h : Lm.sgn r x = if x.size = 0 then -1 else Lm.plc x ((Lm.syms r).drop 10) 10) :
    Lm.sgn r x = if x = Lm.bs r.dec then 10 else if 0 < X.pr ∧ x = Lm.bs r.grp then 11 else if x = Lm.bs r.min then 12 else -1 := by
  have hd : (Lm.syms r).drop 10 = [Lm.bs r.dec, Lm.bs r.grp, Lm.bs r.min] := rfl
  have n10 := hO.ne 10 (Lm.bs r.dec) rfl (by omega)
  have n12 := hO.ne 12 (Lm.bs r.min) rfl (by omega)
  rw [h, hd]
  by_cases hz : x.size = 0
  · rw [if_pos hz, if_neg (fun e => by rw [e] at hz; omega)]
    have hg : ¬ (0 < X.pr ∧ x = Lm.bs r.grp) := fun ⟨hp, e⟩ => by
      have h2 := hO.grp1 hp
      unfold Lm.symB at h2
      rw [Bool.and_eq_true] at h2
      have h3 := h2.2
      rw [e, Lm.bs_size] at hz
      have h4 : r.grp = [] := List.eq_nil_of_length_eq_zero hz
      rw [h4] at h3
      simp [oneB] at h3
    rw [if_neg hg, if_neg (fun e => by rw [e] at hz; omega)]
  · rw [if_neg hz]
    unfold Lm.plc
    by_cases h1 : x = Lm.bs r.dec
    · rw [if_pos h1, if_pos h1]; rfl
    · rw [if_neg h1, if_neg h1]
      unfold Lm.plc
      by_cases h2 : x = Lm.bs r.grp
      · have hp : 0 < X.pr := by
          rcases Int.lt_or_le 0 X.pr with h3 | h3
          · exact h3
          · have h4 := hO.grp0 (by omega)
            rw [h2, Lm.bs_size, h4] at hz
            exact absurd rfl hz
        rw [if_pos h2, if_pos ⟨hp, h2⟩]; rfl
      · rw [if_neg h2, if_neg (fun h => h2 h.2)]
        unfold Lm.plc
        by_cases h3 : x = Lm.bs r.min
        · rw [if_pos h3, if_pos h3]; rfl
        · rw [if_neg h3, if_neg h3]; rfl

set_option maxRecDepth 100000 in
set_option maxHeartbeats 4000000 in
theorem rsign_any (r : Lm.Rec) (X : Pt.Pat) (a b c d : Value) (x : ByteArray) (w : World) (hO : Lm.Ok r X) (hL : LL w X a b c d) :
    Calls Tryz.prog 24 #[lV r X a b c d, .string x] w fun e w' => e = .returned (.int .i64 (Lm.sgn r x)) ∧ Q w w' := by
  have HD := Lib.hid (fun (k : Nat) (hk : k < 10) u => (show Calls Tryz.prog 17 #[.string (Lm.bs r.sys), .int .i64 (k : Int)] u fun e w' => e = .returned (.string (Lm.dgt r k)) ∧ Q u w' by
    have h := Sr.digit_any (Lm.bs r.sys) (k : Int) u (by omega) (by omega)
    rw [Lm.bs_list] at h
    rw [dgt_enc hO.sys k hk]; exact h))
  have HNE := Lib.hid (fun (k : Nat) (hk : k < 10) => hO.ne k (Lm.dgt r k) (syms_at r k hk) (by omega))
  have HST := Lib.hid (fun (k : Nat) (hk : k < 10) => plc_drop r x k hk)
  have HEN := Lib.hid (sgn_end hO x)
  have HZ := Lib.hid (show Lm.sgn r x = if x.size = 0 then -1 else Lm.plc x ((Lm.syms r).drop 0) 0 from rfl)
  obtain ⟨R, hR⟩ : ∃ R, R = Lm.sgn r x := ⟨_, rfl⟩
  rw [← hR] at HEN HZ ⊢
  obtain ⟨a1, a2, rfl⟩ := hL.1.shape
  obtain ⟨b1, b2, rfl⟩ := hL.2.1.shape
  obtain ⟨c1, c2, rfl⟩ := hL.2.2.1.shape
  obtain ⟨d1, d2, rfl⟩ := hL.2.2.2.shape
  generalize X.pre.length = n1 at *
  generalize X.suf.length = n2 at *
  generalize X.npre.length = n3 at *
  generalize X.nsuf.length = n4 at *
  unfold lV
  generalize X.pr = pr at *
  generalize Lm.bs r.nam = s0 at *
  generalize Lm.bs r.pat = s1 at *
  generalize Lm.bs r.sys = s2 at *
  generalize Lm.bs r.dec = s3 at *
  generalize Lm.bs r.grp = s4 at *
  generalize Lm.bs r.min = s5 at *
  generalize Lm.bs r.per = s6 at *
  generalize Lm.bs r.cur = s7 at *
  generalize Lm.dgt r = DG at *
  generalize Lm.syms r = SY at *
  clear hO hL hR
  obtain ⟨z, hz⟩ : ∃ z, z = w.alloc (.cells #[.string s0, .string s1, .string s2, .string s3, .string s4, .string s5, .string s6, .string s7, .slice a1 n1 a2, .slice b1 n2 b2, .slice c1 n3 c2, .slice d1 n4 d2, .int .i64 pr, .int .i64 X.se, .int .i64 X.mi, .int .i64 X.mf, .int .i64 X.xf] 38) := ⟨_, rfl⟩
  have HQZ := Lib.hid (show Q w z by rw [hz]; exact (Q.refl w).alloc _)
  have HBZ := Lib.hid (show Bk z w.heap.size 38 [.string s0, .string s1, .string s2, .string s3, .string s4, .string s5, .string s6, .string s7, .slice a1 n1 a2, .slice b1 n2 b2, .slice c1 n3 c2, .slice d1 n4 d2, .int .i64 pr, .int .i64 X.se, .int .i64 X.mi, .int .i64 X.mf, .int .i64 X.xf] by rw [hz]; exact Bk.new _ _ _)
  go_enter Tryz.func24, Tryz.ntmps24
  go_wp2_with fail
  rw [← hz]
  clear hz
  generalize w.heap.size = bz at *
  go_loopw [5] (fun i wr => ∃ k : Nat, i = .int .i64 k ∧ k ≤ 10 ∧ Hid (R = if x.size = 0 then -1 else Lm.plc x (SY.drop k) k) ∧ Q z wr) (fun i _ => 10 - (intOf i).toNat)
  case atStart => exact ⟨0, rfl, by omega, HZ, Q.refl _⟩
  case round =>
    obtain ⟨k, rfl, hk, HK, hq⟩ := hrel
    by_cases hlt : k < 10
    · have hlti : (k : Int) < 10 := by omega
      have c2 := (HBZ.out.q hq).cell 2 rfl
      have hne := HNE.out k hlt
      have hst := HST.out k hlt
      have hdd := HD.out k hlt
      generalize DG k = D at *
      by_cases hx : x = D
      · have HF := Lib.hid (show R = k by rw [HK.out, if_neg (by rw [hx]; omega), hst, if_pos hx])
        have hb : (D.toList == x.toList) = true := by rw [hx]; simp
        have HDD := Lib.hid hdd
        clear hx hne hst hdd
        go_wp2_with fail
        refine (HDD.out _).mono ?_
        rintro e w1 ⟨rfl, hq1⟩
        go_wp2_with fail
        go_ret
        rw [HF.out]
        exact ⟨rfl, HQZ.out.trans (hq.trans hq1)⟩
      · have HF := Lib.hid (show R = if x.size = 0 then -1 else Lm.plc x (SY.drop (k + 1)) (k + 1) by rw [HK.out, hst, if_neg hx])
        have hb : (D.toList == x.toList) = false := str_ne (fun e => hx e.symm)
        have HDD := Lib.hid hdd
        clear hx hne hst hdd
        go_wp2_with fail
        refine (HDD.out _).mono ?_
        rintro e w1 ⟨rfl, hq1⟩
        go_wp2_with fail
        exact ⟨⟨k + 1, by go_num, by omega, HF, hq.trans hq1⟩, by simp [intOf]; omega⟩
    · have hnlt : ¬ (k : Int) < 10 := by omega
      obtain rfl : k = 10 := by omega
      have hen := HEN.out HK.out
      have hbz := HBZ.out.q hq
      have c3 := hbz.cell 3 rfl
      have c4 := hbz.cell 4 rfl
      have c5 := hbz.cell 5 rfl
      have c12 := hbz.cell 12 rfl
      have HQ := Lib.hid (HQZ.out.trans hq)
      clear hbz hq
      by_cases h1 : x = s3
      · have HF := Lib.hid (show R = 10 by rw [hen, if_pos h1])
        have hb : (x.toList == s3.toList) = true := by rw [h1]; simp
        clear h1 hen
        go_wp2_with fail
        go_ret
        rw [HF.out]
        exact ⟨rfl, HQ.out⟩
      · have hb := str_ne h1
        by_cases h2 : 0 < pr
        · by_cases h3 : x = s4
          · have HF := Lib.hid (show R = 11 by rw [hen, if_neg h1, if_pos ⟨h2, h3⟩])
            have hb2 : (x.toList == s4.toList) = true := by rw [h3]; simp
            clear h1 h3 hen
            go_wp2_with fail
            go_ret
            rw [HF.out]
            exact ⟨rfl, HQ.out⟩
          · have hb2 := str_ne h3
            by_cases h4 : x = s5
            · have HF := Lib.hid (show R = 12 by rw [hen, if_neg h1, if_neg (fun h => h3 h.2), if_pos h4])
              have hb3 : (x.toList == s5.toList) = true := by rw [h4]; simp
              clear h1 h3 h4 hen
              go_wp2_with fail
              go_ret
              rw [HF.out]
              exact ⟨rfl, HQ.out⟩
            · have HF := Lib.hid (show R = -1 by rw [hen, if_neg h1, if_neg (fun h => h3 h.2), if_neg h4])
              have hb3 := str_ne h4
              clear h1 h3 h4 hen
              go_wp2_with fail
              go_ret
              rw [HF.out]
              exact ⟨rfl, HQ.out⟩
        · by_cases h4 : x = s5
          · have HF := Lib.hid (show R = 12 by rw [hen, if_neg h1, if_neg (fun h => h2 h.1), if_pos h4])
            have hb3 : (x.toList == s5.toList) = true := by rw [h4]; simp
            clear h1 h4 hen
            go_wp2_with fail
            go_ret
            rw [HF.out]
            exact ⟨rfl, HQ.out⟩
          · have HF := Lib.hid (show R = -1 by rw [hen, if_neg h1, if_neg (fun h => h2 h.1), if_neg h4])
            have hb3 := str_ne h4
            clear h1 h4 hen
            go_wp2_with fail
            go_ret
            rw [HF.out]
            exact ⟨rfl, HQ.out⟩

end Ro
end Go.Proofs.YtglljkbpdbnhaaaGreatDoor
