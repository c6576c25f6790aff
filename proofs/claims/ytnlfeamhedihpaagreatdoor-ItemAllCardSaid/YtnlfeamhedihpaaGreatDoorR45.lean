/- The program's items of the separator and the digits behind it; of a draft. (and more) -/
import Derived.Test.YtnlfeamhedihpaaGreatDoorR00
import Derived.Test.YtnlfeamhedihpaaGreatDoorR02
import Derived.Test.YtnlfeamhedihpaaGreatDoorR01
import Derived.Test.YtnlfeamhedihpaaGreatDoorR41
import Derived.Test.YtnlfeamhedihpaaGreatDoorR43
import Derived.Test.YtnlfeamhedihpaaGreatDoorR07
import Derived.Test.YtnlfeamhedihpaaGreatDoorR10
import Derived.Test.YtnlfeamhedihpaaGreatDoorR03
import Derived.Test.YtnlfeamhedihpaaGreatDoorR40
import Derived.Test.YtnlfeamhedihpaaGreatDoorR26
import Derived.Test.YtnlfeamhedihpaaGreatDoorR09
import Derived.Test.YtnlfeamhedihpaaGreatDoorR31
import Derived.Test.YtnlfeamhedihpaaGreatDoorR39
import Derived.Test.YtnlfeamhedihpaaGreatDoorRows
import Derived.Deep.RegionHeld
import Derived.Deep.QuietTactic
import Derived.BigQuiet
set_option linter.unusedVariables false
set_option linter.unusedSimpArgs false
namespace Go.Proofs.YtnlfeamhedihpaaGreatDoor
open Go.RowKit
namespace It
open Um Im Lo
set_option maxRecDepth 100000 in
set_option maxHeartbeats 3200000 in
theorem rest_any (g0 : Nat) (r : Lm.Rec) (X : Pt.Pat) (a b c d cl : Value) (g s : Bool) (e1 e2 : Option Addr) (m1 m2 f1 f2 : Nat) (I F : List Int) (w : World) (hB : LB w g0 r X a b c d cl) (hi : Lst w (.slice e1 m1 f1) I) (hf : Lst w (.slice e2 m2 f2) F) (k1 : I.length = m1) (k2 : F.length = m2) (l1 : m1 ≤ 1000) (l2 : m2 ≤ 1000) (hF : Dm.okD F) :
    Calls Tryz.prog 31 #[.pointer (some ⟨g0, 0, none⟩), .agg #[.bool g, .slice e1 m1 f1, .bool s, .slice e2 m2 f2]] w fun e w' => ∃ x, e = .returned x ∧ OwnI 51 w' w.heap.size x (resI r ⟨g, I, s, F⟩) ∧ Q w w' := by
  have HV := Lib.hid (fun u (q : Q w u) k (h : k < m2) => (hf.q q).cellOf k2 h)
  have hr := fun u (q : Q w u) => Ro.record_any g0 r X a b c d cl u (hB.q q)
  unfold recV at hr
  have HR := Lib.hid hr
  have HDG := Lib.hid (fun x (h0 : 0 ≤ x) (h9 : x ≤ 9) u (q : Q w u) => digit_ok g0 r X a b c d cl x u (hB.q q) h0 h9)
  have HDX := Lib.hid (digit_at hF)
  have HWS := Lib.hid (fun k => show reI r m1 F (k + 1) = reI r m1 F k ++ [dgE r (F.getD k 0) ((m1 : Int) + ((k : Int) + 1))] by rw [reI_succ]; simp)
  have HWL := Lib.hid (reI_len r m1 F)
  have HWZ := Lib.hid (reI_zero r m1 F)
  have HDE := Lib.hid (show ∀ x i, dgE r x i = (2, Lm.dgt r x.toNat, i) from fun _ _ => rfl)
  have HF := Lib.hid (fun u => fldD u (Lm.bs r.nam) (Lm.bs r.pat) (Lm.bs r.sys) (Lm.bs r.dec) (Lm.bs r.grp) (Lm.bs r.min) (Lm.bs r.per) (Lm.bs r.cur))
  have hic := hi.form0 k1
  obtain ⟨_, _, hv, hnc, hcm⟩ := hic
  cases hv
  have hfc := hf.form0 k2
  obtain ⟨_, _, hv, hnf, hfm⟩ := hfc
  cases hv
  have hRS : resI r ⟨g, I, s, F⟩ = if s = true then reI r m1 F m2 else [] := by unfold resI; dsimp only; rw [k1, k2]
  rw [hRS]
  unfold maxLen at hcm hfm
  clear hr hB hi hf k1 k2 hF hRS
  generalize reI r m1 F = RI at *
  generalize Lm.bs r.nam = s0 at *
  generalize Lm.bs r.pat = s1 at *
  generalize Lm.bs r.sys = s2 at *
  generalize Lm.bs r.dec = s3 at *
  generalize Lm.bs r.grp = s4 at *
  generalize Lm.bs r.min = s5 at *
  generalize Lm.bs r.per = s6 at *
  generalize Lm.bs r.cur = s7 at *
  obtain ⟨z, hz⟩ : ∃ z, z = w.alloc (.cells #[.bool g, .slice e1 m1 f1, .bool s, .slice e2 m2 f2] 40) := ⟨_, rfl⟩
  have HQZ := Lib.hid (show Q w z by rw [hz]; exact (Q.refl w).alloc _)
  have HDZ := Lib.hid (show Bk z w.heap.size 40 [.bool g, .slice e1 m1 f1, .bool s, .slice e2 m2 f2] by rw [hz]; exact Bk.new _ _ _)
  cases s
  · rw [if_neg (by simp)]
    go_enter Tryz.func31, Tryz.ntmps31
    go_upto_region 1 with fail
    rw [← hz]
    clear hz
    obtain ⟨bd, hbd⟩ : ∃ b, b = w.heap.size := ⟨_, rfl⟩
    rw [← hbd] at HDZ ⊢
    clear hbd
    have y2 := HDZ.out.cell 2 rfl
    go_wp2_with fail
    go_ret
    exact ⟨_, rfl, OwnI.nil _ _ _, HQZ.out⟩
  · rw [if_pos rfl]
    go_enter Tryz.func31, Tryz.ntmps31
    go_upto_region 1 with fail
    rw [← hz]
    clear hz
    obtain ⟨bd, hbd⟩ : ∃ b, b = w.heap.size := ⟨_, rfl⟩
    rw [← hbd] at HDZ ⊢
    clear hbd
    have hf0 := HF.out
    have y2 := HDZ.out.cell 2 rfl
    go_upto_region 3 with fail
    clear y2
    refine wp_region_held_drew (S := fun u => Q z u) (by kernel_rfl) (by exact (Q.refl z).drew) (fun hHeld => ?_)
    have hS : Q z z.drew := hHeld
    clear hHeld
    have hq : Q z z.drew := (Q.refl _).drew
    clear hq
    generalize z.drew = yR2x0 at *
    change wpAnyH _ _ _ _ _ _ #[ff,ff,ff,ff,ff,ff,ff,ff,ff] _ _
    refine wpAnyH_take (i := 0) (v := ?vR2x1) (by (try simp only [gA, gB, gC]); rfl) (by kernel_rfl) (by kernel_rfl) (by kernel_rfl) (by exact fun _ _ _ h => h) (Or.inl ⟨by first | kernel_rfl | rfl, ?hyR2x1⟩) (by exact hS) ?rsR2x1
    case hyR2x1 => (intro uz hSw; (try dsimp only at hSw); go_simp; try with_reducible rfl)
    try simp only [Act.put, sA, sB, sC]
    change wpAnyH _ _ _ _ _ _ #[tt,ff,ff,ff,ff,ff,ff,ff,ff] _ _
    refine wpAnyH_take (i := 3) (v := ?vR2x2) (by (try simp only [gA, gB, gC]); rfl) (by kernel_rfl) (by kernel_rfl) (by kernel_rfl) (by exact fun _ _ _ h => h) (Or.inl ⟨by first | kernel_rfl | rfl, ?hyR2x2⟩) (by exact hS) ?rsR2x2
    case hyR2x2 => (intro uz hSw; (try dsimp only at hSw); go_simp; try with_reducible rfl)
    try simp only [Act.put, sA, sB, sC]
    change wpAnyH _ _ _ _ _ _ #[tt,ff,ff,tt,ff,ff,ff,ff,ff] _ _
    refine wpAnyH_take (i := 4) (v := ?vR2x3) (by (try simp only [gA, gB, gC]); rfl) (by kernel_rfl) (by kernel_rfl) (by kernel_rfl) (by exact fun _ _ _ h => h) (Or.inl ⟨by first | kernel_rfl | rfl, ?hyR2x3⟩) (by exact hS) ?rsR2x3
    case hyR2x3 => (intro uz hSw; (try dsimp only at hSw); have q := (HDZ.out.q hSw).cell 1 rfl; go_simp; try with_reducible rfl)
    try simp only [Act.put, sA, sB, sC]
    change wpAnyH _ _ _ _ _ _ #[tt,ff,ff,tt,tt,ff,ff,ff,ff] _ _
    refine wpAnyH_take (i := 5) (v := ?vR2x4) (by (try simp only [gA, gB, gC]); rfl) (by kernel_rfl) (by kernel_rfl) (by kernel_rfl) (by exact fun _ _ _ h => h) (Or.inl ⟨by first | kernel_rfl | rfl, ?hyR2x4⟩) (by exact hS) ?rsR2x4
    case hyR2x4 => (intro uz hSw; (try dsimp only at hSw); go_simp; try with_reducible rfl)
    try simp only [Act.put, sA, sB, sC]
    change wpAnyH _ _ _ _ _ _ #[tt,ff,ff,tt,tt,tt,ff,ff,ff] _ _
    refine wpAnyH_ready (rs := [1]) (by kernel_rfl) (by simp) ?_
    refine (AllReadyH.cons (by (try simp only [gA, gB, gC]); rfl) (fun K hK => ?_) AllReadyH.nil)
    go_simp
    refine (HR.out _ (HQZ.out.trans hS)).mono ?_
    rintro e yR2x5 ⟨rfl, hq⟩
    try (go_wp2_with fail)
    have hS2 := Q.trans hS hq
    refine hK.out _ _ (by exact hS2) (fun hHeld => ?_)
    clear hK K hHeld hS hq
    have hS := hS2
    clear hS2
    try simp only [Act.put, sA, sB, sC]
    change wpAnyH _ _ _ _ _ _ #[tt,tt,ff,tt,tt,tt,ff,ff,ff] _ _
    refine wpAnyH_take (i := 2) (v := ?vR2x6) (by (try simp only [gA, gB, gC]); rfl) (by kernel_rfl) (by kernel_rfl) (by kernel_rfl) (by exact fun _ _ _ h => h) (Or.inl ⟨by first | kernel_rfl | rfl, ?hyR2x6⟩) (by exact hS) ?rsR2x6
    case hyR2x6 => (intro uz hSw; (try dsimp only at hSw); go_simp; try with_reducible rfl)
    try simp only [Act.put, sA, sB, sC]
    change wpAnyH _ _ _ _ _ _ #[tt,tt,tt,tt,tt,tt,ff,ff,ff] _ _
    refine wpAnyH_take (i := 6) (v := ?vR2x7) (by (try simp only [gA, gB, gC]); rfl) (by kernel_rfl) (by kernel_rfl) (by kernel_rfl) (by exact fun _ _ _ h => h) (Or.inl ⟨by first | kernel_rfl | rfl, ?hyR2x7⟩) (by exact hS) ?rsR2x7
    case hyR2x7 => (intro uz hSw; (try dsimp only at hSw); go_simp; try with_reducible rfl)
    try simp only [Act.put, sA, sB, sC]
    change wpAnyH _ _ _ _ _ _ #[tt,tt,tt,tt,tt,tt,tt,ff,ff] _ _
    refine wpAnyH_ready (rs := [7]) (by kernel_rfl) (by simp) ?_
    refine (AllReadyH.cons (by (try simp only [gA, gB, gC]); rfl) (fun K hK => ?_) AllReadyH.nil)
    go_simp
    have hq := (Q.refl yR2x5).alloc (.cells #[.int .i64 4, .string s3, .int .i64 (m1 : Int)] 51)
    have HOX := Lib.hid (OwnI.made1 (T := 51) yR2x5 4 s3 (m1 : Int))
    have HBX := Lib.hid (Bk.new yR2x5 51 [.int .i64 4, .string s3, .int .i64 (m1 : Int)])
    have HW_bX := Lib.hid (Q.le hS)
    have HOX := Lib.hid (HOX.out.mono HW_bX.out)
    have hS2 := Q.trans hS hq
    refine hK.out _ _ (by exact hS2) (fun hHeld => ?_)
    clear hK K hHeld hS hq
    have hS := hS2
    clear hS2
    generalize yR2x5.alloc (.cells #[.int .i64 4, .string s3, .int .i64 (m1 : Int)] 51) = yR2x8 at *
    generalize yR2x5.heap.size = bX at *
    try simp only [Act.put, sA, sB, sC]
    change wpAnyH _ _ _ _ _ _ #[tt,tt,tt,tt,tt,tt,tt,tt,ff] _ _
    refine wpAnyH_take (i := 8) (v := ?vR2x9) (by (try simp only [gA, gB, gC]); rfl) (by kernel_rfl) (by kernel_rfl) (by kernel_rfl) (by exact fun _ _ _ h => h) (Or.inl ⟨by first | kernel_rfl | rfl, ?hyR2x9⟩) (by exact hS) ?rsR2x9
    case hyR2x9 => (intro uz hSw; (try dsimp only at hSw); go_simp; try with_reducible rfl)
    try simp only [Act.put, sA, sB, sC]
    change wpAnyH _ _ _ _ _ _ #[tt,tt,tt,tt,tt,tt,tt,tt,tt] _ _
    refine wpAnyH_done (by kernel_rfl) ?_ _
    have HQ1 := Lib.hid hS
    have HO1 := Lib.hid HOX.out
    clear hS hf0
    have y3 := (HDZ.out.q HQ1.out).cell 3 rfl
    go_wp2_with fail
    clear y3
    go_loopw [5, 21] (fun x i wr => ∃ k : Nat, i = .int .i64 k ∧ k ≤ m2 ∧ OwnI 51 wr z.heap.size x (RI k) ∧ Q z wr) (fun _ i _ => m2 - (intOf i).toNat)
    case atStart => exact ⟨0, rfl, by omega, by rw [HWZ.out]; exact HO1.out, HQ1.out⟩
    case round =>
      obtain ⟨k, rfl, hk, ho, hqr⟩ := hrel
      by_cases hlt : k < m2
      · have hwl := HWL.out k
        obtain ⟨oa, oc, rfl, _, _⟩ := ho.lst.form0 hwl
        have HOL := Lib.hid hwl
        have HQR := Lib.hid (HQZ.out.trans hqr)
        have HCX := Lib.hid (show ∃ gg off, Value.slice e2 m2 f2 = .slice (some ⟨gg, off, none⟩) m2 f2 ∧ ∀ u, Q z u → u.cell? ⟨gg, off + k, none⟩ = some (.int .i64 (F.getD k 0)) from by
          obtain ⟨gg, off, cap, hvv, hg, _, _, c1'⟩ := HV.out wr HQR.out k hlt
          cases hvv
          refine ⟨gg, off, rfl, fun u hu => ?_⟩
          obtain ⟨_, _, _, h1, _, _, _, h2⟩ := HV.out u (HQZ.out.trans hu) k hlt
          cases h1
          exact h2)
        obtain ⟨gg, off, hvv, hcx⟩ := HCX.out
        cases hvv
        clear HCX
        have HCX := Lib.hid hcx
        have HWK := Lib.hid (HWS.out k)
        have hdx := HDX.out k
        clear hcx hwl
        generalize F.getD k 0 = x at *
        rw [HDE.out] at HWK
        have HDX2 := Lib.hid (fun u q => HDG.out x hdx.1 hdx.2 u q)
        generalize Lm.dgt r x.toNat = D at *
        have OWN := Lib.hid ho
        have hw1 : IntKind.i64.wrap ((m1 : Int) + ((k : Int) + 1)) = (m1 : Int) + ((k + 1 : Nat) : Int) := by rw [IntKind.wrap_i64]; omega
        have hw2 : IntKind.i64.wrap ((m1 : Int) + ((k : Int) + 1)) = (m1 : Int) + ((k : Int) + 1) := by rw [IntKind.wrap_i64]; omega
        clear ho
        go_upto_region 7 with fail
        refine wp_region_held_drew (S := fun u => Q z u) (by kernel_rfl) (by exact hqr.drew) (fun hHeld => ?_)
        have hS : Q z wr.drew := hHeld
        clear hHeld
        have hq : Q wr wr.drew := (Q.refl _).drew
        have OWN := Lib.hid (OWN.out.q hq)
        clear hq
        generalize wr.drew = yR3x0 at *
        change wpAnyH _ _ _ _ _ _ #[ff,ff,ff,ff,ff,ff,ff,ff,ff,ff,ff,ff,ff,ff,ff,ff,ff,ff] _ _
        refine wpAnyH_take (i := 0) (v := ?vR3x1) (by (try simp only [gA, gB, gC]); rfl) (by kernel_rfl) (by kernel_rfl) (by kernel_rfl) (by exact fun _ _ _ h => h) (Or.inl ⟨by first | kernel_rfl | rfl, ?hyR3x1⟩) (by exact hS) ?rsR3x1
        case hyR3x1 => (intro uz hSw; (try dsimp only at hSw); go_simp; try with_reducible rfl)
        try simp only [Act.put, sA, sB, sC]
        change wpAnyH _ _ _ _ _ _ #[tt,ff,ff,ff,ff,ff,ff,ff,ff,ff,ff,ff,ff,ff,ff,ff,ff,ff] _ _
        refine wpAnyH_take (i := 1) (v := ?vR3x2) (by (try simp only [gA, gB, gC]); rfl) (by kernel_rfl) (by kernel_rfl) (by kernel_rfl) (by exact fun _ _ _ h => h) (Or.inl ⟨by first | kernel_rfl | rfl, ?hyR3x2⟩) (by exact hS) ?rsR3x2
        case hyR3x2 => (intro uz hSw; (try dsimp only at hSw); go_simp; try with_reducible rfl)
        try simp only [Act.put, sA, sB, sC]
        change wpAnyH _ _ _ _ _ _ #[tt,tt,ff,ff,ff,ff,ff,ff,ff,ff,ff,ff,ff,ff,ff,ff,ff,ff] _ _
        refine wpAnyH_take (i := 2) (v := ?vR3x3) (by (try simp only [gA, gB, gC]); rfl) (by kernel_rfl) (by kernel_rfl) (by kernel_rfl) (by exact fun _ _ _ h => h) (Or.inl ⟨by first | kernel_rfl | rfl, ?hyR3x3⟩) (by exact hS) ?rsR3x3
        case hyR3x3 => (intro uz hSw; (try dsimp only at hSw); go_simp; try with_reducible rfl)
        try simp only [Act.put, sA, sB, sC]
        change wpAnyH _ _ _ _ _ _ #[tt,tt,tt,ff,ff,ff,ff,ff,ff,ff,ff,ff,ff,ff,ff,ff,ff,ff] _ _
        refine wpAnyH_take (i := 3) (v := ?vR3x4) (by (try simp only [gA, gB, gC]); rfl) (by kernel_rfl) (by kernel_rfl) (by kernel_rfl) (by exact fun _ _ _ h => h) (Or.inl ⟨by first | kernel_rfl | rfl, ?hyR3x4⟩) (by exact hS) ?rsR3x4
        case hyR3x4 => (intro uz hSw; (try dsimp only at hSw); have q := (HDZ.out.q hSw).cell 3 rfl; go_simp; try with_reducible rfl)
        try simp only [Act.put, sA, sB, sC]
        change wpAnyH _ _ _ _ _ _ #[tt,tt,tt,tt,ff,ff,ff,ff,ff,ff,ff,ff,ff,ff,ff,ff,ff,ff] _ _
        refine wpAnyH_take (i := 4) (v := ?vR3x5) (by (try simp only [gA, gB, gC]); rfl) (by kernel_rfl) (by kernel_rfl) (by kernel_rfl) (by exact fun _ _ _ h => h) (Or.inl ⟨by first | kernel_rfl | rfl, ?hyR3x5⟩) (by exact hS) ?rsR3x5
        case hyR3x5 => (intro uz hSw; (try dsimp only at hSw); go_simp; try with_reducible rfl)
        try simp only [Act.put, sA, sB, sC]
        change wpAnyH _ _ _ _ _ _ #[tt,tt,tt,tt,tt,ff,ff,ff,ff,ff,ff,ff,ff,ff,ff,ff,ff,ff] _ _
        refine wpAnyH_take (i := 5) (v := ?vR3x6) (by (try simp only [gA, gB, gC]); rfl) (by kernel_rfl) (by kernel_rfl) (by kernel_rfl) (by exact fun _ _ _ h => h) (Or.inl ⟨by first | kernel_rfl | rfl, ?hyR3x6⟩) (by exact hS) ?rsR3x6
        case hyR3x6 => (intro uz hSw; (try dsimp only at hSw); go_simp; try with_reducible rfl)
        try simp only [Act.put, sA, sB, sC]
        change wpAnyH _ _ _ _ _ _ #[tt,tt,tt,tt,tt,tt,ff,ff,ff,ff,ff,ff,ff,ff,ff,ff,ff,ff] _ _
        refine wpAnyH_take (i := 6) (v := ?vR3x7) (by (try simp only [gA, gB, gC]); rfl) (by kernel_rfl) (by kernel_rfl) (by kernel_rfl) (by exact fun _ _ _ h => h) (Or.inl ⟨by first | kernel_rfl | rfl, ?hyR3x7⟩) (by exact hS) ?rsR3x7
        case hyR3x7 => (intro uz hSw; (try dsimp only at hSw); have q := HCX.out _ hSw; go_simp; try with_reducible rfl)
        try simp only [Act.put, sA, sB, sC]
        change wpAnyH _ _ _ _ _ _ #[tt,tt,tt,tt,tt,tt,tt,ff,ff,ff,ff,ff,ff,ff,ff,ff,ff,ff] _ _
        refine wpAnyH_take (i := 8) (v := ?vR3x8) (by (try simp only [gA, gB, gC]); rfl) (by kernel_rfl) (by kernel_rfl) (by kernel_rfl) (by exact fun _ _ _ h => h) (Or.inl ⟨by first | kernel_rfl | rfl, ?hyR3x8⟩) (by exact hS) ?rsR3x8
        case hyR3x8 => (intro uz hSw; (try dsimp only at hSw); go_simp; try with_reducible rfl)
        try simp only [Act.put, sA, sB, sC]
        change wpAnyH _ _ _ _ _ _ #[tt,tt,tt,tt,tt,tt,tt,ff,tt,ff,ff,ff,ff,ff,ff,ff,ff,ff] _ _
        refine wpAnyH_take (i := 9) (v := ?vR3x9) (by (try simp only [gA, gB, gC]); rfl) (by kernel_rfl) (by kernel_rfl) (by kernel_rfl) (by exact fun _ _ _ h => h) (Or.inl ⟨by first | kernel_rfl | rfl, ?hyR3x9⟩) (by exact hS) ?rsR3x9
        case hyR3x9 => (intro uz hSw; (try dsimp only at hSw); have q := (HDZ.out.q hSw).cell 1 rfl; go_simp; try with_reducible rfl)
        try simp only [Act.put, sA, sB, sC]
        change wpAnyH _ _ _ _ _ _ #[tt,tt,tt,tt,tt,tt,tt,ff,tt,tt,ff,ff,ff,ff,ff,ff,ff,ff] _ _
        refine wpAnyH_take (i := 10) (v := ?vR3x10) (by (try simp only [gA, gB, gC]); rfl) (by kernel_rfl) (by kernel_rfl) (by kernel_rfl) (by exact fun _ _ _ h => h) (Or.inl ⟨by first | kernel_rfl | rfl, ?hyR3x10⟩) (by exact hS) ?rsR3x10
        case hyR3x10 => (intro uz hSw; (try dsimp only at hSw); go_simp; try with_reducible rfl)
        try simp only [Act.put, sA, sB, sC]
        change wpAnyH _ _ _ _ _ _ #[tt,tt,tt,tt,tt,tt,tt,ff,tt,tt,tt,ff,ff,ff,ff,ff,ff,ff] _ _
        refine wpAnyH_take (i := 11) (v := ?vR3x11) (by (try simp only [gA, gB, gC]); rfl) (by kernel_rfl) (by kernel_rfl) (by kernel_rfl) (by exact fun _ _ _ h => h) (Or.inl ⟨by first | kernel_rfl | rfl, ?hyR3x11⟩) (by exact hS) ?rsR3x11
        case hyR3x11 => (intro uz hSw; (try dsimp only at hSw); go_simp; try with_reducible rfl)
        try simp only [Act.put, sA, sB, sC]
        change wpAnyH _ _ _ _ _ _ #[tt,tt,tt,tt,tt,tt,tt,ff,tt,tt,tt,tt,ff,ff,ff,ff,ff,ff] _ _
        refine wpAnyH_take (i := 12) (v := ?vR3x12) (by (try simp only [gA, gB, gC]); rfl) (by kernel_rfl) (by kernel_rfl) (by kernel_rfl) (by exact fun _ _ _ h => h) (Or.inl ⟨by first | kernel_rfl | rfl, ?hyR3x12⟩) (by exact hS) ?rsR3x12
        case hyR3x12 => (intro uz hSw; (try dsimp only at hSw); go_simp; try with_reducible rfl)
        try simp only [Act.put, sA, sB, sC]
        change wpAnyH _ _ _ _ _ _ #[tt,tt,tt,tt,tt,tt,tt,ff,tt,tt,tt,tt,tt,ff,ff,ff,ff,ff] _ _
        refine wpAnyH_take (i := 13) (v := ?vR3x13) (by (try simp only [gA, gB, gC]); rfl) (by kernel_rfl) (by kernel_rfl) (by kernel_rfl) (by exact fun _ _ _ h => h) (Or.inl ⟨by first | kernel_rfl | rfl, ?hyR3x13⟩) (by exact hS) ?rsR3x13
        case hyR3x13 => (intro uz hSw; (try dsimp only at hSw); go_simp; try with_reducible rfl)
        try simp only [Act.put, sA, sB, sC]
        change wpAnyH _ _ _ _ _ _ #[tt,tt,tt,tt,tt,tt,tt,ff,tt,tt,tt,tt,tt,tt,ff,ff,ff,ff] _ _
        refine wpAnyH_ready (rs := [7]) (by kernel_rfl) (by simp) ?_
        refine (AllReadyH.cons (by (try simp only [gA, gB, gC]); rfl) (fun K hK => ?_) AllReadyH.nil)
        go_simp
        refine (HDX2.out _ (HQZ.out.trans hS)).mono ?_
        rintro e yR3x14 ⟨rfl, hq⟩
        try (go_wp2_with fail)
        have OWN := Lib.hid (OWN.out.q hq)
        have hS2 := Q.trans hS hq
        refine hK.out _ _ (by exact hS2) (fun hHeld => ?_)
        clear hK K hHeld hS hq
        have hS := hS2
        clear hS2
        try simp only [Act.put, sA, sB, sC]
        change wpAnyH _ _ _ _ _ _ #[tt,tt,tt,tt,tt,tt,tt,tt,tt,tt,tt,tt,tt,tt,ff,ff,ff,ff] _ _
        refine wpAnyH_take (i := 14) (v := ?vR3x15) (by (try simp only [gA, gB, gC]); rfl) (by kernel_rfl) (by kernel_rfl) (by kernel_rfl) (by exact fun _ _ _ h => h) (Or.inl ⟨by first | kernel_rfl | rfl, ?hyR3x15⟩) (by exact hS) ?rsR3x15
        case hyR3x15 => (intro uz hSw; (try dsimp only at hSw); go_simp; try with_reducible rfl)
        try simp only [Act.put, sA, sB, sC]
        change wpAnyH _ _ _ _ _ _ #[tt,tt,tt,tt,tt,tt,tt,tt,tt,tt,tt,tt,tt,tt,tt,ff,ff,ff] _ _
        refine wpAnyH_ready (rs := [15]) (by kernel_rfl) (by simp) ?_
        refine (AllReadyH.cons (by (try simp only [gA, gB, gC]); rfl) (fun K hK => ?_) AllReadyH.nil)
        go_simp
        have hq := (Q.refl yR3x14).alloc (.cells #[.int .i64 2, .string D, .int .i64 ((m1 : Int) + ((k : Int) + 1))] 51)
        have HBX := Lib.hid (Bk.new yR3x14 51 [.int .i64 2, .string D, .int .i64 ((m1 : Int) + ((k : Int) + 1))])
        have HW_bX := Lib.hid (Q.le hS)
        have OWN := Lib.hid (OWN.out.q hq)
        have hS2 := Q.trans hS hq
        refine hK.out _ _ (by exact hS2) (fun hHeld => ?_)
        clear hK K hHeld hS hq
        have hS := hS2
        clear hS2
        generalize yR3x14.alloc (.cells #[.int .i64 2, .string D, .int .i64 ((m1 : Int) + ((k : Int) + 1))] 51) = yR3x16 at *
        generalize yR3x14.heap.size = bX at *
        try simp only [Act.put, sA, sB, sC]
        change wpAnyH _ _ _ _ _ _ #[tt,tt,tt,tt,tt,tt,tt,tt,tt,tt,tt,tt,tt,tt,tt,tt,ff,ff] _ _
        refine wpAnyH_ready (rs := [16]) (by kernel_rfl) (by simp) ?_
        refine (AllReadyH.cons (by (try simp only [gA, gB, gC]); rfl) (fun K hK => ?_) AllReadyH.nil)
        refine Im.pushR elP OWN.out (by rfl) _ _ (by rfl) 2 D ((m1 : Int) + ((k : Int) + 1)) (by rfl) (by rfl) (HBX.out.cell 0 rfl) (HBX.out.cell 1 rfl) (HBX.out.cell 2 rfl) (by rw [HOL.out]; omega) (Q.le hS) ?_
        intro v' yR3x17 ho hg hat
        have hS2 := Q.grown hS hg (fun j h => (OWN.out.lt j h).1)
        have HO6 := Lib.hid ho
        clear ho hg hat
        refine hK.out _ _ (by exact hS2) (fun hHeld => ?_)
        clear hK K hHeld hS
        have hS := hS2
        clear hS2
        try simp only [Act.put, sA, sB, sC]
        change wpAnyH _ _ _ _ _ _ #[tt,tt,tt,tt,tt,tt,tt,tt,tt,tt,tt,tt,tt,tt,tt,tt,tt,ff] _ _
        refine wpAnyH_take (i := 17) (v := ?vR3x18) (by (try simp only [gA, gB, gC]); rfl) (by kernel_rfl) (by kernel_rfl) (by kernel_rfl) (by exact fun _ _ _ h => h) (Or.inl ⟨by first | kernel_rfl | rfl, ?hyR3x18⟩) (by exact hS) ?rsR3x18
        case hyR3x18 => (intro uz hSw; (try dsimp only at hSw); go_simp; try with_reducible rfl)
        try simp only [Act.put, sA, sB, sC]
        change wpAnyH _ _ _ _ _ _ #[tt,tt,tt,tt,tt,tt,tt,tt,tt,tt,tt,tt,tt,tt,tt,tt,tt,tt] _ _
        refine wpAnyH_done (by kernel_rfl) ?_ _
        have HQ6 := Lib.hid hS
        clear hS
        have HO7 := Lib.hid (show OwnI 51 yR3x17 z.heap.size v' (RI (k + 1)) by rw [HWK.out]; exact HO6.out)
        go_wp2_with fail
        exact ⟨⟨k + 1, by go_num, by omega, HO7.out, HQ6.out⟩, by simp [intOf]; omega⟩
      · obtain rfl : k = m2 := by omega
        have HO := Lib.hid (ho.mono HQZ.out.le)
        have HQ := Lib.hid (HQZ.out.trans hqr)
        clear ho hqr
        go_wp2_with fail
        go_ret
        exact ⟨_, rfl, HO.out, HQ.out⟩
set_option maxRecDepth 100000 in
set_option maxHeartbeats 3200000 in
theorem items_any (g0 : Nat) (r : Lm.Rec) (X : Pt.Pat) (a b c d cl : Value) (g s : Bool) (e1 e2 : Option Addr) (m1 m2 f1 f2 : Nat) (I F : List Int) (w : World) (hO : Lm.Ok r X) (hB : LB w g0 r X a b c d cl) (hi : Lst w (.slice e1 m1 f1) I) (hf : Lst w (.slice e2 m2 f2) F) (k1 : I.length = m1) (k2 : F.length = m2) (l1 : m1 ≤ 1000) (l2 : m2 ≤ 1000) (hI : Dm.okD I) (hF : Dm.okD F) :
    Calls Tryz.prog 10 #[.pointer (some ⟨g0, 0, none⟩), .agg #[.bool g, .slice e1 m1 f1, .bool s, .slice e2 m2 f2]] w fun e w' => ∃ x, e = .returned x ∧ OwnI 51 w' w.heap.size x (itm r X.pr X.se ⟨g, I, s, F⟩ (parP r (Ro.ahd g X)) (parP r (Ro.bhd g X))) ∧ Q w w' := by
  have hic := hi.form0 k1
  obtain ⟨_, _, hv, hnc, hcm⟩ := hic
  cases hv
  have hfc := hf.form0 k2
  obtain ⟨_, _, hv, hnf, hfm⟩ := hfc
  cases hv
  have hpf := Ro.around_fact hO g
  have HAR := Lib.hid (fun u (q : Q w u) => Ro.around_any g g0 r X a b c d cl u hO (hB.q q))
  have HAF := Lib.hid (fun v l u (q : Q w u) (hv : Pb.LstP u v l) (hl : l.length ≤ 100000) => affixes_any g0 r X a b c d cl v l u (hB.q q) hv hl)
  have HWH := Lib.hid (fun u (q : Q w u) => whole_any g0 r X a b c d cl g s e1 e2 m1 m2 f1 f2 I F u (hB.q q) (hi.q q) k1 l1 hI hfm hnf)
  have HRE := Lib.hid (fun u (q : Q w u) => rest_any g0 r X a b c d cl g s e1 e2 m1 m2 f1 f2 I F u (hB.q q) (hi.q q) (hf.q q) k1 k2 l1 l2 hF)
  have HP1 := Lib.hid hpf.2.2.1
  have HP2 := Lib.hid hpf.2.2.2
  have hw1 := whI_len r X.pr X.se I I.length
  have hw3 := resI_len r ⟨g, I, s, F⟩
  dsimp only at hw3
  rw [k2] at hw3
  rw [k1] at hw1
  have HIT := Lib.hid (show itm r X.pr X.se ⟨g, I, s, F⟩ (parP r (Ro.ahd g X)) (parP r (Ro.bhd g X)) = affI r (parP r (Ro.ahd g X)) ++ whI r X.pr X.se I I.length ++ resI r ⟨g, I, s, F⟩ ++ affI r (parP r (Ro.bhd g X)) from rfl)
  rw [HIT.out]
  rw [k1] at HWH ⊢
  clear HIT hpf hB hi hf hO hI hF k1 k2
  unfold maxLen at hcm hfm
  generalize parP r (Ro.ahd g X) = P1 at *
  generalize parP r (Ro.bhd g X) = P2 at *
  have hq1 := affI_len r P1
  have hq2 := affI_len r P2
  generalize whI r X.pr X.se I m1 = A2 at *
  generalize resI r ⟨g, I, s, F⟩ = A3 at *
  obtain ⟨A1, hA1⟩ : ∃ y, y = affI r P1 := ⟨_, rfl⟩
  obtain ⟨A4, hA4⟩ : ∃ y, y = affI r P2 := ⟨_, rfl⟩
  rw [← hA1] at hq1
  rw [← hA4] at hq2
  rw [← hA1, ← hA4]
  have HA1 := Lib.hid hA1.symm
  have HA4 := Lib.hid hA4.symm
  obtain ⟨n1, hn1⟩ : ∃ n, n = A1.length := ⟨_, rfl⟩
  obtain ⟨n2, hn2⟩ : ∃ n, n = A2.length := ⟨_, rfl⟩
  obtain ⟨n3, hn3⟩ : ∃ n, n = A3.length := ⟨_, rfl⟩
  obtain ⟨n4, hn4⟩ : ∃ n, n = A4.length := ⟨_, rfl⟩
  have hp1 := HP1.out
  have hp2 := HP2.out
  have HL1 := Lib.hid hn1.symm
  have HL2 := Lib.hid hn2.symm
  have HL3 := Lib.hid hn3.symm
  have HL4 := Lib.hid hn4.symm
  have hb1 : n1 ≤ 3 := by omega
  have hb2 : n2 ≤ 2000 := by omega
  have hb3 : n3 ≤ 1001 := by omega
  have hb4 : n4 ≤ 3 := by omega
  clear hA1 hA4 hn1 hn2 hn3 hn4 hq1 hq2 hw1 hw3 hp1 hp2
  obtain ⟨z, hz⟩ : ∃ z, z = w.alloc (.cells #[.bool g, .slice e1 m1 f1, .bool s, .slice e2 m2 f2] 40) := ⟨_, rfl⟩
  have HQZ := Lib.hid (show Q w z by rw [hz]; exact (Q.refl w).alloc _)
  have HDZ := Lib.hid (show Bk z w.heap.size 40 [.bool g, .slice e1 m1 f1, .bool s, .slice e2 m2 f2] by rw [hz]; exact Bk.new _ _ _)
  go_enter Tryz.func10, Tryz.ntmps10
  go_upto_region 1 with fail
  rw [← hz]
  clear hz
  obtain ⟨bd, hbd⟩ : ∃ b, b = w.heap.size := ⟨_, rfl⟩
  rw [← hbd] at HDZ ⊢
  clear hbd
  have y0 := HDZ.out.cell 0 rfl
  go_wp2_with fail
  refine (HAR.out _ HQZ.out).mono ?_
  rintro e w1 ⟨q1, q2, rfl, hu1, hu2, hq1⟩
  have HX1 := Lib.hid (show ∀ u, Q w1 u → Calls Tryz.prog 29 #[.pointer (some ⟨g0, 0, none⟩), q1] u fun e w' => ∃ x, e = .returned x ∧ OwnI 51 w' u.heap.size x A1 ∧ Q u w' from fun u q => by
    have h := HAF.out q1 P1 u (HQZ.out.trans (hq1.trans q)) (hu1.q q) (by have := HP1.out; omega)
    rwa [HA1.out] at h)
  have HX2 := Lib.hid (show ∀ u, Q w1 u → Calls Tryz.prog 29 #[.pointer (some ⟨g0, 0, none⟩), q2] u fun e w' => ∃ x, e = .returned x ∧ OwnI 51 w' u.heap.size x A4 ∧ Q u w' from fun u q => by
    have h := HAF.out q2 P2 u (HQZ.out.trans (hq1.trans q)) (hu2.q q) (by have := HP2.out; omega)
    rwa [HA4.out] at h)
  obtain ⟨qa, qc, rfl, _, _⟩ := hu1.shape2
  obtain ⟨qb, qd, rfl, _, _⟩ := hu2.shape2
  have HQ1 := Lib.hid (HQZ.out.trans hq1)
  have HD1 := Lib.hid (HDZ.out.q hq1)
  clear hu1 hu2 hq1 y0
  go_upto_region 2 with fail
  refine wp_region_held_drew (S := fun u => Q w1 u) (by kernel_rfl) (by exact (Q.refl w1).drew) (fun hHeld => ?_)
  have hS : Q w1 w1.drew := hHeld
  clear hHeld
  have hq : Q w1 w1.drew := (Q.refl _).drew
  clear hq
  generalize w1.drew = yR4x0 at *
  change wpAnyH _ _ _ _ _ _ #[ff,ff,ff,ff,ff,ff,ff,ff,ff,ff,ff,ff,ff,ff,ff] _ _
  refine wpAnyH_take (i := 0) (v := ?vR4x1) (by (try simp only [gA, gB, gC]); rfl) (by kernel_rfl) (by kernel_rfl) (by kernel_rfl) (by exact fun _ _ _ h => h) (Or.inl ⟨by first | kernel_rfl | rfl, ?hyR4x1⟩) (by exact hS) ?rsR4x1
  case hyR4x1 => (intro uz hSw; (try dsimp only at hSw); go_simp; try with_reducible rfl)
  try simp only [Act.put, sA, sB, sC]
  change wpAnyH _ _ _ _ _ _ #[tt,ff,ff,ff,ff,ff,ff,ff,ff,ff,ff,ff,ff,ff,ff] _ _
  refine wpAnyH_take (i := 1) (v := ?vR4x2) (by (try simp only [gA, gB, gC]); rfl) (by kernel_rfl) (by kernel_rfl) (by kernel_rfl) (by exact fun _ _ _ h => h) (Or.inl ⟨by first | kernel_rfl | rfl, ?hyR4x2⟩) (by exact hS) ?rsR4x2
  case hyR4x2 => (intro uz hSw; (try dsimp only at hSw); go_simp; try with_reducible rfl)
  try simp only [Act.put, sA, sB, sC]
  change wpAnyH _ _ _ _ _ _ #[tt,tt,ff,ff,ff,ff,ff,ff,ff,ff,ff,ff,ff,ff,ff] _ _
  refine wpAnyH_take (i := 3) (v := ?vR4x3) (by (try simp only [gA, gB, gC]); rfl) (by kernel_rfl) (by kernel_rfl) (by kernel_rfl) (by exact fun _ _ _ h => h) (Or.inl ⟨by first | kernel_rfl | rfl, ?hyR4x3⟩) (by exact hS) ?rsR4x3
  case hyR4x3 => (intro uz hSw; (try dsimp only at hSw); go_simp; try with_reducible rfl)
  try simp only [Act.put, sA, sB, sC]
  change wpAnyH _ _ _ _ _ _ #[tt,tt,ff,tt,ff,ff,ff,ff,ff,ff,ff,ff,ff,ff,ff] _ _
  refine wpAnyH_take (i := 4) (v := ?vR4x4) (by (try simp only [gA, gB, gC]); rfl) (by kernel_rfl) (by kernel_rfl) (by kernel_rfl) (by exact fun _ _ _ h => h) (Or.inl ⟨by first | kernel_rfl | rfl, ?hyR4x4⟩) (by exact hS) ?rsR4x4
  case hyR4x4 => (intro uz hSw; (try dsimp only at hSw); have kb := HD1.out.q hSw; have k0 := kb.cell 0 rfl; have k1 := kb.cell 1 rfl; have k2 := kb.cell 2 rfl; have k3 := kb.cell 3 rfl; clear kb; go_simp; try with_reducible rfl)
  try simp only [Act.put, sA, sB, sC]
  change wpAnyH _ _ _ _ _ _ #[tt,tt,ff,tt,tt,ff,ff,ff,ff,ff,ff,ff,ff,ff,ff] _ _
  refine wpAnyH_take (i := 6) (v := ?vR4x5) (by (try simp only [gA, gB, gC]); rfl) (by kernel_rfl) (by kernel_rfl) (by kernel_rfl) (by exact fun _ _ _ h => h) (Or.inl ⟨by first | kernel_rfl | rfl, ?hyR4x5⟩) (by exact hS) ?rsR4x5
  case hyR4x5 => (intro uz hSw; (try dsimp only at hSw); go_simp; try with_reducible rfl)
  try simp only [Act.put, sA, sB, sC]
  change wpAnyH _ _ _ _ _ _ #[tt,tt,ff,tt,tt,ff,tt,ff,ff,ff,ff,ff,ff,ff,ff] _ _
  refine wpAnyH_take (i := 7) (v := ?vR4x6) (by (try simp only [gA, gB, gC]); rfl) (by kernel_rfl) (by kernel_rfl) (by kernel_rfl) (by exact fun _ _ _ h => h) (Or.inl ⟨by first | kernel_rfl | rfl, ?hyR4x6⟩) (by exact hS) ?rsR4x6
  case hyR4x6 => (intro uz hSw; (try dsimp only at hSw); have kb := HD1.out.q hSw; have k0 := kb.cell 0 rfl; have k1 := kb.cell 1 rfl; have k2 := kb.cell 2 rfl; have k3 := kb.cell 3 rfl; clear kb; go_simp; try with_reducible rfl)
  try simp only [Act.put, sA, sB, sC]
  change wpAnyH _ _ _ _ _ _ #[tt,tt,ff,tt,tt,ff,tt,tt,ff,ff,ff,ff,ff,ff,ff] _ _
  refine wpAnyH_take (i := 9) (v := ?vR4x7) (by (try simp only [gA, gB, gC]); rfl) (by kernel_rfl) (by kernel_rfl) (by kernel_rfl) (by exact fun _ _ _ h => h) (Or.inl ⟨by first | kernel_rfl | rfl, ?hyR4x7⟩) (by exact hS) ?rsR4x7
  case hyR4x7 => (intro uz hSw; (try dsimp only at hSw); go_simp; try with_reducible rfl)
  try simp only [Act.put, sA, sB, sC]
  change wpAnyH _ _ _ _ _ _ #[tt,tt,ff,tt,tt,ff,tt,tt,ff,tt,ff,ff,ff,ff,ff] _ _
  refine wpAnyH_take (i := 10) (v := ?vR4x8) (by (try simp only [gA, gB, gC]); rfl) (by kernel_rfl) (by kernel_rfl) (by kernel_rfl) (by exact fun _ _ _ h => h) (Or.inl ⟨by first | kernel_rfl | rfl, ?hyR4x8⟩) (by exact hS) ?rsR4x8
  case hyR4x8 => (intro uz hSw; (try dsimp only at hSw); go_simp; try with_reducible rfl)
  try simp only [Act.put, sA, sB, sC]
  change wpAnyH _ _ _ _ _ _ #[tt,tt,ff,tt,tt,ff,tt,tt,ff,tt,tt,ff,ff,ff,ff] _ _
  refine wpAnyH_ready (rs := [2]) (by kernel_rfl) (by simp) ?_
  refine (AllReadyH.cons (by (try simp only [gA, gB, gC]); rfl) (fun K hK => ?_) AllReadyH.nil)
  go_simp
  refine (HX1.out _ hS).mono ?_
  rintro e yR4x9 ⟨x1, rfl, ho1, hq⟩
  obtain ⟨xa1, xc1, rfl, _, _⟩ := ho1.lst.form0 HL1.out
  have HO1 := Lib.hid ho1.lst
  clear ho1
  try (go_wp2_with fail)
  have hS2 := Q.trans hS hq
  refine hK.out _ _ (by exact hS2) (fun hHeld => ?_)
  clear hK K hHeld hS hq
  have hS := hS2
  clear hS2
  try simp only [Act.put, sA, sB, sC]
  change wpAnyH _ _ _ _ _ _ #[tt,tt,tt,tt,tt,ff,tt,tt,ff,tt,tt,ff,ff,ff,ff] _ _
  refine wpAnyH_ready (rs := [5]) (by kernel_rfl) (by simp) ?_
  refine (AllReadyH.cons (by (try simp only [gA, gB, gC]); rfl) (fun K hK => ?_) AllReadyH.nil)
  go_simp
  refine (HWH.out _ (HQ1.out.trans hS)).mono ?_
  rintro e yR4x10 ⟨x2, rfl, ho2, hq⟩
  obtain ⟨xa2, xc2, rfl, _, _⟩ := ho2.lst.form0 HL2.out
  have HO2 := Lib.hid ho2.lst
  clear ho2
  try (go_wp2_with fail)
  have HO1 := Lib.hid (HO1.out.q hq)
  have hS2 := Q.trans hS hq
  refine hK.out _ _ (by exact hS2) (fun hHeld => ?_)
  clear hK K hHeld hS hq
  have hS := hS2
  clear hS2
  try simp only [Act.put, sA, sB, sC]
  change wpAnyH _ _ _ _ _ _ #[tt,tt,tt,tt,tt,tt,tt,tt,ff,tt,tt,ff,ff,ff,ff] _ _
  refine wpAnyH_ready (rs := [8]) (by kernel_rfl) (by simp) ?_
  refine (AllReadyH.cons (by (try simp only [gA, gB, gC]); rfl) (fun K hK => ?_) AllReadyH.nil)
  go_simp
  refine (HRE.out _ (HQ1.out.trans hS)).mono ?_
  rintro e yR4x11 ⟨x3, rfl, ho3, hq⟩
  obtain ⟨xa3, xc3, rfl, _, _⟩ := ho3.lst.form0 HL3.out
  have HO3 := Lib.hid ho3.lst
  clear ho3
  try (go_wp2_with fail)
  have HO1 := Lib.hid (HO1.out.q hq)
  have HO2 := Lib.hid (HO2.out.q hq)
  have hS2 := Q.trans hS hq
  refine hK.out _ _ (by exact hS2) (fun hHeld => ?_)
  clear hK K hHeld hS hq
  have hS := hS2
  clear hS2
  try simp only [Act.put, sA, sB, sC]
  change wpAnyH _ _ _ _ _ _ #[tt,tt,tt,tt,tt,tt,tt,tt,tt,tt,tt,ff,ff,ff,ff] _ _
  refine wpAnyH_ready (rs := [11]) (by kernel_rfl) (by simp) ?_
  refine (AllReadyH.cons (by (try simp only [gA, gB, gC]); rfl) (fun K hK => ?_) AllReadyH.nil)
  go_simp
  refine (HX2.out _ hS).mono ?_
  rintro e yR4x12 ⟨x4, rfl, ho4, hq⟩
  obtain ⟨xa4, xc4, rfl, _, _⟩ := ho4.lst.form0 HL4.out
  have HO4 := Lib.hid ho4.lst
  clear ho4
  try (go_wp2_with fail)
  have HO1 := Lib.hid (HO1.out.q hq)
  have HO2 := Lib.hid (HO2.out.q hq)
  have HO3 := Lib.hid (HO3.out.q hq)
  have hS2 := Q.trans hS hq
  refine hK.out _ _ (by exact hS2) (fun hHeld => ?_)
  clear hK K hHeld hS hq
  have hS := hS2
  clear hS2
  try simp only [Act.put, sA, sB, sC]
  change wpAnyH _ _ _ _ _ _ #[tt,tt,tt,tt,tt,tt,tt,tt,tt,tt,tt,tt,ff,ff,ff] _ _
  refine wpAnyH_ready (rs := [12]) (by kernel_rfl) (by simp) ?_
  refine (AllReadyH.cons (by (try simp only [gA, gB, gC]); rfl) (fun K hK => ?_) AllReadyH.nil)
  go_simp
  have hq := (Q.refl yR4x12).alloc (.cells #[.slice xa1 n1 xc1, .slice xa2 n2 xc2, .slice xa3 n3 xc3, .slice xa4 n4 xc4] 38)
  have HBQ := Lib.hid (Bk.new yR4x12 38 [.slice xa1 n1 xc1, .slice xa2 n2 xc2, .slice xa3 n3 xc3, .slice xa4 n4 xc4])
  have HW_bQ := Lib.hid (Q.le hS)
  have HO1 := Lib.hid (HO1.out.q hq)
  have HO2 := Lib.hid (HO2.out.q hq)
  have HO3 := Lib.hid (HO3.out.q hq)
  have HO4 := Lib.hid (HO4.out.q hq)
  have hS2 := Q.trans hS hq
  refine hK.out _ _ (by exact hS2) (fun hHeld => ?_)
  clear hK K hHeld hS hq
  have hS := hS2
  clear hS2
  generalize yR4x12.alloc (.cells #[.slice xa1 n1 xc1, .slice xa2 n2 xc2, .slice xa3 n3 xc3, .slice xa4 n4 xc4] 38) = yR4x13 at *
  generalize yR4x12.heap.size = bQ at *
  try simp only [Act.put, sA, sB, sC]
  change wpAnyH _ _ _ _ _ _ #[tt,tt,tt,tt,tt,tt,tt,tt,tt,tt,tt,tt,tt,ff,ff] _ _
  refine wpAnyH_ready (rs := [13]) (by kernel_rfl) (by simp) ?_
  refine (AllReadyH.cons (by (try simp only [gA, gB, gC]); rfl) (fun K hK => ?_) AllReadyH.nil)
  go_simp
  refine (concat4 _ bQ _ _ _ _ _ _ _ _ HBQ.out HO1.out HO2.out HO3.out HO4.out (by rw [HL1.out]; omega) (by rw [HL2.out]; omega) (by rw [HL3.out]; omega) (by rw [HL4.out]; omega)).mono ?_
  rintro e yR4x14 ⟨x5, rfl, ho5, hq⟩
  have HO5 := Lib.hid (ho5.mono (Nat.le_trans HQ1.out.le (Q.le hS)))
  clear ho5
  try (go_wp2_with fail)
  have HO1 := Lib.hid (HO1.out.q hq)
  have HO2 := Lib.hid (HO2.out.q hq)
  have HO3 := Lib.hid (HO3.out.q hq)
  have HO4 := Lib.hid (HO4.out.q hq)
  have HBQ := Lib.hid (Bk.q HBQ.out hq)
  have hS2 := Q.trans hS hq
  refine hK.out _ _ (by exact hS2) (fun hHeld => ?_)
  clear hK K hHeld hS hq
  have hS := hS2
  clear hS2
  try simp only [Act.put, sA, sB, sC]
  change wpAnyH _ _ _ _ _ _ #[tt,tt,tt,tt,tt,tt,tt,tt,tt,tt,tt,tt,tt,tt,ff] _ _
  refine wpAnyH_take (i := 14) (v := ?vR4x15) (by (try simp only [gA, gB, gC]); rfl) (by kernel_rfl) (by kernel_rfl) (by kernel_rfl) (by exact fun _ _ _ h => h) (Or.inl ⟨by first | kernel_rfl | rfl, ?hyR4x15⟩) (by exact hS) ?rsR4x15
  case hyR4x15 => (intro uz hSw; (try dsimp only at hSw); go_simp; try with_reducible rfl)
  try simp only [Act.put, sA, sB, sC]
  change wpAnyH _ _ _ _ _ _ #[tt,tt,tt,tt,tt,tt,tt,tt,tt,tt,tt,tt,tt,tt,tt] _ _
  refine wpAnyH_done (by kernel_rfl) ?_ _
  have HQ6 := Lib.hid (HQ1.out.trans hS)
  clear hS
  go_wp2_with fail
  go_ret
  exact ⟨_, rfl, HO5.out, HQ6.out⟩
end It
end Go.Proofs.YtnlfeamhedihpaaGreatDoor
