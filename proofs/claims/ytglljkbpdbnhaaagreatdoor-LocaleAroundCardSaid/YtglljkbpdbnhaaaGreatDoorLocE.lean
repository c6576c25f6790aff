/- Whether a record groups as it should; whether a text may stand at its places; all clusters; names. -/
import Derived.Test.YtglljkbpdbnhaaaGreatDoorRows
import Derived.Test.YtglljkbpdbnhaaaGreatDoorMA
import Derived.Test.YtglljkbpdbnhaaaGreatDoorMB
import Derived.Test.YtglljkbpdbnhaaaGreatDoorME
import Derived.Test.YtglljkbpdbnhaaaGreatDoorMBP
import Derived.Test.YtglljkbpdbnhaaaGreatDoorMP
import Derived.Test.YtglljkbpdbnhaaaGreatDoorLocM
import Derived.Test.YtglljkbpdbnhaaaGreatDoorLocA
import Derived.Test.YtglljkbpdbnhaaaGreatDoorLocB
import Derived.Test.YtglljkbpdbnhaaaGreatDoorLocC
import Derived.Deep.QuietTactic
import Derived.BigQuiet
set_option linter.unusedVariables false
set_option linter.unusedSimpArgs false
namespace Go.Proofs.YtglljkbpdbnhaaaGreatDoor
open Go.RowKit
namespace Lo
open Um Cm Gm


theorem grouped_yes (g : Nat) (r : Lm.Rec) (X : Pt.Pat) (a b c d cl : Value) (w : World) (hB : LB w g r X a b c d cl) (hp : 0 < X.pr) (hs : Lm.symB r.grp = true) (hl : r.grp.length ≤ 1000000) :
    Calls Tryz.prog 69 #[.pointer (some ⟨g, 0, none⟩)] w fun e w' => e = .returned (.bool true) ∧ Q w w' := by
  have hy := symbol_any (Lm.bs r.grp) w (by rw [Lm.bs_size]; exact hl)
  rw [Lm.bs_list, hs] at hy
  have HY := Lib.hid hy
  have c4 := hB.1.cell 4 rfl
  have c12 := hB.1.cell 12 rfl
  generalize X.pr = p at *
  generalize Lm.bs r.grp = G at *
  clear hB hs hl hy
  go_enter Tryz.func69, Tryz.ntmps69
  go_wp2_with fail
  refine HY.out.mono ?_
  rintro e w1 ⟨rfl, hq1⟩
  go_wp2_with fail
  go_ret
  exact ⟨rfl, hq1⟩

set_option maxRecDepth 100000 in
set_option maxHeartbeats 2000000 in
theorem grouped_no (g : Nat) (r : Lm.Rec) (X : Pt.Pat) (a b c d cl : Value) (w : World) (hB : LB w g r X a b c d cl) (hp : ¬ 0 < X.pr) (hs : r.grp = []) :
    Calls Tryz.prog 69 #[.pointer (some ⟨g, 0, none⟩)] w fun e w' => e = .returned (.bool true) ∧ Q w w' := by
  have hg : Lm.bs r.grp = ⟨#[]⟩ := by rw [hs]; rfl
  have c0 := hB.1.cell 0 rfl
  have c1 := hB.1.cell 1 rfl
  have c2 := hB.1.cell 2 rfl
  have c3 := hB.1.cell 3 rfl
  have c4 := hB.1.cell 4 rfl
  have c5 := hB.1.cell 5 rfl
  have c6 := hB.1.cell 6 rfl
  have c7 := hB.1.cell 7 rfl
  have c12 := hB.1.cell 12 rfl
  rw [hg] at c4
  have HB := Lib.hid (show ∀ u, Q w u → u.cell? ⟨g, 0, none⟩ = some (.string (Lm.bs r.nam)) ∧ u.cell? ⟨g, 1, none⟩ = some (.string (Lm.bs r.pat)) ∧ u.cell? ⟨g, 2, none⟩ = some (.string (Lm.bs r.sys)) ∧ u.cell? ⟨g, 3, none⟩ = some (.string (Lm.bs r.dec)) ∧ u.cell? ⟨g, 4, none⟩ = some (.string (⟨#[]⟩)) ∧ u.cell? ⟨g, 5, none⟩ = some (.string (Lm.bs r.min)) ∧ u.cell? ⟨g, 6, none⟩ = some (.string (Lm.bs r.per)) ∧ u.cell? ⟨g, 7, none⟩ = some (.string (Lm.bs r.cur)) from fun u hq => by
    have hb := (hB.q hq).1
    rw [← hg]
    exact ⟨hb.cell 0 rfl, hb.cell 1 rfl, hb.cell 2 rfl, hb.cell 3 rfl, hb.cell 4 rfl, hb.cell 5 rfl, hb.cell 6 rfl, hb.cell 7 rfl⟩)
  generalize X.pr = p at *
  generalize Lm.bs r.nam = s0 at *
  generalize Lm.bs r.pat = s1 at *
  generalize Lm.bs r.sys = s2 at *
  generalize Lm.bs r.dec = s3 at *
  generalize Lm.bs r.min = s5 at *
  generalize Lm.bs r.per = s6 at *
  generalize Lm.bs r.cur = s7 at *
  clear hB hs hg
  obtain ⟨z, hz⟩ : ∃ z, z = (w.alloc (.cells #[.string s0, .string s1, .string s2, .string s3, .string ⟨#[]⟩, .string s5, .string s6, .string s7] 32)) := ⟨_, rfl⟩
  have HQZ := Lib.hid (show Q w z by rw [hz]; exact (Q.refl w).alloc _)
  have HBZ := Lib.hid (show Bk z w.heap.size 32 [.string s0, .string s1, .string s2, .string s3, .string ⟨#[]⟩, .string s5, .string s6, .string s7] by rw [hz]; exact Bk.new _ _ _)
  go_enter Tryz.func69, Tryz.ntmps69
  go_upto_region 5 with fail
  rw [← hz]
  clear hz c0 c1 c2 c3 c4 c5 c6 c7 c12
  generalize w.heap.size = bz at *
  refine wp_region_held_drew (S := fun u => Q z u) (by kernel_rfl) (by exact (Q.refl z).drew) (fun hHeld => ?_)
  have hS : Q z z.drew := hHeld
  clear hHeld
  have hq : Q z z.drew := (Q.refl _).drew
  clear hq
  generalize z.drew = yR1x0 at *
  refine wpAnyH_take (i := 0) (v := ?vR1x1) rfl (by kernel_rfl) (by kernel_rfl) (by kernel_rfl) (fun _ _ _ h => h) (Or.inl ⟨by rfl, ?hyR1x1⟩) (by exact hS) ?rsR1x1
  case hyR1x1 => (intro uz hSw; (try dsimp only at hSw); have kb := HBZ.out.q hSw; have k0 := kb.cell 0 rfl; have k1 := kb.cell 1 rfl; have k2 := kb.cell 2 rfl; have k3 := kb.cell 3 rfl; have k4 := kb.cell 4 rfl; have k5 := kb.cell 5 rfl; have k6 := kb.cell 6 rfl; have k7 := kb.cell 7 rfl; have kg := HB.out _ (HQZ.out.trans hSw); obtain ⟨m0, m1, m2, m3, m4, m5, m6, m7⟩ := kg; clear kb; go_simp; try with_reducible rfl)
  try simp only [Act.put, List.setIfInBounds_toArray, List.set_cons_zero, List.set_cons_succ]
  refine wpAnyH_take (i := 1) (v := ?vR1x2) rfl (by kernel_rfl) (by kernel_rfl) (by kernel_rfl) (fun _ _ _ h => h) (Or.inl ⟨by rfl, ?hyR1x2⟩) (by exact hS) ?rsR1x2
  case hyR1x2 => (intro uz hSw; (try dsimp only at hSw); go_simp; try with_reducible rfl)
  try simp only [Act.put, List.setIfInBounds_toArray, List.set_cons_zero, List.set_cons_succ]
  refine wpAnyH_take (i := 2) (v := ?vR1x3) rfl (by kernel_rfl) (by kernel_rfl) (by kernel_rfl) (fun _ _ _ h => h) (Or.inl ⟨by rfl, ?hyR1x3⟩) (by exact hS) ?rsR1x3
  case hyR1x3 => (intro uz hSw; (try dsimp only at hSw); go_simp; try with_reducible rfl)
  try simp only [Act.put, List.setIfInBounds_toArray, List.set_cons_zero, List.set_cons_succ]
  refine wpAnyH_take (i := 3) (v := ?vR1x4) rfl (by kernel_rfl) (by kernel_rfl) (by kernel_rfl) (fun _ _ _ h => h) (Or.inl ⟨by rfl, ?hyR1x4⟩) (by exact hS) ?rsR1x4
  case hyR1x4 => (intro uz hSw; (try dsimp only at hSw); go_simp; try with_reducible rfl)
  try simp only [Act.put, List.setIfInBounds_toArray, List.set_cons_zero, List.set_cons_succ]
  refine wpAnyH_take (i := 4) (v := ?vR1x5) rfl (by kernel_rfl) (by kernel_rfl) (by kernel_rfl) (fun _ _ _ h => h) (Or.inl ⟨by rfl, ?hyR1x5⟩) (by exact hS) ?rsR1x5
  case hyR1x5 => (intro uz hSw; (try dsimp only at hSw); have kb := HBZ.out.q hSw; have k0 := kb.cell 0 rfl; have k1 := kb.cell 1 rfl; have k2 := kb.cell 2 rfl; have k3 := kb.cell 3 rfl; have k4 := kb.cell 4 rfl; have k5 := kb.cell 5 rfl; have k6 := kb.cell 6 rfl; have k7 := kb.cell 7 rfl; have kg := HB.out _ (HQZ.out.trans hSw); obtain ⟨m0, m1, m2, m3, m4, m5, m6, m7⟩ := kg; clear kb; go_simp; try with_reducible rfl)
  try simp only [Act.put, List.setIfInBounds_toArray, List.set_cons_zero, List.set_cons_succ]
  refine wpAnyH_take (i := 5) (v := ?vR1x6) rfl (by kernel_rfl) (by kernel_rfl) (by kernel_rfl) (fun _ _ _ h => h) (Or.inl ⟨by rfl, ?hyR1x6⟩) (by exact hS) ?rsR1x6
  case hyR1x6 => (intro uz hSw; (try dsimp only at hSw); go_simp; try with_reducible rfl)
  try simp only [Act.put, List.setIfInBounds_toArray, List.set_cons_zero, List.set_cons_succ]
  refine wpAnyH_take (i := 6) (v := ?vR1x7) rfl (by kernel_rfl) (by kernel_rfl) (by kernel_rfl) (fun _ _ _ h => h) (Or.inl ⟨by rfl, ?hyR1x7⟩) (by exact hS) ?rsR1x7
  case hyR1x7 => (intro uz hSw; (try dsimp only at hSw); go_simp; try with_reducible rfl)
  try simp only [Act.put, List.setIfInBounds_toArray, List.set_cons_zero, List.set_cons_succ]
  refine wpAnyH_done (by kernel_rfl) ?_ _
  have HQ := Lib.hid (HQZ.out.trans hS)
  clear hS
  go_wp2_with fail
  try (rename_i dx1 d1 hx1; have hy1 : (some 2 : Option Tmp) = some d1 := hx1; obtain rfl := Option.some.inj hy1; clear hx1 hy1)
  go_ret
  exact ⟨rfl, HQ.out⟩

/-! ### places of a kind -/
theorem placed_no (v : Value) (A : List Pc.E) (kind : Int) (b : Nat) (w : World) (hv : Pc.LstP w v A) (hA : A.length ≤ 1000000) (hn : Lm.cnt kind A = 0) (hb : Bk w b 3 [.int .i64 kind]) :
    Calls Tryz.prog 116 #[v, .pointer (some ⟨b, 0, none⟩)] w fun e w' => e = .returned (.bool false) ∧ Q w w' := by
  have hc := Pg.countP_any v A kind w hv hA
  rw [show ((A.countP fun p => p.1 == kind : Nat) : Int) = 0 by rw [show (A.countP fun p => p.1 == kind) = 0 from hn]; rfl] at hc
  have HC := Lib.hid hc
  have c0 := hb.cell 0 rfl
  obtain ⟨a, cp, rfl⟩ := hv.shape
  generalize A.length = m at *
  clear hv hA hc hn hb
  go_enter Tryz.func116, Tryz.ntmps116
  go_wp2_with fail
  refine HC.out.mono ?_
  rintro e w' ⟨rfl, hq'⟩
  go_wp2_with fail
  go_ret
  exact ⟨rfl, hq'⟩

theorem worded_yes (g : Nat) (s : List UInt8) (kind : Int) (w : World) (hl : s.length ≤ 1000000) (hw : Lm.wordB s = true) :
    Calls Tryz.prog 72 #[.pointer (some ⟨g, 0, none⟩), .string (Lm.bs s), .int .i64 kind] w fun e w' => e = .returned (.bool true) ∧ Q w w' := by
  have hy := fun u => word_any (Lm.bs s) u (by rw [Lm.bs_size]; exact hl)
  rw [Lm.bs_list, hw] at hy
  have HY := Lib.hid hy
  generalize Lm.bs s = S at *
  clear hl hw hy
  go_enter Tryz.func72, Tryz.ntmps72
  go_wp2_with fail
  refine (HY.out _).mono ?_
  rintro e w1 ⟨rfl, hq1⟩
  go_wp2_with fail
  go_ret
  exact ⟨rfl, Q.trans ((Q.refl w).alloc _) hq1⟩
set_option maxHeartbeats 1000000 in
theorem worded_none (g : Nat) (r : Lm.Rec) (X : Pt.Pat) (a b c d cl : Value) (kind : Int) (w : World) (hB : LB w g r X a b c d cl) (hA : ∀ A ∈ Lm.affs X, A.length ≤ 1000000) (hn : ∀ A ∈ Lm.affs X, Lm.cnt kind A = 0) :
    Calls Tryz.prog 72 #[.pointer (some ⟨g, 0, none⟩), .string ⟨#[]⟩, .int .i64 kind] w fun e w' => e = .returned (.bool true) ∧ Q w w' := by
  have hy := fun u => word_any ⟨#[]⟩ u (by decide)
  rw [show Lm.wordB (⟨#[]⟩ : ByteArray).data.toList = false by decide +kernel] at hy
  have HY := Lib.hid hy
  obtain ⟨z, hz⟩ : ∃ z, z = w.alloc (.cells #[.int .i64 kind] 3) := ⟨_, rfl⟩
  have HQZ := Lib.hid (show Q w z by rw [hz]; exact (Q.refl w).alloc _)
  have HBZ := Lib.hid (show Bk z w.heap.size 3 [.int .i64 kind] by rw [hz]; exact Bk.new _ _ _)
  have HA := Lib.hid (fun u (hq : Q z u) => affixes_any g r X a b c d cl u (hB.q (HQZ.out.trans hq)))
  have HN := Lib.hid (fun u v (hq : Q z u) (hv : GLst id u v [a, b, c, d]) => noL 116 #[] #[.pointer (some ⟨w.heap.size, 0, none⟩)] (enters_of Tryz.func116 (by kernel_rfl) rfl) v [a, b, c, d] u hv (aff_len a b c d) (fun k x hx u2 hq2 => by
    obtain ⟨A, _, hm, hv2⟩ := aff_at (hB.q (HQZ.out.trans (hq.trans hq2))) hx
    exact placed_no x A kind w.heap.size u2 hv2 (hA A hm) (hn A hm) (HBZ.out.q (hq.trans hq2))))
  have hb1 : (⟨#[]⟩ : ByteArray).toList.isEmpty = true := by decide +kernel
  have hb2 : ((⟨#[]⟩ : ByteArray).toList == []) = true := by decide +kernel
  clear hy hB hA hn
  go_enter Tryz.func72, Tryz.ntmps72
  go_wp2_with fail
  rw [← hz]
  clear hz
  refine (HY.out _).mono ?_
  rintro e w1 ⟨rfl, hq1⟩
  go_wp2_with fail
  refine (HA.out _ hq1).mono ?_
  rintro e w2 ⟨v2, rfl, hv2, hq2⟩
  obtain ⟨va, vc, rfl⟩ := hv2.shape
  go_wp2_with fail
  refine (HN.out _ _ (hq1.trans hq2) hv2).mono ?_
  rintro e w3 ⟨rfl, hq3⟩
  go_wp2_with fail
  go_ret
  exact ⟨rfl, HQZ.out.trans (hq1.trans (hq2.trans hq3))⟩

end Lo
end Go.Proofs.YtglljkbpdbnhaaaGreatDoor
