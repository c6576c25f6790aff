/- The document's own answers on locales: what stands around a number. -/
import Derived.Test.YtglljkbpdbnhaaaGreatDoorRows
import Derived.Test.YtglljkbpdbnhaaaGreatDoorMA
import Derived.Test.YtglljkbpdbnhaaaGreatDoorMB
import Derived.Test.YtglljkbpdbnhaaaGreatDoorMC
import Derived.Test.YtglljkbpdbnhaaaGreatDoorLdR
import Derived.Test.YtglljkbpdbnhaaaGreatDoorMF
import Derived.Test.YtglljkbpdbnhaaaGreatDoorMBP
import Derived.Test.YtglljkbpdbnhaaaGreatDoorMJ
import Derived.Test.YtglljkbpdbnhaaaGreatDoorMK
import Derived.Test.YtglljkbpdbnhaaaGreatDoorMBS
import Derived.Test.YtglljkbpdbnhaaaGreatDoorLocM
import Derived.Test.YtglljkbpdbnhaaaGreatDoorLocB
import Derived.Test.YtglljkbpdbnhaaaGreatDoorLocC
import Derived.Test.YtglljkbpdbnhaaaGreatDoorLocP
import Derived.Test.YtglljkbpdbnhaaaGreatDoorLocQ
import Derived.Test.YtglljkbpdbnhaaaGreatDoorLocR
import Derived.Test.YtglljkbpdbnhaaaGreatDoorLocS
import Derived.Test.YtglljkbpdbnhaaaGreatDoorLocU
import Derived.Test.YtglljkbpdbnhaaaGreatDoorLocO
import Derived.Test.YtglljkbpdbnhaaaGreatDoorLocOb
import Derived.Deep.QuietTactic
import Derived.BigQuiet
set_option linter.unusedVariables false
set_option linter.unusedSimpArgs false
namespace Go.Proofs.YtglljkbpdbnhaaaGreatDoor
open Go.RowKit
namespace Ro
open Um Cm Gm Lo


theorem cnt_le (r : Lm.Rec) (X : Pt.Pat) (A : List Pc.E) (hO : Lm.Ok r X) (hm : A ∈ Lm.affs X) : Lm.cnt 3 A ≤ 1 := by
  have h := hO.sg
  unfold Lm.affs at hm
  simp only [List.mem_cons, List.not_mem_nil, or_false] at hm
  rcases hm with rfl | rfl | rfl | rfl <;> omega
theorem rparts_ok (r : Lm.Rec) (X : Pt.Pat) (a b c d v : Value) (A : List Pc.E) (w : World) (hO : Lm.Ok r X) (hL : LL w X a b c d) (hv : Pc.LstP w v A) (hm : A ∈ Lm.affs X) :
    Calls Tryz.prog 43 #[lV r X a b c d, v] w fun e w' => ∃ u, e = .returned u ∧ Pb.LstP w' u (parP r A) ∧ Q w w' := by
  rw [← refP_eq r A (cnt_le r X A hO hm) (fun x hx h3 => ((hO.aff A hm).2 x hx).2.2.2 (by omega))]
  exact rparts_any r X a b c d v A w hL hv (hO.aff A hm).1 (fun x hx => ((hO.aff A hm).2 x hx).1) (hO.len A hm)

set_option maxRecDepth 100000 in
set_option maxHeartbeats 2000000 in
theorem raround_true (r : Lm.Rec) (X : Pt.Pat) (a b c d : Value) (w : World) (hO : Lm.Ok r X) (hL : LL w X a b c d) :
    Calls Tryz.prog 20 #[lV r X a b c d, .bool true] w fun e w' => ∃ u v, e = .returned (.tuple #[u, v]) ∧ Pb.LstP w' u (parP r X.npre) ∧ Pb.LstP w' v (parP r X.nsuf) ∧ Q w w' := by
  have HP1 := Lib.hid (fun u (hq : Q w u) => rparts_ok r X a b c d c X.npre u hO (hL.q hq) ((hL.2.2.1).q hq) (by simp [Lm.affs]))
  have HP2 := Lib.hid (fun u (hq : Q w u) => rparts_ok r X a b c d d X.nsuf u hO (hL.q hq) ((hL.2.2.2).q hq) (by simp [Lm.affs]))
  obtain ⟨a1, a2, rfl⟩ := hL.1.shape
  obtain ⟨b1, b2, rfl⟩ := hL.2.1.shape
  obtain ⟨c1, c2, rfl⟩ := hL.2.2.1.shape
  obtain ⟨d1, d2, rfl⟩ := hL.2.2.2.shape
  clear hL hO
  generalize parP r X.npre = R1 at *
  generalize parP r X.nsuf = R2 at *
  generalize X.pre.length = n1 at *
  generalize X.suf.length = n2 at *
  generalize X.npre.length = n3 at *
  generalize X.nsuf.length = n4 at *
  unfold lV at HP1 HP2 ⊢
  generalize X.pr = p0 at *
  generalize X.se = p1 at *
  generalize X.mi = p2 at *
  generalize X.mf = p3 at *
  generalize X.xf = p4 at *
  generalize Lm.bs r.nam = s0 at *
  generalize Lm.bs r.pat = s1 at *
  generalize Lm.bs r.sys = s2 at *
  generalize Lm.bs r.dec = s3 at *
  generalize Lm.bs r.grp = s4 at *
  generalize Lm.bs r.min = s5 at *
  generalize Lm.bs r.per = s6 at *
  generalize Lm.bs r.cur = s7 at *
  obtain ⟨z, hz⟩ : ∃ z, z = w.alloc (.cells #[.string s0, .string s1, .string s2, .string s3, .string s4, .string s5, .string s6, .string s7, .slice a1 n1 a2, .slice b1 n2 b2, .slice c1 n3 c2, .slice d1 n4 d2, .int .i64 p0, .int .i64 p1, .int .i64 p2, .int .i64 p3, .int .i64 p4] 38) := ⟨_, rfl⟩
  have HQZ := Lib.hid (show Q w z by rw [hz]; exact (Q.refl w).alloc _)
  have HBZ := Lib.hid (show Bk z w.heap.size 38 [.string s0, .string s1, .string s2, .string s3, .string s4, .string s5, .string s6, .string s7, .slice a1 n1 a2, .slice b1 n2 b2, .slice c1 n3 c2, .slice d1 n4 d2, .int .i64 p0, .int .i64 p1, .int .i64 p2, .int .i64 p3, .int .i64 p4] by rw [hz]; exact Bk.new _ _ _)
  go_enter Tryz.func20, Tryz.ntmps20
  go_upto_region 1 with fail
  rw [← hz]
  clear hz
  generalize w.heap.size = bz at *
  go_upto_region 2 with fail
  refine wp_region_held_drew (S := fun u => Q z u) (by kernel_rfl) (by exact (Q.refl z).drew) (fun hHeld => ?_)
  have hS : Q z z.drew := hHeld
  clear hHeld
  have hq : Q z z.drew := (Q.refl _).drew
  clear hq
  generalize z.drew = yR1x0 at *
  change wpAnyH _ _ _ _ _ _ #[false, false, false, false, false, false, false, false, false, false, false, false] _ _
  refine wpAnyH_take (i := 0) (v := ?vR1x1) rfl (by kernel_rfl) (by kernel_rfl) (by kernel_rfl) (fun _ _ _ h => h) (Or.inl ⟨by first | kernel_rfl | rfl, ?hyR1x1⟩) (by exact hS) ?rsR1x1
  case hyR1x1 => (intro uz hSw; (try dsimp only at hSw); refine ld_row (x := .tmp 2) ?_ ?_ (HBZ.out.q hSw) Tryz.underlying38 (by exact infoL) <;> rfl)
  try simp only [Act.put, List.setIfInBounds_toArray, List.set_cons_zero, List.set_cons_succ]
  change wpAnyH _ _ _ _ _ _ #[true, false, false, false, false, false, false, false, false, false, false, false] _ _
  refine wpAnyH_take (i := 1) (v := ?vR1x2) rfl (by kernel_rfl) (by kernel_rfl) (by kernel_rfl) (fun _ _ _ h => h) (Or.inl ⟨by first | kernel_rfl | rfl, ?hyR1x2⟩) (by exact hS) ?rsR1x2
  case hyR1x2 => (intro uz hSw; (try dsimp only at hSw); go_simp; try with_reducible rfl)
  try simp only [Act.put, List.setIfInBounds_toArray, List.set_cons_zero, List.set_cons_succ]
  change wpAnyH _ _ _ _ _ _ #[true, true, false, false, false, false, false, false, false, false, false, false] _ _
  refine wpAnyH_take (i := 2) (v := ?vR1x3) rfl (by kernel_rfl) (by kernel_rfl) (by kernel_rfl) (fun _ _ _ h => h) (Or.inl ⟨by first | kernel_rfl | rfl, ?hyR1x3⟩) (by exact hS) ?rsR1x3
  case hyR1x3 => (intro uz hSw; (try dsimp only at hSw); go_simp; try with_reducible rfl)
  try simp only [Act.put, List.setIfInBounds_toArray, List.set_cons_zero, List.set_cons_succ]
  change wpAnyH _ _ _ _ _ _ #[true, true, true, false, false, false, false, false, false, false, false, false] _ _
  refine wpAnyH_take (i := 3) (v := ?vR1x4) rfl (by kernel_rfl) (by kernel_rfl) (by kernel_rfl) (fun _ _ _ h => h) (Or.inl ⟨by first | kernel_rfl | rfl, ?hyR1x4⟩) (by exact hS) ?rsR1x4
  case hyR1x4 => (intro uz hSw; (try dsimp only at hSw); have q := (HBZ.out.q hSw).cell 10 rfl; go_simp; try with_reducible rfl)
  try simp only [Act.put, List.setIfInBounds_toArray, List.set_cons_zero, List.set_cons_succ]
  change wpAnyH _ _ _ _ _ _ #[true, true, true, true, false, false, false, false, false, false, false, false] _ _
  refine wpAnyH_take (i := 5) (v := ?vR1x5) rfl (by kernel_rfl) (by kernel_rfl) (by kernel_rfl) (fun _ _ _ h => h) (Or.inl ⟨by first | kernel_rfl | rfl, ?hyR1x5⟩) (by exact hS) ?rsR1x5
  case hyR1x5 => (intro uz hSw; (try dsimp only at hSw); refine ld_row (x := .tmp 2) ?_ ?_ (HBZ.out.q hSw) Tryz.underlying38 (by exact infoL) <;> rfl)
  try simp only [Act.put, List.setIfInBounds_toArray, List.set_cons_zero, List.set_cons_succ]
  change wpAnyH _ _ _ _ _ _ #[true, true, true, true, false, true, false, false, false, false, false, false] _ _
  refine wpAnyH_take (i := 6) (v := ?vR1x6) rfl (by kernel_rfl) (by kernel_rfl) (by kernel_rfl) (fun _ _ _ h => h) (Or.inl ⟨by first | kernel_rfl | rfl, ?hyR1x6⟩) (by exact hS) ?rsR1x6
  case hyR1x6 => (intro uz hSw; (try dsimp only at hSw); go_simp; try with_reducible rfl)
  try simp only [Act.put, List.setIfInBounds_toArray, List.set_cons_zero, List.set_cons_succ]
  change wpAnyH _ _ _ _ _ _ #[true, true, true, true, false, true, true, false, false, false, false, false] _ _
  refine wpAnyH_take (i := 7) (v := ?vR1x7) rfl (by kernel_rfl) (by kernel_rfl) (by kernel_rfl) (fun _ _ _ h => h) (Or.inl ⟨by first | kernel_rfl | rfl, ?hyR1x7⟩) (by exact hS) ?rsR1x7
  case hyR1x7 => (intro uz hSw; (try dsimp only at hSw); go_simp; try with_reducible rfl)
  try simp only [Act.put, List.setIfInBounds_toArray, List.set_cons_zero, List.set_cons_succ]
  change wpAnyH _ _ _ _ _ _ #[true, true, true, true, false, true, true, true, false, false, false, false] _ _
  refine wpAnyH_take (i := 8) (v := ?vR1x8) rfl (by kernel_rfl) (by kernel_rfl) (by kernel_rfl) (fun _ _ _ h => h) (Or.inl ⟨by first | kernel_rfl | rfl, ?hyR1x8⟩) (by exact hS) ?rsR1x8
  case hyR1x8 => (intro uz hSw; (try dsimp only at hSw); have q := (HBZ.out.q hSw).cell 11 rfl; go_simp; try with_reducible rfl)
  try simp only [Act.put, List.setIfInBounds_toArray, List.set_cons_zero, List.set_cons_succ]
  change wpAnyH _ _ _ _ _ _ #[true, true, true, true, false, true, true, true, true, false, false, false] _ _
  refine wpAnyH_ready (rs := [4]) (by kernel_rfl) (by simp) ?_
  refine (AllReadyH.cons rfl (fun K hK => ?_) AllReadyH.nil)
  go_simp
  refine (HP1.out _ (HQZ.out.trans hS)).mono ?_
  rintro e yR1x9 ⟨u1, rfl, hu1, hq⟩
  have HU1 := Lib.hid hu1
  obtain ⟨ua, uc, rfl⟩ := hu1.shape
  clear hu1
  generalize R1.length = m1 at *
  try (go_wp2_with fail)
  have hS2 := Q.trans hS hq
  refine hK.out _ _ (by exact hS2) (fun hHeld => ?_)
  clear hK K hHeld hS hq
  have hS := hS2
  clear hS2
  try simp only [Act.put, List.setIfInBounds_toArray, List.set_cons_zero, List.set_cons_succ]
  change wpAnyH _ _ _ _ _ _ #[true, true, true, true, true, true, true, true, true, false, false, false] _ _
  refine wpAnyH_ready (rs := [9]) (by kernel_rfl) (by simp) ?_
  refine (AllReadyH.cons rfl (fun K hK => ?_) AllReadyH.nil)
  go_simp
  refine (HP2.out _ (HQZ.out.trans hS)).mono ?_
  rintro e yR1x10 ⟨u2, rfl, hu2, hq⟩
  have HU2 := Lib.hid hu2
  obtain ⟨ub, ud, rfl⟩ := hu2.shape
  clear hu2
  generalize R2.length = m2 at *
  try (go_wp2_with fail)
  have HU1 := Lib.hid (Pb.LstP.q HU1.out hq)
  have hS2 := Q.trans hS hq
  refine hK.out _ _ (by exact hS2) (fun hHeld => ?_)
  clear hK K hHeld hS hq
  have hS := hS2
  clear hS2
  try simp only [Act.put, List.setIfInBounds_toArray, List.set_cons_zero, List.set_cons_succ]
  change wpAnyH _ _ _ _ _ _ #[true, true, true, true, true, true, true, true, true, true, false, false] _ _
  refine wpAnyH_take (i := 10) (v := ?vR1x11) rfl (by kernel_rfl) (by kernel_rfl) (by kernel_rfl) (fun _ _ _ h => h) (Or.inl ⟨by first | kernel_rfl | rfl, ?hyR1x11⟩) (by exact hS) ?rsR1x11
  case hyR1x11 => (intro uz hSw; (try dsimp only at hSw); go_simp; try with_reducible rfl)
  try simp only [Act.put, List.setIfInBounds_toArray, List.set_cons_zero, List.set_cons_succ]
  change wpAnyH _ _ _ _ _ _ #[true, true, true, true, true, true, true, true, true, true, true, false] _ _
  refine wpAnyH_take (i := 11) (v := ?vR1x12) rfl (by kernel_rfl) (by kernel_rfl) (by kernel_rfl) (fun _ _ _ h => h) (Or.inl ⟨by first | kernel_rfl | rfl, ?hyR1x12⟩) (by exact hS) ?rsR1x12
  case hyR1x12 => (intro uz hSw; (try dsimp only at hSw); go_simp; try with_reducible rfl)
  try simp only [Act.put, List.setIfInBounds_toArray, List.set_cons_zero, List.set_cons_succ]
  change wpAnyH _ _ _ _ _ _ #[true, true, true, true, true, true, true, true, true, true, true, true] _ _
  refine wpAnyH_done (by kernel_rfl) ?_ _

  have HQ := Lib.hid (HQZ.out.trans hS)
  clear hS
  go_wp2_with fail
  first
    | (rename_i dx1 d1 hx1 dx2 d2 hx2; have hy1 : (some 5 : Option Tmp) = some d1 := hx1; have hy2 : (some 4 : Option Tmp) = some d2 := hx2; obtain rfl := Option.some.inj hy1; obtain rfl := Option.some.inj hy2; clear hx1 hx2 hy1 hy2)
    | (rename_i dx1 d1 hx1; have hy1 : (some 5 : Option Tmp) = some d1 := hx1; obtain rfl := Option.some.inj hy1; clear hx1 hy1)
    | skip
  go_ret2
  exact ⟨_, _, rfl, HU1.out, HU2.out, HQ.out⟩

set_option maxRecDepth 100000 in
set_option maxHeartbeats 2000000 in
theorem raround_false (r : Lm.Rec) (X : Pt.Pat) (a b c d : Value) (w : World) (hO : Lm.Ok r X) (hL : LL w X a b c d) :
    Calls Tryz.prog 20 #[lV r X a b c d, .bool false] w fun e w' => ∃ u v, e = .returned (.tuple #[u, v]) ∧ Pb.LstP w' u (parP r X.pre) ∧ Pb.LstP w' v (parP r X.suf) ∧ Q w w' := by
  have HP1 := Lib.hid (fun u (hq : Q w u) => rparts_ok r X a b c d a X.pre u hO (hL.q hq) ((hL.1).q hq) (by simp [Lm.affs]))
  have HP2 := Lib.hid (fun u (hq : Q w u) => rparts_ok r X a b c d b X.suf u hO (hL.q hq) ((hL.2.1).q hq) (by simp [Lm.affs]))
  obtain ⟨a1, a2, rfl⟩ := hL.1.shape
  obtain ⟨b1, b2, rfl⟩ := hL.2.1.shape
  obtain ⟨c1, c2, rfl⟩ := hL.2.2.1.shape
  obtain ⟨d1, d2, rfl⟩ := hL.2.2.2.shape
  clear hL hO
  generalize parP r X.pre = R1 at *
  generalize parP r X.suf = R2 at *
  generalize X.pre.length = n1 at *
  generalize X.suf.length = n2 at *
  generalize X.npre.length = n3 at *
  generalize X.nsuf.length = n4 at *
  unfold lV at HP1 HP2 ⊢
  generalize X.pr = p0 at *
  generalize X.se = p1 at *
  generalize X.mi = p2 at *
  generalize X.mf = p3 at *
  generalize X.xf = p4 at *
  generalize Lm.bs r.nam = s0 at *
  generalize Lm.bs r.pat = s1 at *
  generalize Lm.bs r.sys = s2 at *
  generalize Lm.bs r.dec = s3 at *
  generalize Lm.bs r.grp = s4 at *
  generalize Lm.bs r.min = s5 at *
  generalize Lm.bs r.per = s6 at *
  generalize Lm.bs r.cur = s7 at *
  obtain ⟨z, hz⟩ : ∃ z, z = w.alloc (.cells #[.string s0, .string s1, .string s2, .string s3, .string s4, .string s5, .string s6, .string s7, .slice a1 n1 a2, .slice b1 n2 b2, .slice c1 n3 c2, .slice d1 n4 d2, .int .i64 p0, .int .i64 p1, .int .i64 p2, .int .i64 p3, .int .i64 p4] 38) := ⟨_, rfl⟩
  have HQZ := Lib.hid (show Q w z by rw [hz]; exact (Q.refl w).alloc _)
  have HBZ := Lib.hid (show Bk z w.heap.size 38 [.string s0, .string s1, .string s2, .string s3, .string s4, .string s5, .string s6, .string s7, .slice a1 n1 a2, .slice b1 n2 b2, .slice c1 n3 c2, .slice d1 n4 d2, .int .i64 p0, .int .i64 p1, .int .i64 p2, .int .i64 p3, .int .i64 p4] by rw [hz]; exact Bk.new _ _ _)
  go_enter Tryz.func20, Tryz.ntmps20
  go_upto_region 1 with fail
  rw [← hz]
  clear hz
  generalize w.heap.size = bz at *
  go_upto_region 3 with fail
  refine wp_region_held_drew (S := fun u => Q z u) (by kernel_rfl) (by exact (Q.refl z).drew) (fun hHeld => ?_)
  have hS : Q z z.drew := hHeld
  clear hHeld
  have hq : Q z z.drew := (Q.refl _).drew
  clear hq
  generalize z.drew = yR2x0 at *
  change wpAnyH _ _ _ _ _ _ #[false, false, false, false, false, false, false, false, false, false, false, false] _ _
  refine wpAnyH_take (i := 0) (v := ?vR2x1) rfl (by kernel_rfl) (by kernel_rfl) (by kernel_rfl) (fun _ _ _ h => h) (Or.inl ⟨by first | kernel_rfl | rfl, ?hyR2x1⟩) (by exact hS) ?rsR2x1
  case hyR2x1 => (intro uz hSw; (try dsimp only at hSw); refine ld_row (x := .tmp 2) ?_ ?_ (HBZ.out.q hSw) Tryz.underlying38 (by exact infoL) <;> rfl)
  try simp only [Act.put, List.setIfInBounds_toArray, List.set_cons_zero, List.set_cons_succ]
  change wpAnyH _ _ _ _ _ _ #[true, false, false, false, false, false, false, false, false, false, false, false] _ _
  refine wpAnyH_take (i := 1) (v := ?vR2x2) rfl (by kernel_rfl) (by kernel_rfl) (by kernel_rfl) (fun _ _ _ h => h) (Or.inl ⟨by first | kernel_rfl | rfl, ?hyR2x2⟩) (by exact hS) ?rsR2x2
  case hyR2x2 => (intro uz hSw; (try dsimp only at hSw); go_simp; try with_reducible rfl)
  try simp only [Act.put, List.setIfInBounds_toArray, List.set_cons_zero, List.set_cons_succ]
  change wpAnyH _ _ _ _ _ _ #[true, true, false, false, false, false, false, false, false, false, false, false] _ _
  refine wpAnyH_take (i := 2) (v := ?vR2x3) rfl (by kernel_rfl) (by kernel_rfl) (by kernel_rfl) (fun _ _ _ h => h) (Or.inl ⟨by first | kernel_rfl | rfl, ?hyR2x3⟩) (by exact hS) ?rsR2x3
  case hyR2x3 => (intro uz hSw; (try dsimp only at hSw); go_simp; try with_reducible rfl)
  try simp only [Act.put, List.setIfInBounds_toArray, List.set_cons_zero, List.set_cons_succ]
  change wpAnyH _ _ _ _ _ _ #[true, true, true, false, false, false, false, false, false, false, false, false] _ _
  refine wpAnyH_take (i := 3) (v := ?vR2x4) rfl (by kernel_rfl) (by kernel_rfl) (by kernel_rfl) (fun _ _ _ h => h) (Or.inl ⟨by first | kernel_rfl | rfl, ?hyR2x4⟩) (by exact hS) ?rsR2x4
  case hyR2x4 => (intro uz hSw; (try dsimp only at hSw); have q := (HBZ.out.q hSw).cell 8 rfl; go_simp; try with_reducible rfl)
  try simp only [Act.put, List.setIfInBounds_toArray, List.set_cons_zero, List.set_cons_succ]
  change wpAnyH _ _ _ _ _ _ #[true, true, true, true, false, false, false, false, false, false, false, false] _ _
  refine wpAnyH_take (i := 5) (v := ?vR2x5) rfl (by kernel_rfl) (by kernel_rfl) (by kernel_rfl) (fun _ _ _ h => h) (Or.inl ⟨by first | kernel_rfl | rfl, ?hyR2x5⟩) (by exact hS) ?rsR2x5
  case hyR2x5 => (intro uz hSw; (try dsimp only at hSw); refine ld_row (x := .tmp 2) ?_ ?_ (HBZ.out.q hSw) Tryz.underlying38 (by exact infoL) <;> rfl)
  try simp only [Act.put, List.setIfInBounds_toArray, List.set_cons_zero, List.set_cons_succ]
  change wpAnyH _ _ _ _ _ _ #[true, true, true, true, false, true, false, false, false, false, false, false] _ _
  refine wpAnyH_take (i := 6) (v := ?vR2x6) rfl (by kernel_rfl) (by kernel_rfl) (by kernel_rfl) (fun _ _ _ h => h) (Or.inl ⟨by first | kernel_rfl | rfl, ?hyR2x6⟩) (by exact hS) ?rsR2x6
  case hyR2x6 => (intro uz hSw; (try dsimp only at hSw); go_simp; try with_reducible rfl)
  try simp only [Act.put, List.setIfInBounds_toArray, List.set_cons_zero, List.set_cons_succ]
  change wpAnyH _ _ _ _ _ _ #[true, true, true, true, false, true, true, false, false, false, false, false] _ _
  refine wpAnyH_take (i := 7) (v := ?vR2x7) rfl (by kernel_rfl) (by kernel_rfl) (by kernel_rfl) (fun _ _ _ h => h) (Or.inl ⟨by first | kernel_rfl | rfl, ?hyR2x7⟩) (by exact hS) ?rsR2x7
  case hyR2x7 => (intro uz hSw; (try dsimp only at hSw); go_simp; try with_reducible rfl)
  try simp only [Act.put, List.setIfInBounds_toArray, List.set_cons_zero, List.set_cons_succ]
  change wpAnyH _ _ _ _ _ _ #[true, true, true, true, false, true, true, true, false, false, false, false] _ _
  refine wpAnyH_take (i := 8) (v := ?vR2x8) rfl (by kernel_rfl) (by kernel_rfl) (by kernel_rfl) (fun _ _ _ h => h) (Or.inl ⟨by first | kernel_rfl | rfl, ?hyR2x8⟩) (by exact hS) ?rsR2x8
  case hyR2x8 => (intro uz hSw; (try dsimp only at hSw); have q := (HBZ.out.q hSw).cell 9 rfl; go_simp; try with_reducible rfl)
  try simp only [Act.put, List.setIfInBounds_toArray, List.set_cons_zero, List.set_cons_succ]
  change wpAnyH _ _ _ _ _ _ #[true, true, true, true, false, true, true, true, true, false, false, false] _ _
  refine wpAnyH_ready (rs := [4]) (by kernel_rfl) (by simp) ?_
  refine (AllReadyH.cons rfl (fun K hK => ?_) AllReadyH.nil)
  go_simp
  refine (HP1.out _ (HQZ.out.trans hS)).mono ?_
  rintro e yR2x9 ⟨u1, rfl, hu1, hq⟩
  have HU1 := Lib.hid hu1
  obtain ⟨ua, uc, rfl⟩ := hu1.shape
  clear hu1
  generalize R1.length = m1 at *
  try (go_wp2_with fail)
  have hS2 := Q.trans hS hq
  refine hK.out _ _ (by exact hS2) (fun hHeld => ?_)
  clear hK K hHeld hS hq
  have hS := hS2
  clear hS2
  try simp only [Act.put, List.setIfInBounds_toArray, List.set_cons_zero, List.set_cons_succ]
  change wpAnyH _ _ _ _ _ _ #[true, true, true, true, true, true, true, true, true, false, false, false] _ _
  refine wpAnyH_ready (rs := [9]) (by kernel_rfl) (by simp) ?_
  refine (AllReadyH.cons rfl (fun K hK => ?_) AllReadyH.nil)
  go_simp
  refine (HP2.out _ (HQZ.out.trans hS)).mono ?_
  rintro e yR2x10 ⟨u2, rfl, hu2, hq⟩
  have HU2 := Lib.hid hu2
  obtain ⟨ub, ud, rfl⟩ := hu2.shape
  clear hu2
  generalize R2.length = m2 at *
  try (go_wp2_with fail)
  have HU1 := Lib.hid (Pb.LstP.q HU1.out hq)
  have hS2 := Q.trans hS hq
  refine hK.out _ _ (by exact hS2) (fun hHeld => ?_)
  clear hK K hHeld hS hq
  have hS := hS2
  clear hS2
  try simp only [Act.put, List.setIfInBounds_toArray, List.set_cons_zero, List.set_cons_succ]
  change wpAnyH _ _ _ _ _ _ #[true, true, true, true, true, true, true, true, true, true, false, false] _ _
  refine wpAnyH_take (i := 10) (v := ?vR2x11) rfl (by kernel_rfl) (by kernel_rfl) (by kernel_rfl) (fun _ _ _ h => h) (Or.inl ⟨by first | kernel_rfl | rfl, ?hyR2x11⟩) (by exact hS) ?rsR2x11
  case hyR2x11 => (intro uz hSw; (try dsimp only at hSw); go_simp; try with_reducible rfl)
  try simp only [Act.put, List.setIfInBounds_toArray, List.set_cons_zero, List.set_cons_succ]
  change wpAnyH _ _ _ _ _ _ #[true, true, true, true, true, true, true, true, true, true, true, false] _ _
  refine wpAnyH_take (i := 11) (v := ?vR2x12) rfl (by kernel_rfl) (by kernel_rfl) (by kernel_rfl) (fun _ _ _ h => h) (Or.inl ⟨by first | kernel_rfl | rfl, ?hyR2x12⟩) (by exact hS) ?rsR2x12
  case hyR2x12 => (intro uz hSw; (try dsimp only at hSw); go_simp; try with_reducible rfl)
  try simp only [Act.put, List.setIfInBounds_toArray, List.set_cons_zero, List.set_cons_succ]
  change wpAnyH _ _ _ _ _ _ #[true, true, true, true, true, true, true, true, true, true, true, true] _ _
  refine wpAnyH_done (by kernel_rfl) ?_ _

  have HQ := Lib.hid (HQZ.out.trans hS)
  clear hS
  go_wp2_with fail
  first
    | (rename_i dx1 d1 hx1 dx2 d2 hx2; have hy1 : (some 5 : Option Tmp) = some d1 := hx1; have hy2 : (some 4 : Option Tmp) = some d2 := hx2; obtain rfl := Option.some.inj hy1; obtain rfl := Option.some.inj hy2; clear hx1 hx2 hy1 hy2)
    | (rename_i dx1 d1 hx1; have hy1 : (some 5 : Option Tmp) = some d1 := hx1; obtain rfl := Option.some.inj hy1; clear hx1 hy1)
    | skip
  go_ret2
  exact ⟨_, _, rfl, HU1.out, HU2.out, HQ.out⟩

end Ro
end Go.Proofs.YtglljkbpdbnhaaaGreatDoor
