/- What is looked at in a record, one closure behind the other: nothing is wrong. -/
import Derived.Test.YtglljkbpdbnhaaaGreatDoorRows
import Derived.Test.YtglljkbpdbnhaaaGreatDoorMA
import Derived.Test.YtglljkbpdbnhaaaGreatDoorMB
import Derived.Test.YtglljkbpdbnhaaaGreatDoorME
import Derived.Test.YtglljkbpdbnhaaaGreatDoorMBP
import Derived.Test.YtglljkbpdbnhaaaGreatDoorMP
import Derived.Test.YtglljkbpdbnhaaaGreatDoorMBS
import Derived.Test.YtglljkbpdbnhaaaGreatDoorMH
import Derived.Test.YtglljkbpdbnhaaaGreatDoorLocM
import Derived.Test.YtglljkbpdbnhaaaGreatDoorLocA
import Derived.Test.YtglljkbpdbnhaaaGreatDoorLocB
import Derived.Test.YtglljkbpdbnhaaaGreatDoorLocC
import Derived.Test.YtglljkbpdbnhaaaGreatDoorLocD
import Derived.Test.YtglljkbpdbnhaaaGreatDoorLocDb
import Derived.Test.YtglljkbpdbnhaaaGreatDoorLocE
import Derived.Test.YtglljkbpdbnhaaaGreatDoorLocG
import Derived.Test.YtglljkbpdbnhaaaGreatDoorLocN
import Derived.Deep.QuietTactic
import Derived.BigQuiet
set_option linter.unusedVariables false
set_option linter.unusedSimpArgs false
namespace Go.Proofs.YtglljkbpdbnhaaaGreatDoor
open Go.RowKit
namespace Lo
open Um Cm Gm


/-- What the closures have captured. -/
def EnvL (u : World) (g rb lp ep : Nat) (r : Lm.Rec) (X : Pt.Pat) (a b c d cl : Value) : Prop :=
  LB u g r X a b c d cl ∧ Bk u rb 32 (recC r) ∧ Bk u lp 27 [.pointer (some ⟨g, 0, none⟩)] ∧ Bk u ep 67 [.int .i64 0]
theorem EnvL.q {u u' : World} {g rb lp ep : Nat} {r : Lm.Rec} {X : Pt.Pat} {a b c d cl : Value} (h : EnvL u g rb lp ep r X a b c d cl) (hq : Q u u') : EnvL u' g rb lp ep r X a b c d cl :=
  ⟨h.1.q hq, h.2.1.q hq, h.2.2.1.q hq, h.2.2.2.q hq⟩
theorem nd_take {l : List ByteArray} (h : l.Nodup) {k : Nat} {x : ByteArray} (hk : l[k]? = some x) : x ∉ l.take k := by
  intro hm
  obtain ⟨hl, e⟩ := List.getElem?_eq_some_iff.1 hk
  rw [← List.take_append_drop k l, List.nodup_append] at h
  have h2 : x ∈ l.drop k := by rw [List.drop_eq_getElem_cons hl, e]; exact List.mem_cons_self
  exact h.2.2 x hm x h2 rfl
theorem sgn_no {r : Lm.Rec} {X : Pt.Pat} (hO : Lm.Ok r X) {x : ByteArray} (h : x ∈ Lm.clus r X) : Lm.sgn r x = -1 := by
  unfold Lm.sgn
  split
  · rfl
  · exact Lm.plc_none _ _ (hO.cl x h)
theorem sym_len {l : List UInt8} (h : Lm.symB l = true) : l.length ≤ 16 := by
  unfold Lm.symB Lm.wordB at h
  simp only [Bool.and_eq_true, decide_eq_true_eq] at h
  exact h.1.1
theorem word_len {l : List UInt8} (h : Lm.wordB l = true) : l.length ≤ 16 := by
  unfold Lm.wordB at h
  simp only [Bool.and_eq_true, decide_eq_true_eq] at h
  exact h.1

theorem lk1 {u : World} {g rb lp ep : Nat} {r : Lm.Rec} {X : Pt.Pat} {a b c d cl : Value} (hO : Lm.Ok r X) (hE : EnvL u g rb lp ep r X a b c d cl) :
    Calls Tryz.prog 59 #[.pointer (some ⟨rb, 0, none⟩)] u fun e w' => e = .returned (.bool false) ∧ Q u w' := by
  have hx := named_ok (Lm.bs r.nam) u (by rw [Lm.bs_size]; exact hO.nam1.1) (by rw [Lm.bs_size]; exact hO.nam1.2) (by rw [Lm.bs_list]; exact hO.nam)
  have HX := Lib.hid hx
  have c0 := hE.2.1.cell 0 rfl
  generalize Lm.bs r.nam = S at *
  clear hx
  clear hO hE
  go_enter Tryz.func59, Tryz.ntmps59
  go_wp2_with fail
  refine HX.out.mono ?_
  rintro e w1 ⟨rfl, hq1⟩
  go_wp2_with fail
  go_ret
  exact ⟨rfl, hq1⟩

theorem lk2 {u : World} {g rb lp ep : Nat} {r : Lm.Rec} {X : Pt.Pat} {a b c d cl : Value} (hO : Lm.Ok r X) (hE : EnvL u g rb lp ep r X a b c d cl) :
    Calls Tryz.prog 61 #[.pointer (some ⟨ep, 0, none⟩)] u fun e w' => e = .returned (.bool false) ∧ Q u w' := by
  have c0 := hE.2.2.2.cell 0 rfl
  clear hO hE
  go_enter Tryz.func61, Tryz.ntmps61
  go_wp2_with fail
  go_ret
  exact ⟨rfl, Q.refl _⟩

theorem lk3 {u : World} {g rb lp ep : Nat} {r : Lm.Rec} {X : Pt.Pat} {a b c d cl : Value} (hO : Lm.Ok r X) (hE : EnvL u g rb lp ep r X a b c d cl) :
    Calls Tryz.prog 62 #[.pointer (some ⟨lp, 0, none⟩)] u fun e w' => e = .returned (.bool false) ∧ Q u w' := by
  have hl : ∀ A ∈ Lm.affs X, A.length ≤ 1000000 := fun A hA => by have := (hO.aff A hA).1; omega
  have hx : Calls Tryz.prog 63 #[.pointer (some ⟨g, 0, none⟩)] u fun e w' => e = .returned (.bool true) ∧ Q u w' := by
    obtain ⟨h1, h2, h3⟩ := hO.sg
    by_cases h4 : Lm.cnt 3 X.npre = 1
    · exact signed_ahead g r X a b c d cl u hE.1 hl h1 h2 h4 (by omega)
    · exact signed_behind g r X a b c d cl u hE.1 hl h1 h2 (by omega) (by omega)
  have HX := Lib.hid hx
  have c0 := hE.2.2.1.cell 0 rfl
  clear hx hl
  clear hO hE
  go_enter Tryz.func62, Tryz.ntmps62
  go_wp2_with fail
  refine HX.out.mono ?_
  rintro e w1 ⟨rfl, hq1⟩
  go_wp2_with fail
  go_ret
  exact ⟨rfl, hq1⟩

theorem lk4 {u : World} {g rb lp ep : Nat} {r : Lm.Rec} {X : Pt.Pat} {a b c d cl : Value} (hO : Lm.Ok r X) (hE : EnvL u g rb lp ep r X a b c d cl) :
    Calls Tryz.prog 64 #[.pointer (some ⟨rb, 0, none⟩)] u fun e w' => e = .returned (.bool false) ∧ Q u w' := by
  have hx := known_ok (Lm.bs r.sys) u (by rw [Lm.bs_size]; have := hO.sysl; unfold maxLen; omega) (by rw [Lm.bs_list]; have := hO.sys; omega)
  have HX := Lib.hid hx
  have c0 := hE.2.1.cell 2 rfl
  generalize Lm.bs r.sys = S at *
  clear hx
  clear hO hE
  go_enter Tryz.func64, Tryz.ntmps64
  go_wp2_with fail
  refine HX.out.mono ?_
  rintro e w1 ⟨rfl, hq1⟩
  go_wp2_with fail
  go_ret
  exact ⟨rfl, hq1⟩

theorem lk5 {u : World} {g rb lp ep : Nat} {r : Lm.Rec} {X : Pt.Pat} {a b c d cl : Value} (hO : Lm.Ok r X) (hE : EnvL u g rb lp ep r X a b c d cl) :
    Calls Tryz.prog 66 #[.pointer (some ⟨rb, 0, none⟩)] u fun e w' => e = .returned (.bool false) ∧ Q u w' := by
  have hx := symbol_any (Lm.bs r.dec) u (by rw [Lm.bs_size]; have := sym_len hO.dec; omega)
  rw [Lm.bs_list, hO.dec] at hx
  have HX := Lib.hid hx
  have c0 := hE.2.1.cell 3 rfl
  generalize Lm.bs r.dec = S at *
  clear hx
  clear hO hE
  go_enter Tryz.func66, Tryz.ntmps66
  go_wp2_with fail
  refine HX.out.mono ?_
  rintro e w1 ⟨rfl, hq1⟩
  go_wp2_with fail
  go_ret
  exact ⟨rfl, hq1⟩

theorem lk7 {u : World} {g rb lp ep : Nat} {r : Lm.Rec} {X : Pt.Pat} {a b c d cl : Value} (hO : Lm.Ok r X) (hE : EnvL u g rb lp ep r X a b c d cl) :
    Calls Tryz.prog 70 #[.pointer (some ⟨rb, 0, none⟩)] u fun e w' => e = .returned (.bool false) ∧ Q u w' := by
  have hx := symbol_any (Lm.bs r.min) u (by rw [Lm.bs_size]; have := sym_len hO.min; omega)
  rw [Lm.bs_list, hO.min] at hx
  have HX := Lib.hid hx
  have c0 := hE.2.1.cell 5 rfl
  generalize Lm.bs r.min = S at *
  clear hx
  clear hO hE
  go_enter Tryz.func70, Tryz.ntmps70
  go_wp2_with fail
  refine HX.out.mono ?_
  rintro e w1 ⟨rfl, hq1⟩
  go_wp2_with fail
  go_ret
  exact ⟨rfl, hq1⟩

theorem lk6 {u : World} {g rb lp ep : Nat} {r : Lm.Rec} {X : Pt.Pat} {a b c d cl : Value} (hO : Lm.Ok r X) (hE : EnvL u g rb lp ep r X a b c d cl) :
    Calls Tryz.prog 68 #[.pointer (some ⟨lp, 0, none⟩)] u fun e w' => e = .returned (.bool false) ∧ Q u w' := by
  have hx : Calls Tryz.prog 69 #[.pointer (some ⟨g, 0, none⟩)] u fun e w' => e = .returned (.bool true) ∧ Q u w' := by
    by_cases hp : 0 < X.pr
    · exact grouped_yes g r X a b c d cl u hE.1 hp (hO.grp1 hp) (by have := sym_len (hO.grp1 hp); omega)
    · exact grouped_no g r X a b c d cl u hE.1 hp (hO.grp0 hp)
  have HX := Lib.hid hx
  have c0 := hE.2.2.1.cell 0 rfl
  clear hx
  clear hO hE
  go_enter Tryz.func68, Tryz.ntmps68
  go_wp2_with fail
  refine HX.out.mono ?_
  rintro e w1 ⟨rfl, hq1⟩
  go_wp2_with fail
  go_ret
  exact ⟨rfl, hq1⟩

theorem lk8 {u : World} {g rb lp ep : Nat} {r : Lm.Rec} {X : Pt.Pat} {a b c d cl : Value} (hO : Lm.Ok r X) (hE : EnvL u g rb lp ep r X a b c d cl) :
    Calls Tryz.prog 71 #[.pointer (some ⟨lp, 0, none⟩), .pointer (some ⟨rb, 0, none⟩)] u fun e w' => e = .returned (.bool false) ∧ Q u w' := by
  have hl : ∀ A ∈ Lm.affs X, A.length ≤ 1000000 := fun A hA => by have := (hO.aff A hA).1; omega
  have hx : Calls Tryz.prog 72 #[.pointer (some ⟨g, 0, none⟩), .string (Lm.bs r.per), .int .i64 2] u fun e w' => e = .returned (.bool true) ∧ Q u w' := by
    rcases hO.per with h | ⟨h0, h⟩
    · exact worded_yes g r.per 2 u (by have := word_len h; omega) h
    · rw [h0]
      exact worded_none g r X a b c d cl 2 u hE.1 hl h
  have HX := Lib.hid hx
  have c0 := hE.2.2.1.cell 0 rfl
  have c1 := hE.2.1.cell 6 rfl
  generalize Lm.bs r.per = S at *
  clear hx hl
  clear hO hE
  go_enter Tryz.func71, Tryz.ntmps71
  go_wp2_with fail
  refine HX.out.mono ?_
  rintro e w1 ⟨rfl, hq1⟩
  go_wp2_with fail
  go_ret
  exact ⟨rfl, hq1⟩

theorem lk9 {u : World} {g rb lp ep : Nat} {r : Lm.Rec} {X : Pt.Pat} {a b c d cl : Value} (hO : Lm.Ok r X) (hE : EnvL u g rb lp ep r X a b c d cl) :
    Calls Tryz.prog 73 #[.pointer (some ⟨lp, 0, none⟩), .pointer (some ⟨rb, 0, none⟩)] u fun e w' => e = .returned (.bool false) ∧ Q u w' := by
  have hl : ∀ A ∈ Lm.affs X, A.length ≤ 1000000 := fun A hA => by have := (hO.aff A hA).1; omega
  have hx : Calls Tryz.prog 72 #[.pointer (some ⟨g, 0, none⟩), .string (Lm.bs r.cur), .int .i64 1] u fun e w' => e = .returned (.bool true) ∧ Q u w' := by
    rcases hO.cur with h | ⟨h0, h⟩
    · exact worded_yes g r.cur 1 u (by have := word_len h; omega) h
    · rw [h0]
      exact worded_none g r X a b c d cl 1 u hE.1 hl h
  have HX := Lib.hid hx
  have c0 := hE.2.2.1.cell 0 rfl
  have c1 := hE.2.1.cell 7 rfl
  generalize Lm.bs r.cur = S at *
  clear hx hl
  clear hO hE
  go_enter Tryz.func73, Tryz.ntmps73
  go_wp2_with fail
  refine HX.out.mono ?_
  rintro e w1 ⟨rfl, hq1⟩
  go_wp2_with fail
  go_ret
  exact ⟨rfl, hq1⟩

theorem lk12 {u : World} {g rb lp ep : Nat} {r : Lm.Rec} {X : Pt.Pat} {a b c d cl : Value} (hO : Lm.Ok r X) (hE : EnvL u g rb lp ep r X a b c d cl) :
    Calls Tryz.prog 80 #[.pointer (some ⟨lp, 0, none⟩)] u fun e w' => e = .returned (.bool false) ∧ Q u w' := by
  have hx := taken_no g r X a b c d cl 10 (Lm.bs r.dec) u hE.1 (by omega) rfl (nd_take hO.dis rfl)
  have HX := Lib.hid hx
  have c0 := hE.2.2.1.cell 0 rfl
  clear hx
  clear hO hE
  go_enter Tryz.func80, Tryz.ntmps80
  go_wp2_with fail
  refine HX.out.mono ?_
  rintro e w1 ⟨rfl, hq1⟩
  go_wp2_with fail
  go_ret
  exact ⟨rfl, hq1⟩

theorem lk13 {u : World} {g rb lp ep : Nat} {r : Lm.Rec} {X : Pt.Pat} {a b c d cl : Value} (hO : Lm.Ok r X) (hE : EnvL u g rb lp ep r X a b c d cl) :
    Calls Tryz.prog 82 #[.pointer (some ⟨lp, 0, none⟩)] u fun e w' => e = .returned (.bool false) ∧ Q u w' := by
  have hx := taken_no g r X a b c d cl 11 (Lm.bs r.grp) u hE.1 (by omega) rfl (nd_take hO.dis rfl)
  have HX := Lib.hid hx
  have c0 := hE.2.2.1.cell 0 rfl
  clear hx
  clear hO hE
  go_enter Tryz.func82, Tryz.ntmps82
  go_wp2_with fail
  refine HX.out.mono ?_
  rintro e w1 ⟨rfl, hq1⟩
  go_wp2_with fail
  go_ret
  exact ⟨rfl, hq1⟩

theorem lk14 {u : World} {g rb lp ep : Nat} {r : Lm.Rec} {X : Pt.Pat} {a b c d cl : Value} (hO : Lm.Ok r X) (hE : EnvL u g rb lp ep r X a b c d cl) :
    Calls Tryz.prog 83 #[.pointer (some ⟨lp, 0, none⟩)] u fun e w' => e = .returned (.bool false) ∧ Q u w' := by
  have hx := taken_no g r X a b c d cl 12 (Lm.bs r.min) u hE.1 (by omega) rfl (nd_take hO.dis rfl)
  have HX := Lib.hid hx
  have c0 := hE.2.2.1.cell 0 rfl
  clear hx
  clear hO hE
  go_enter Tryz.func83, Tryz.ntmps83
  go_wp2_with fail
  refine HX.out.mono ?_
  rintro e w1 ⟨rfl, hq1⟩
  go_wp2_with fail
  go_ret
  exact ⟨rfl, hq1⟩

theorem lk10 {u : World} {g rb lp ep : Nat} {r : Lm.Rec} {X : Pt.Pat} {a b c d cl : Value} (hO : Lm.Ok r X) (hE : EnvL u g rb lp ep r X a b c d cl) :
    Calls Tryz.prog 74 #[.pointer (some ⟨lp, 0, none⟩)] u fun e w' => e = .returned (.bool false) ∧ Q u w' := by
  have HA := Lib.hid (affixes_any g r X a b c d cl u hE.1)
  have c0 := hE.2.2.1.cell 0 rfl
  have HN := Lib.hid (fun u2 v (hq : Q u u2) (hv : GLst id u2 v [a, b, c, d]) => noL 77 #[] #[] (enters_of Tryz.func77 (by kernel_rfl) rfl) v [a, b, c, d] u2 hv (aff_len a b c d) (fun k x hx u3 hq3 => by
    obtain ⟨A, _, hm, hv2⟩ := aff_at (hE.1.q (hq.trans hq3)) hx
    have h10 := hO.aff A hm
    exact rough_no x A u3 hv2 (by omega) (fun y hy => ⟨by have := (h10.2 y hy).2.1; omega, (h10.2 y hy).2.2.1⟩)))
  clear hO hE
  go_enter Tryz.func74, Tryz.ntmps74
  go_wp2_with fail
  refine HA.out.mono ?_
  rintro e w1 ⟨v1, rfl, hv1, hq1⟩
  obtain ⟨va, vc, rfl⟩ := hv1.shape
  go_wp2_with fail
  refine (HN.out _ _ hq1 hv1).mono ?_
  rintro e w2 ⟨rfl, hq2⟩
  go_wp2_with fail
  go_ret
  exact ⟨rfl, hq1.trans hq2⟩

set_option maxRecDepth 100000 in
set_option maxHeartbeats 2000000 in
theorem lk11 {w0 : World} {g rb lp ep : Nat} {r : Lm.Rec} {X : Pt.Pat} {a b c d cl : Value} (hO : Lm.Ok r X) (hE : EnvL w0 g rb lp ep r X a b c d cl) :
    Calls Tryz.prog 78 #[.pointer (some ⟨lp, 0, none⟩)] w0 fun e w' => e = .returned (.bool false) ∧ Q w0 w' := by
  have HA := Lib.hid (fun u2 (hq : Q w0 u2) => affixes_any g r X a b c d cl u2 (hE.1.q hq))
  have HN := Lib.hid (fun u2 v (hq : Q w0 u2) (hv : GLst id u2 v [a, b, c, d]) => noL 79 #[.pointer (some ⟨g, 0, none⟩)] #[] (enters_of Tryz.func79 (by kernel_rfl) rfl) v [a, b, c, d] u2 hv (aff_len a b c d) (fun k x hx u3 hq3 => by
    obtain ⟨A, _, hm, hv2⟩ := aff_at (hE.1.q (hq.trans hq3)) hx
    have h10 := hO.aff A hm
    exact long_ok g r X a b c d cl x A u3 (hE.1.q (hq.trans hq3)) hv2 (by omega) (hO.len A hm)))
  have HBL := Lib.hid hE.2.2.1
  clear hO hE
  go_enter Tryz.func78, Tryz.ntmps78
  go_upto_region 1 with fail
  refine wp_region_held_drew (S := fun u => Q w0 u) (by kernel_rfl) (by exact (Q.refl w0).drew) (fun hHeld => ?_)
  have hS : Q w0 w0.drew := hHeld
  clear hHeld
  have hq : Q w0 w0.drew := (Q.refl _).drew
  clear hq
  generalize w0.drew = yR1x0 at *
  refine wpAnyH_take (i := 0) (v := ?vR1x1) rfl (by kernel_rfl) (by kernel_rfl) (by kernel_rfl) (fun _ _ _ h => h) (Or.inl ⟨by rfl, ?hyR1x1⟩) (by exact hS) ?rsR1x1
  case hyR1x1 => (intro uz hSw; (try dsimp only at hSw); have kb := HBL.out.q hSw; have k0 := kb.cell 0 rfl; clear kb; go_simp; try with_reducible rfl)
  try simp only [Act.put, List.setIfInBounds_toArray, List.set_cons_zero, List.set_cons_succ]
  refine wpAnyH_take (i := 2) (v := ?vR1x2) rfl (by kernel_rfl) (by kernel_rfl) (by kernel_rfl) (fun _ _ _ h => h) (Or.inl ⟨by rfl, ?hyR1x2⟩) (by exact hS) ?rsR1x2
  case hyR1x2 => (intro uz hSw; (try dsimp only at hSw); have kb := HBL.out.q hSw; have k0 := kb.cell 0 rfl; clear kb; go_simp; try with_reducible rfl)
  try simp only [Act.put, List.setIfInBounds_toArray, List.set_cons_zero, List.set_cons_succ]
  refine wpAnyH_take (i := 3) (v := ?vR1x3) rfl (by kernel_rfl) (by kernel_rfl) (by kernel_rfl) (fun _ _ _ h => h) (Or.inl ⟨by rfl, ?hyR1x3⟩) (by exact hS) ?rsR1x3
  case hyR1x3 => (intro uz hSw; (try dsimp only at hSw); go_simp; try with_reducible rfl)
  try simp only [Act.put, List.setIfInBounds_toArray, List.set_cons_zero, List.set_cons_succ]
  refine wpAnyH_ready (rs := [1]) (by kernel_rfl) (by simp) ?_
  refine (AllReadyH.cons rfl (fun K hK => ?_) AllReadyH.nil)
  go_simp
  refine (HA.out _ hS).mono ?_
  rintro e yR1x4 ⟨v1, rfl, hv1, hq⟩
  have HV1 := Lib.hid hv1
  obtain ⟨va, vc, rfl⟩ := hv1.shape
  clear hv1
  try (go_wp2_with fail)
  have hS2 := Q.trans hS hq
  refine hK.out _ _ (by exact hS2) (fun hHeld => ?_)
  clear hK K hHeld hS hq
  have hS := hS2
  clear hS2
  try simp only [Act.put, List.setIfInBounds_toArray, List.set_cons_zero, List.set_cons_succ]
  refine wpAnyH_ready (rs := [4]) (by kernel_rfl) (by simp) ?_
  refine (AllReadyH.cons rfl (fun K hK => ?_) AllReadyH.nil)
  go_simp
  refine (HN.out _ _ hS HV1.out).mono ?_
  rintro e yR1x5 ⟨rfl, hq⟩
  try (go_wp2_with fail)
  have HV1 := Lib.hid (GLst.q HV1.out hq)
  have hS2 := Q.trans hS hq
  refine hK.out _ _ (by exact hS2) (fun hHeld => ?_)
  clear hK K hHeld hS hq
  have hS := hS2
  clear hS2
  try simp only [Act.put, List.setIfInBounds_toArray, List.set_cons_zero, List.set_cons_succ]
  refine wpAnyH_take (i := 5) (v := ?vR1x6) rfl (by kernel_rfl) (by kernel_rfl) (by kernel_rfl) (fun _ _ _ h => h) (Or.inl ⟨by rfl, ?hyR1x6⟩) (by exact hS) ?rsR1x6
  case hyR1x6 => (intro uz hSw; (try dsimp only at hSw); go_simp; try with_reducible rfl)
  try simp only [Act.put, List.setIfInBounds_toArray, List.set_cons_zero, List.set_cons_succ]
  refine wpAnyH_done (by kernel_rfl) ?_ _
  have HQ := Lib.hid hS
  clear hS
  go_wp2_with fail
  try (rename_i dx1 d1 hx1; have hy1 : (some 1 : Option Tmp) = some d1 := hx1; obtain rfl := Option.some.inj hy1; clear hx1 hy1)
  go_ret
  exact ⟨rfl, HQ.out⟩

theorem clus_len {r : Lm.Rec} {X : Pt.Pat} (hO : Lm.Ok r X) : (Lm.clus r X).length ≤ 1000000 := by
  have h : ∀ A ∈ Lm.affs X, (pcs (Lm.bs (Lm.atx r A))).length ≤ 64 := fun A hA => by
    rw [pcs_length]
    have h1 := begL_length (Lm.bs (Lm.atx r A)).data.toList
    have h2 := hO.len A hA
    rw [Lm.bs_list] at h1 ⊢
    omega
  have e : Lm.clus r X = pcs (Lm.bs (Lm.atx r X.pre)) ++ (pcs (Lm.bs (Lm.atx r X.suf)) ++ (pcs (Lm.bs (Lm.atx r X.npre)) ++ (pcs (Lm.bs (Lm.atx r X.nsuf)) ++ []))) := rfl
  rw [e]
  have h1 := h X.pre (by simp [Lm.affs])
  have h2 := h X.suf (by simp [Lm.affs])
  have h3 := h X.npre (by simp [Lm.affs])
  have h4 := h X.nsuf (by simp [Lm.affs])
  simp only [List.length_append, List.length_nil]
  omega

set_option maxRecDepth 100000 in
set_option maxHeartbeats 2000000 in
theorem lk15 {w0 : World} {g rb lp ep : Nat} {r : Lm.Rec} {X : Pt.Pat} {a b c d cl : Value} (hO : Lm.Ok r X) (hE : EnvL w0 g rb lp ep r X a b c d cl) :
    Calls Tryz.prog 84 #[.pointer (some ⟨lp, 0, none⟩)] w0 fun e w' => e = .returned (.bool false) ∧ Q w0 w' := by
  have hl : ∀ A ∈ Lm.affs X, A.length ≤ 1000000 ∧ (Lm.atx r A).length ≤ 1000000 := fun A hA => ⟨by have := (hO.aff A hA).1; omega, by have := hO.len A hA; omega⟩
  have HA := Lib.hid (fun u2 (hq : Q w0 u2) => split_any g r X a b c d cl u2 (hE.1.q hq) hl)
  have hcl : (Lm.clus r X).length ≤ 1000000 := clus_len hO
  have HN := Lib.hid (fun u2 B v (hq : Q w0 u2) (hv : SOwn u2 B v (Lm.clus r X)) => noS 86 #[.pointer (some ⟨g, 0, none⟩)] #[] (enters_of Tryz.func86 (by kernel_rfl) rfl) v (Lm.clus r X) u2 hv.lst hcl (fun k x hx u3 hq3 => symbol_none g r X a b c d cl x u3 (hE.1.q (hq.trans hq3)) (sgn_no hO (List.mem_of_getElem? hx))))
  clear hl hcl
  generalize Lm.clus r X = CS at *
  have HBL := Lib.hid hE.2.2.1
  clear hO hE
  go_enter Tryz.func84, Tryz.ntmps84
  go_upto_region 1 with fail
  refine wp_region_held_drew (S := fun u => Q w0 u) (by kernel_rfl) (by exact (Q.refl w0).drew) (fun hHeld => ?_)
  have hS : Q w0 w0.drew := hHeld
  clear hHeld
  have hq : Q w0 w0.drew := (Q.refl _).drew
  clear hq
  generalize w0.drew = yR2x0 at *
  refine wpAnyH_take (i := 0) (v := ?vR2x1) rfl (by kernel_rfl) (by kernel_rfl) (by kernel_rfl) (fun _ _ _ h => h) (Or.inl ⟨by rfl, ?hyR2x1⟩) (by exact hS) ?rsR2x1
  case hyR2x1 => (intro uz hSw; (try dsimp only at hSw); have kb := HBL.out.q hSw; have k0 := kb.cell 0 rfl; clear kb; go_simp; try with_reducible rfl)
  try simp only [Act.put, List.setIfInBounds_toArray, List.set_cons_zero, List.set_cons_succ]
  refine wpAnyH_take (i := 2) (v := ?vR2x2) rfl (by kernel_rfl) (by kernel_rfl) (by kernel_rfl) (fun _ _ _ h => h) (Or.inl ⟨by rfl, ?hyR2x2⟩) (by exact hS) ?rsR2x2
  case hyR2x2 => (intro uz hSw; (try dsimp only at hSw); have kb := HBL.out.q hSw; have k0 := kb.cell 0 rfl; clear kb; go_simp; try with_reducible rfl)
  try simp only [Act.put, List.setIfInBounds_toArray, List.set_cons_zero, List.set_cons_succ]
  refine wpAnyH_take (i := 3) (v := ?vR2x3) rfl (by kernel_rfl) (by kernel_rfl) (by kernel_rfl) (fun _ _ _ h => h) (Or.inl ⟨by rfl, ?hyR2x3⟩) (by exact hS) ?rsR2x3
  case hyR2x3 => (intro uz hSw; (try dsimp only at hSw); go_simp; try with_reducible rfl)
  try simp only [Act.put, List.setIfInBounds_toArray, List.set_cons_zero, List.set_cons_succ]
  refine wpAnyH_ready (rs := [1]) (by kernel_rfl) (by simp) ?_
  refine (AllReadyH.cons rfl (fun K hK => ?_) AllReadyH.nil)
  go_simp
  refine (HA.out _ hS).mono ?_
  rintro e yR2x4 ⟨v1, rfl, hv1, hq⟩
  have HV1 := Lib.hid hv1
  obtain ⟨va, vc, rfl⟩ := hv1.lst.shape
  clear hv1
  try (go_wp2_with fail)
  have hS2 := Q.trans hS hq
  refine hK.out _ _ (by exact hS2) (fun hHeld => ?_)
  clear hK K hHeld hS hq
  have hS := hS2
  clear hS2
  try simp only [Act.put, List.setIfInBounds_toArray, List.set_cons_zero, List.set_cons_succ]
  refine wpAnyH_ready (rs := [4]) (by kernel_rfl) (by simp) ?_
  refine (AllReadyH.cons rfl (fun K hK => ?_) AllReadyH.nil)
  go_simp
  refine (HN.out _ _ _ hS HV1.out).mono ?_
  rintro e yR2x5 ⟨rfl, hq⟩
  try (go_wp2_with fail)
  have HV1 := Lib.hid (GOwn.q HV1.out hq)
  have hS2 := Q.trans hS hq
  refine hK.out _ _ (by exact hS2) (fun hHeld => ?_)
  clear hK K hHeld hS hq
  have hS := hS2
  clear hS2
  try simp only [Act.put, List.setIfInBounds_toArray, List.set_cons_zero, List.set_cons_succ]
  refine wpAnyH_take (i := 5) (v := ?vR2x6) rfl (by kernel_rfl) (by kernel_rfl) (by kernel_rfl) (fun _ _ _ h => h) (Or.inl ⟨by rfl, ?hyR2x6⟩) (by exact hS) ?rsR2x6
  case hyR2x6 => (intro uz hSw; (try dsimp only at hSw); go_simp; try with_reducible rfl)
  try simp only [Act.put, List.setIfInBounds_toArray, List.set_cons_zero, List.set_cons_succ]
  refine wpAnyH_done (by kernel_rfl) ?_ _
  have HQ := Lib.hid hS
  clear hS
  go_wp2_with fail
  try (rename_i dx1 d1 hx1; have hy1 : (some 1 : Option Tmp) = some d1 := hx1; obtain rfl := Option.some.inj hy1; clear hx1 hy1)
  go_ret
  exact ⟨rfl, HQ.out⟩

end Lo
end Go.Proofs.YtglljkbpdbnhaaaGreatDoor
