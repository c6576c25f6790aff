/- A locale in memory, and what it tells. -/
import Derived.Test.YtglljkbpdbnhaaaGreatDoorRows
import Derived.Test.YtglljkbpdbnhaaaGreatDoorMA
import Derived.Test.YtglljkbpdbnhaaaGreatDoorMB
import Derived.Test.YtglljkbpdbnhaaaGreatDoorMBS
import Derived.Test.YtglljkbpdbnhaaaGreatDoorMBP
import Derived.Test.YtglljkbpdbnhaaaGreatDoorMO
import Derived.Test.YtglljkbpdbnhaaaGreatDoorMP
import Derived.Test.YtglljkbpdbnhaaaGreatDoorLocM
import Derived.Test.YtglljkbpdbnhaaaGreatDoorLocA
import Derived.Deep.QuietTactic
import Derived.BigQuiet
set_option linter.unusedVariables false
set_option linter.unusedSimpArgs false
namespace Go.Proofs.YtglljkbpdbnhaaaGreatDoor
open Go.RowKit
namespace Lo
open Um Cm Gm


/-- A record's cells, a locale's. -/
def recC (r : Lm.Rec) : List Value := [.string (Lm.bs r.nam), .string (Lm.bs r.pat), .string (Lm.bs r.sys), .string (Lm.bs r.dec), .string (Lm.bs r.grp), .string (Lm.bs r.min), .string (Lm.bs r.per), .string (Lm.bs r.cur)]
def locC (r : Lm.Rec) (X : Pt.Pat) (a b c d cl : Value) : List Value := [.string (Lm.bs r.nam), .string (Lm.bs r.pat), .string (Lm.bs r.sys), .string (Lm.bs r.dec), .string (Lm.bs r.grp), .string (Lm.bs r.min), .string (Lm.bs r.per), .string (Lm.bs r.cur), a, b, c, d, .int .i64 X.pr, .int .i64 X.se, .int .i64 X.mi, .int .i64 X.mf, .int .i64 X.xf, .string (Lm.dgt r 0), .string (Lm.dgt r 1), .string (Lm.dgt r 2), .string (Lm.dgt r 3), .string (Lm.dgt r 4), .string (Lm.dgt r 5), .string (Lm.dgt r 6), .string (Lm.dgt r 7), .string (Lm.dgt r 8), .string (Lm.dgt r 9), .string (Lm.bs r.dec), .string (Lm.bs r.grp), .string (Lm.bs r.min), cl]
/-- A record by value. -/
@[reducible] def recV (r : Lm.Rec) : Value := .agg #[.string (Lm.bs r.nam), .string (Lm.bs r.pat), .string (Lm.bs r.sys), .string (Lm.bs r.dec), .string (Lm.bs r.grp), .string (Lm.bs r.min), .string (Lm.bs r.per), .string (Lm.bs r.cur)]
/-- A locale's block. -/
def LB (w : World) (g : Nat) (r : Lm.Rec) (X : Pt.Pat) (a b c d cl : Value) : Prop :=
  Bk w g 84 (locC r X a b c d cl) ∧ Pc.LstP w a X.pre ∧ Pc.LstP w b X.suf ∧ Pc.LstP w c X.npre ∧ Pc.LstP w d X.nsuf
theorem LB.q {w w' : World} {g : Nat} {r : Lm.Rec} {X : Pt.Pat} {a b c d cl : Value} (h : LB w g r X a b c d cl) (hq : Q w w') : LB w' g r X a b c d cl :=
  ⟨h.1.q hq, h.2.1.q hq, h.2.2.1.q hq, h.2.2.2.1.q hq, h.2.2.2.2.q hq⟩
/-- The symbols as a list. -/
theorem LB.syms {w : World} {g : Nat} {r : Lm.Rec} {X : Pt.Pat} {a b c d cl : Value} (h : LB w g r X a b c d cl) (n : Nat) (hn : n ≤ 13) : SLst w (.slice (some ⟨g, 17, none⟩) n 13) ((Lm.syms r).take n) := by
  have hl : ((Lm.syms r).take n).length = n := by rw [List.length_take]; show min n 13 = n; omega
  refine .inr ⟨g, 17, 13, by rw [hl], h.1.lt, by rw [hl]; exact hn, by unfold maxLen; omega, fun i x hi => ?_⟩
  have hin : i < n := by have := (List.getElem?_eq_some_iff.1 hi).1; omega
  rw [List.getElem?_take, if_pos hin] at hi
  refine h.1.cell (17 + i) ?_
  have e : (locC r X a b c d cl)[17 + i]? = ((Lm.syms r)[i]?).map Value.string := by
    have hi13 : i < 13 := by omega
    match i, hi13 with
    | 0, _ => rfl
    | 1, _ => rfl
    | 2, _ => rfl
    | 3, _ => rfl
    | 4, _ => rfl
    | 5, _ => rfl
    | 6, _ => rfl
    | 7, _ => rfl
    | 8, _ => rfl
    | 9, _ => rfl
    | 10, _ => rfl
    | 11, _ => rfl
    | 12, _ => rfl
  rw [e, hi]; rfl
theorem plc_sp (x : ByteArray) (xs : List ByteArray) : ∀ k, Sp.plc x xs k = Lm.plc x xs k := by
  induction xs with
  | nil => intro k; rfl
  | cons y r ih => intro k; unfold Sp.plc Lm.plc; rw [ih]
theorem rs_ptx (r : Lm.Rec) (A : List Pc.E) : A.flatMap (Pg.rsP (Lm.bs r.cur) (Lm.bs r.per) ⟨#[]⟩) = Lm.atx r A := by
  unfold Lm.atx
  congr 1
  funext x
  unfold Pg.rsP Lm.ptx
  rw [Lm.bs_list, Lm.bs_list]
  by_cases h0 : x.1 = 0
  · rw [if_pos h0, if_pos h0]
  · by_cases h1 : x.1 = 1
    · rw [if_neg h0, if_neg h0, if_pos h1, if_pos h1]
    · by_cases h2 : x.1 = 2
      · rw [if_neg h0, if_neg h0, if_neg h1, if_neg h1, if_pos h2, if_pos h2]
      · rw [if_neg h0, if_neg h0, if_neg h1, if_neg h1, if_neg h2, if_neg h2]
        split <;> rfl

set_option maxRecDepth 100000 in
set_option maxHeartbeats 2000000 in
theorem text_any (g : Nat) (r : Lm.Rec) (X : Pt.Pat) (a b c d cl v : Value) (A : List Pc.E) (w : World) (hB : LB w g r X a b c d cl) (hv : Pc.LstP w v A) (hA : A.length ≤ 1000000) (hz : (Lm.atx r A).length ≤ 1000000) :
    Calls Tryz.prog 88 #[.pointer (some ⟨g, 0, none⟩), v] w fun e w' => e = .returned (.string (Lm.bs (Lm.atx r A))) ∧ Q w w' := by
  have hR := fun u (hq : Q w u) => Pg.resolveP_any v A (Lm.bs r.cur) (Lm.bs r.per) ⟨#[]⟩ u (hv.q hq) hA (by rw [rs_ptx]; exact hz)
  rw [rs_ptx] at hR
  have HR := Lib.hid hR
  have HB := Lib.hid hB.1
  obtain ⟨a0, c0, rfl, _, _⟩ := hv.shape2
  generalize A.length = n at *
  have HF : Hid ((⟨(Lm.atx r A).toArray⟩ : ByteArray) = Lm.bs (Lm.atx r A)) := Lib.hid rfl
  rw [HF.out] at HR
  generalize Lm.bs (Lm.atx r A) = Z at *
  clear hB hv hA hz hR HF
  go_enter Tryz.func88, Tryz.ntmps88
  go_upto_region 1 with fail
  refine wp_region_held_drew (S := fun u => Q w u) (by kernel_rfl) (by exact (Q.refl w).drew) (fun hHeld => ?_)
  have hS : Q w w.drew := hHeld
  clear hHeld
  have hq : Q w w.drew := (Q.refl _).drew
  clear hq
  generalize w.drew = yR1x0 at *
  refine wpAnyH_take (i := 0) (v := ?vR1x1) rfl (by kernel_rfl) (by kernel_rfl) (by kernel_rfl) (fun _ _ _ h => h) (Or.inl ⟨by rfl, ?hyR1x1⟩) (by exact hS) ?rsR1x1
  case hyR1x1 => (intro uz hSw; (try dsimp only at hSw); go_simp; try with_reducible rfl)
  try simp only [Act.put, List.setIfInBounds_toArray, List.set_cons_zero, List.set_cons_succ]
  refine wpAnyH_take (i := 1) (v := ?vR1x2) rfl (by kernel_rfl) (by kernel_rfl) (by kernel_rfl) (fun _ _ _ h => h) (Or.inl ⟨by rfl, ?hyR1x2⟩) (by exact hS) ?rsR1x2
  case hyR1x2 => (intro uz hSw; (try dsimp only at hSw); go_simp; try with_reducible rfl)
  try simp only [Act.put, List.setIfInBounds_toArray, List.set_cons_zero, List.set_cons_succ]
  refine wpAnyH_take (i := 2) (v := ?vR1x3) rfl (by kernel_rfl) (by kernel_rfl) (by kernel_rfl) (fun _ _ _ h => h) (Or.inl ⟨by rfl, ?hyR1x3⟩) (by exact hS) ?rsR1x3
  case hyR1x3 => (intro uz hSw; (try dsimp only at hSw); go_simp; try with_reducible rfl)
  try simp only [Act.put, List.setIfInBounds_toArray, List.set_cons_zero, List.set_cons_succ]
  refine wpAnyH_take (i := 3) (v := ?vR1x4) rfl (by kernel_rfl) (by kernel_rfl) (by kernel_rfl) (fun _ _ _ h => h) (Or.inl ⟨by rfl, ?hyR1x4⟩) (by exact hS) ?rsR1x4
  case hyR1x4 => (intro uz hSw; (try dsimp only at hSw); go_simp; try with_reducible rfl)
  try simp only [Act.put, List.setIfInBounds_toArray, List.set_cons_zero, List.set_cons_succ]
  refine wpAnyH_take (i := 4) (v := ?vR1x5) rfl (by kernel_rfl) (by kernel_rfl) (by kernel_rfl) (fun _ _ _ h => h) (Or.inl ⟨by rfl, ?hyR1x5⟩) (by exact hS) ?rsR1x5
  case hyR1x5 => (intro uz hSw; (try dsimp only at hSw); go_simp; try with_reducible rfl)
  try simp only [Act.put, List.setIfInBounds_toArray, List.set_cons_zero, List.set_cons_succ]
  refine wpAnyH_take (i := 5) (v := ?vR1x6) rfl (by kernel_rfl) (by kernel_rfl) (by kernel_rfl) (fun _ _ _ h => h) (Or.inl ⟨by rfl, ?hyR1x6⟩) (by exact hS) ?rsR1x6
  case hyR1x6 => (intro uz hSw; (try dsimp only at hSw); have kb := HB.out.q hSw; have k6 := kb.cell 6 rfl; have k7 := kb.cell 7 rfl; clear kb; go_simp; try with_reducible rfl)
  try simp only [Act.put, List.setIfInBounds_toArray, List.set_cons_zero, List.set_cons_succ]
  refine wpAnyH_take (i := 6) (v := ?vR1x7) rfl (by kernel_rfl) (by kernel_rfl) (by kernel_rfl) (fun _ _ _ h => h) (Or.inl ⟨by rfl, ?hyR1x7⟩) (by exact hS) ?rsR1x7
  case hyR1x7 => (intro uz hSw; (try dsimp only at hSw); go_simp; try with_reducible rfl)
  try simp only [Act.put, List.setIfInBounds_toArray, List.set_cons_zero, List.set_cons_succ]
  refine wpAnyH_take (i := 7) (v := ?vR1x8) rfl (by kernel_rfl) (by kernel_rfl) (by kernel_rfl) (fun _ _ _ h => h) (Or.inl ⟨by rfl, ?hyR1x8⟩) (by exact hS) ?rsR1x8
  case hyR1x8 => (intro uz hSw; (try dsimp only at hSw); go_simp; try with_reducible rfl)
  try simp only [Act.put, List.setIfInBounds_toArray, List.set_cons_zero, List.set_cons_succ]
  refine wpAnyH_take (i := 8) (v := ?vR1x9) rfl (by kernel_rfl) (by kernel_rfl) (by kernel_rfl) (fun _ _ _ h => h) (Or.inl ⟨by rfl, ?hyR1x9⟩) (by exact hS) ?rsR1x9
  case hyR1x9 => (intro uz hSw; (try dsimp only at hSw); go_simp; try with_reducible rfl)
  try simp only [Act.put, List.setIfInBounds_toArray, List.set_cons_zero, List.set_cons_succ]
  refine wpAnyH_take (i := 9) (v := ?vR1x10) rfl (by kernel_rfl) (by kernel_rfl) (by kernel_rfl) (fun _ _ _ h => h) (Or.inl ⟨by rfl, ?hyR1x10⟩) (by exact hS) ?rsR1x10
  case hyR1x10 => (intro uz hSw; (try dsimp only at hSw); go_simp; try with_reducible rfl)
  try simp only [Act.put, List.setIfInBounds_toArray, List.set_cons_zero, List.set_cons_succ]
  refine wpAnyH_take (i := 10) (v := ?vR1x11) rfl (by kernel_rfl) (by kernel_rfl) (by kernel_rfl) (fun _ _ _ h => h) (Or.inl ⟨by rfl, ?hyR1x11⟩) (by exact hS) ?rsR1x11
  case hyR1x11 => (intro uz hSw; (try dsimp only at hSw); have kb := HB.out.q hSw; have k6 := kb.cell 6 rfl; have k7 := kb.cell 7 rfl; clear kb; go_simp; try with_reducible rfl)
  try simp only [Act.put, List.setIfInBounds_toArray, List.set_cons_zero, List.set_cons_succ]
  refine wpAnyH_ready (rs := [11]) (by kernel_rfl) (by simp) ?_
  refine (AllReadyH.cons rfl (fun K hK => ?_) AllReadyH.nil)
  go_simp
  refine (HR.out _ hS).mono ?_
  rintro e yR1x12 ⟨rfl, hq⟩
  try (go_wp2_with fail)
  have hS2 := Q.trans hS hq
  refine hK.out _ _ (by exact hS2) (fun hHeld => ?_)
  clear hK K hHeld hS hq
  have hS := hS2
  clear hS2
  try simp only [Act.put, List.setIfInBounds_toArray, List.set_cons_zero, List.set_cons_succ]
  refine wpAnyH_take (i := 12) (v := ?vR1x13) rfl (by kernel_rfl) (by kernel_rfl) (by kernel_rfl) (fun _ _ _ h => h) (Or.inl ⟨by rfl, ?hyR1x13⟩) (by exact hS) ?rsR1x13
  case hyR1x13 => (intro uz hSw; (try dsimp only at hSw); go_simp; try with_reducible rfl)
  try simp only [Act.put, List.setIfInBounds_toArray, List.set_cons_zero, List.set_cons_succ]
  refine wpAnyH_done (by kernel_rfl) ?_ _
  have HQ := Lib.hid hS
  clear hS
  go_wp2_with fail
  try (rename_i dx1 d1 hx1; have hy1 : (some 4 : Option Tmp) = some d1 := hx1; obtain rfl := Option.some.inj hy1; clear hx1 hy1)
  go_ret
  exact ⟨rfl, HQ.out⟩

theorem long_ok (g : Nat) (r : Lm.Rec) (X : Pt.Pat) (a b c d cl v : Value) (A : List Pc.E) (w : World) (hB : LB w g r X a b c d cl) (hv : Pc.LstP w v A) (hA : A.length ≤ 1000000) (hz : (Lm.atx r A).length ≤ 64) :
    Calls Tryz.prog 79 #[.pointer (some ⟨g, 0, none⟩), v] w fun e w' => e = .returned (.bool false) ∧ Q w w' := by
  have ht := Lib.hid (text_any g r X a b c d cl v A w hB hv hA (by omega))
  have hs := Lm.bs_size (Lm.atx r A)
  generalize Lm.bs (Lm.atx r A) = Z at *
  have hz2 : ¬ (64 : Int) < (Z.size : Int) := by omega
  obtain ⟨a0, c0, rfl, _, _⟩ := hv.shape2
  generalize A.length = n at *
  clear hB hv hA hz hs
  go_enter Tryz.func79, Tryz.ntmps79
  go_wp2_with fail
  refine ht.out.mono ?_
  rintro e w1 ⟨rfl, hq1⟩
  go_wp2_with fail
  go_ret
  exact ⟨retB (decide_eq_false (by omega)), hq1⟩

set_option maxRecDepth 100000 in
theorem sizes_any (g : Nat) (r : Lm.Rec) (X : Pt.Pat) (a b c d cl : Value) (w : World) (hB : LB w g r X a b c d cl) :
    Calls Tryz.prog 13 #[.pointer (some ⟨g, 0, none⟩)] w fun e w' => e = .returned (.tuple #[.int .i64 X.pr, .int .i64 X.se]) ∧ Q w w' := by
  have HB := Lib.hid hB.1
  clear hB
  go_enter Tryz.func13, Tryz.ntmps13
  go_upto_region 1 with fail
  refine wp_region_held_drew (S := fun u => Q w u) (by kernel_rfl) (by exact (Q.refl w).drew) (fun hHeld => ?_)
  have hS : Q w w.drew := hHeld
  clear hHeld
  have hq : Q w w.drew := (Q.refl _).drew
  clear hq
  generalize w.drew = yR2x0 at *
  refine wpAnyH_take (i := 0) (v := ?vR2x1) rfl (by kernel_rfl) (by kernel_rfl) (by kernel_rfl) (fun _ _ _ h => h) (Or.inl ⟨by rfl, ?hyR2x1⟩) (by exact hS) ?rsR2x1
  case hyR2x1 => (intro uz hSw; (try dsimp only at hSw); go_simp; try with_reducible rfl)
  try simp only [Act.put, List.setIfInBounds_toArray, List.set_cons_zero, List.set_cons_succ]
  refine wpAnyH_take (i := 1) (v := ?vR2x2) rfl (by kernel_rfl) (by kernel_rfl) (by kernel_rfl) (fun _ _ _ h => h) (Or.inl ⟨by rfl, ?hyR2x2⟩) (by exact hS) ?rsR2x2
  case hyR2x2 => (intro uz hSw; (try dsimp only at hSw); go_simp; try with_reducible rfl)
  try simp only [Act.put, List.setIfInBounds_toArray, List.set_cons_zero, List.set_cons_succ]
  refine wpAnyH_take (i := 2) (v := ?vR2x3) rfl (by kernel_rfl) (by kernel_rfl) (by kernel_rfl) (fun _ _ _ h => h) (Or.inl ⟨by rfl, ?hyR2x3⟩) (by exact hS) ?rsR2x3
  case hyR2x3 => (intro uz hSw; (try dsimp only at hSw); go_simp; try with_reducible rfl)
  try simp only [Act.put, List.setIfInBounds_toArray, List.set_cons_zero, List.set_cons_succ]
  refine wpAnyH_take (i := 3) (v := ?vR2x4) rfl (by kernel_rfl) (by kernel_rfl) (by kernel_rfl) (fun _ _ _ h => h) (Or.inl ⟨by rfl, ?hyR2x4⟩) (by exact hS) ?rsR2x4
  case hyR2x4 => (intro uz hSw; (try dsimp only at hSw); go_simp; try with_reducible rfl)
  try simp only [Act.put, List.setIfInBounds_toArray, List.set_cons_zero, List.set_cons_succ]
  refine wpAnyH_take (i := 4) (v := ?vR2x5) rfl (by kernel_rfl) (by kernel_rfl) (by kernel_rfl) (fun _ _ _ h => h) (Or.inl ⟨by rfl, ?hyR2x5⟩) (by exact hS) ?rsR2x5
  case hyR2x5 => (intro uz hSw; (try dsimp only at hSw); have kb := HB.out.q hSw; have k12 := kb.cell 12 rfl; have k13 := kb.cell 13 rfl; clear kb; go_simp; try with_reducible rfl)
  try simp only [Act.put, List.setIfInBounds_toArray, List.set_cons_zero, List.set_cons_succ]
  refine wpAnyH_take (i := 5) (v := ?vR2x6) rfl (by kernel_rfl) (by kernel_rfl) (by kernel_rfl) (fun _ _ _ h => h) (Or.inl ⟨by rfl, ?hyR2x6⟩) (by exact hS) ?rsR2x6
  case hyR2x6 => (intro uz hSw; (try dsimp only at hSw); go_simp; try with_reducible rfl)
  try simp only [Act.put, List.setIfInBounds_toArray, List.set_cons_zero, List.set_cons_succ]
  refine wpAnyH_take (i := 6) (v := ?vR2x7) rfl (by kernel_rfl) (by kernel_rfl) (by kernel_rfl) (fun _ _ _ h => h) (Or.inl ⟨by rfl, ?hyR2x7⟩) (by exact hS) ?rsR2x7
  case hyR2x7 => (intro uz hSw; (try dsimp only at hSw); go_simp; try with_reducible rfl)
  try simp only [Act.put, List.setIfInBounds_toArray, List.set_cons_zero, List.set_cons_succ]
  refine wpAnyH_take (i := 7) (v := ?vR2x8) rfl (by kernel_rfl) (by kernel_rfl) (by kernel_rfl) (fun _ _ _ h => h) (Or.inl ⟨by rfl, ?hyR2x8⟩) (by exact hS) ?rsR2x8
  case hyR2x8 => (intro uz hSw; (try dsimp only at hSw); go_simp; try with_reducible rfl)
  try simp only [Act.put, List.setIfInBounds_toArray, List.set_cons_zero, List.set_cons_succ]
  refine wpAnyH_take (i := 8) (v := ?vR2x9) rfl (by kernel_rfl) (by kernel_rfl) (by kernel_rfl) (fun _ _ _ h => h) (Or.inl ⟨by rfl, ?hyR2x9⟩) (by exact hS) ?rsR2x9
  case hyR2x9 => (intro uz hSw; (try dsimp only at hSw); go_simp; try with_reducible rfl)
  try simp only [Act.put, List.setIfInBounds_toArray, List.set_cons_zero, List.set_cons_succ]
  refine wpAnyH_take (i := 9) (v := ?vR2x10) rfl (by kernel_rfl) (by kernel_rfl) (by kernel_rfl) (fun _ _ _ h => h) (Or.inl ⟨by rfl, ?hyR2x10⟩) (by exact hS) ?rsR2x10
  case hyR2x10 => (intro uz hSw; (try dsimp only at hSw); have kb := HB.out.q hSw; have k12 := kb.cell 12 rfl; have k13 := kb.cell 13 rfl; clear kb; go_simp; try with_reducible rfl)
  try simp only [Act.put, List.setIfInBounds_toArray, List.set_cons_zero, List.set_cons_succ]
  refine wpAnyH_take (i := 10) (v := ?vR2x11) rfl (by kernel_rfl) (by kernel_rfl) (by kernel_rfl) (fun _ _ _ h => h) (Or.inl ⟨by rfl, ?hyR2x11⟩) (by exact hS) ?rsR2x11
  case hyR2x11 => (intro uz hSw; (try dsimp only at hSw); go_simp; try with_reducible rfl)
  try simp only [Act.put, List.setIfInBounds_toArray, List.set_cons_zero, List.set_cons_succ]
  refine wpAnyH_take (i := 11) (v := ?vR2x12) rfl (by kernel_rfl) (by kernel_rfl) (by kernel_rfl) (fun _ _ _ h => h) (Or.inl ⟨by rfl, ?hyR2x12⟩) (by exact hS) ?rsR2x12
  case hyR2x12 => (intro uz hSw; (try dsimp only at hSw); go_simp; try with_reducible rfl)
  try simp only [Act.put, List.setIfInBounds_toArray, List.set_cons_zero, List.set_cons_succ]
  refine wpAnyH_done (by kernel_rfl) ?_ _
  have HQ := Lib.hid hS
  clear hS
  go_wp2_with fail
  rename_i dx1 d1 hx1 dx2 d2 hx2
  have hy1 : (some 3 : Option Tmp) = some d1 := hx1
  obtain rfl := Option.some.inj hy1
  clear hx1 hy1
  have hy2 : (some 2 : Option Tmp) = some d2 := hx2
  obtain rfl := Option.some.inj hy2
  clear hx2 hy2
  go_ret2
  exact ⟨rfl, HQ.out⟩

set_option maxRecDepth 100000 in
theorem least_any (g : Nat) (r : Lm.Rec) (X : Pt.Pat) (a b c d cl : Value) (w : World) (hB : LB w g r X a b c d cl) :
    Calls Tryz.prog 14 #[.pointer (some ⟨g, 0, none⟩)] w fun e w' => e = .returned (.tuple #[.int .i64 X.mi, .int .i64 X.mf, .int .i64 X.xf]) ∧ Q w w' := by
  have HB := Lib.hid hB.1
  clear hB
  go_enter Tryz.func14, Tryz.ntmps14
  go_upto_region 1 with fail
  refine wp_region_held_drew (S := fun u => Q w u) (by kernel_rfl) (by exact (Q.refl w).drew) (fun hHeld => ?_)
  have hS : Q w w.drew := hHeld
  clear hHeld
  have hq : Q w w.drew := (Q.refl _).drew
  clear hq
  generalize w.drew = yR3x0 at *
  refine wpAnyH_take (i := 0) (v := ?vR3x1) rfl (by kernel_rfl) (by kernel_rfl) (by kernel_rfl) (fun _ _ _ h => h) (Or.inl ⟨by rfl, ?hyR3x1⟩) (by exact hS) ?rsR3x1
  case hyR3x1 => (intro uz hSw; (try dsimp only at hSw); go_simp; try with_reducible rfl)
  try simp only [Act.put, List.setIfInBounds_toArray, List.set_cons_zero, List.set_cons_succ]
  refine wpAnyH_take (i := 1) (v := ?vR3x2) rfl (by kernel_rfl) (by kernel_rfl) (by kernel_rfl) (fun _ _ _ h => h) (Or.inl ⟨by rfl, ?hyR3x2⟩) (by exact hS) ?rsR3x2
  case hyR3x2 => (intro uz hSw; (try dsimp only at hSw); go_simp; try with_reducible rfl)
  try simp only [Act.put, List.setIfInBounds_toArray, List.set_cons_zero, List.set_cons_succ]
  refine wpAnyH_take (i := 2) (v := ?vR3x3) rfl (by kernel_rfl) (by kernel_rfl) (by kernel_rfl) (fun _ _ _ h => h) (Or.inl ⟨by rfl, ?hyR3x3⟩) (by exact hS) ?rsR3x3
  case hyR3x3 => (intro uz hSw; (try dsimp only at hSw); go_simp; try with_reducible rfl)
  try simp only [Act.put, List.setIfInBounds_toArray, List.set_cons_zero, List.set_cons_succ]
  refine wpAnyH_take (i := 3) (v := ?vR3x4) rfl (by kernel_rfl) (by kernel_rfl) (by kernel_rfl) (fun _ _ _ h => h) (Or.inl ⟨by rfl, ?hyR3x4⟩) (by exact hS) ?rsR3x4
  case hyR3x4 => (intro uz hSw; (try dsimp only at hSw); go_simp; try with_reducible rfl)
  try simp only [Act.put, List.setIfInBounds_toArray, List.set_cons_zero, List.set_cons_succ]
  refine wpAnyH_take (i := 4) (v := ?vR3x5) rfl (by kernel_rfl) (by kernel_rfl) (by kernel_rfl) (fun _ _ _ h => h) (Or.inl ⟨by rfl, ?hyR3x5⟩) (by exact hS) ?rsR3x5
  case hyR3x5 => (intro uz hSw; (try dsimp only at hSw); have kb := HB.out.q hSw; have k14 := kb.cell 14 rfl; have k15 := kb.cell 15 rfl; have k16 := kb.cell 16 rfl; clear kb; go_simp; try with_reducible rfl)
  try simp only [Act.put, List.setIfInBounds_toArray, List.set_cons_zero, List.set_cons_succ]
  refine wpAnyH_take (i := 5) (v := ?vR3x6) rfl (by kernel_rfl) (by kernel_rfl) (by kernel_rfl) (fun _ _ _ h => h) (Or.inl ⟨by rfl, ?hyR3x6⟩) (by exact hS) ?rsR3x6
  case hyR3x6 => (intro uz hSw; (try dsimp only at hSw); go_simp; try with_reducible rfl)
  try simp only [Act.put, List.setIfInBounds_toArray, List.set_cons_zero, List.set_cons_succ]
  refine wpAnyH_take (i := 6) (v := ?vR3x7) rfl (by kernel_rfl) (by kernel_rfl) (by kernel_rfl) (fun _ _ _ h => h) (Or.inl ⟨by rfl, ?hyR3x7⟩) (by exact hS) ?rsR3x7
  case hyR3x7 => (intro uz hSw; (try dsimp only at hSw); go_simp; try with_reducible rfl)
  try simp only [Act.put, List.setIfInBounds_toArray, List.set_cons_zero, List.set_cons_succ]
  refine wpAnyH_take (i := 7) (v := ?vR3x8) rfl (by kernel_rfl) (by kernel_rfl) (by kernel_rfl) (fun _ _ _ h => h) (Or.inl ⟨by rfl, ?hyR3x8⟩) (by exact hS) ?rsR3x8
  case hyR3x8 => (intro uz hSw; (try dsimp only at hSw); go_simp; try with_reducible rfl)
  try simp only [Act.put, List.setIfInBounds_toArray, List.set_cons_zero, List.set_cons_succ]
  refine wpAnyH_take (i := 8) (v := ?vR3x9) rfl (by kernel_rfl) (by kernel_rfl) (by kernel_rfl) (fun _ _ _ h => h) (Or.inl ⟨by rfl, ?hyR3x9⟩) (by exact hS) ?rsR3x9
  case hyR3x9 => (intro uz hSw; (try dsimp only at hSw); go_simp; try with_reducible rfl)
  try simp only [Act.put, List.setIfInBounds_toArray, List.set_cons_zero, List.set_cons_succ]
  refine wpAnyH_take (i := 9) (v := ?vR3x10) rfl (by kernel_rfl) (by kernel_rfl) (by kernel_rfl) (fun _ _ _ h => h) (Or.inl ⟨by rfl, ?hyR3x10⟩) (by exact hS) ?rsR3x10
  case hyR3x10 => (intro uz hSw; (try dsimp only at hSw); have kb := HB.out.q hSw; have k14 := kb.cell 14 rfl; have k15 := kb.cell 15 rfl; have k16 := kb.cell 16 rfl; clear kb; go_simp; try with_reducible rfl)
  try simp only [Act.put, List.setIfInBounds_toArray, List.set_cons_zero, List.set_cons_succ]
  refine wpAnyH_take (i := 10) (v := ?vR3x11) rfl (by kernel_rfl) (by kernel_rfl) (by kernel_rfl) (fun _ _ _ h => h) (Or.inl ⟨by rfl, ?hyR3x11⟩) (by exact hS) ?rsR3x11
  case hyR3x11 => (intro uz hSw; (try dsimp only at hSw); go_simp; try with_reducible rfl)
  try simp only [Act.put, List.setIfInBounds_toArray, List.set_cons_zero, List.set_cons_succ]
  refine wpAnyH_take (i := 11) (v := ?vR3x12) rfl (by kernel_rfl) (by kernel_rfl) (by kernel_rfl) (fun _ _ _ h => h) (Or.inl ⟨by rfl, ?hyR3x12⟩) (by exact hS) ?rsR3x12
  case hyR3x12 => (intro uz hSw; (try dsimp only at hSw); go_simp; try with_reducible rfl)
  try simp only [Act.put, List.setIfInBounds_toArray, List.set_cons_zero, List.set_cons_succ]
  refine wpAnyH_take (i := 12) (v := ?vR3x13) rfl (by kernel_rfl) (by kernel_rfl) (by kernel_rfl) (fun _ _ _ h => h) (Or.inl ⟨by rfl, ?hyR3x13⟩) (by exact hS) ?rsR3x13
  case hyR3x13 => (intro uz hSw; (try dsimp only at hSw); go_simp; try with_reducible rfl)
  try simp only [Act.put, List.setIfInBounds_toArray, List.set_cons_zero, List.set_cons_succ]
  refine wpAnyH_take (i := 13) (v := ?vR3x14) rfl (by kernel_rfl) (by kernel_rfl) (by kernel_rfl) (fun _ _ _ h => h) (Or.inl ⟨by rfl, ?hyR3x14⟩) (by exact hS) ?rsR3x14
  case hyR3x14 => (intro uz hSw; (try dsimp only at hSw); go_simp; try with_reducible rfl)
  try simp only [Act.put, List.setIfInBounds_toArray, List.set_cons_zero, List.set_cons_succ]
  refine wpAnyH_take (i := 14) (v := ?vR3x15) rfl (by kernel_rfl) (by kernel_rfl) (by kernel_rfl) (fun _ _ _ h => h) (Or.inl ⟨by rfl, ?hyR3x15⟩) (by exact hS) ?rsR3x15
  case hyR3x15 => (intro uz hSw; (try dsimp only at hSw); have kb := HB.out.q hSw; have k14 := kb.cell 14 rfl; have k15 := kb.cell 15 rfl; have k16 := kb.cell 16 rfl; clear kb; go_simp; try with_reducible rfl)
  try simp only [Act.put, List.setIfInBounds_toArray, List.set_cons_zero, List.set_cons_succ]
  refine wpAnyH_take (i := 15) (v := ?vR3x16) rfl (by kernel_rfl) (by kernel_rfl) (by kernel_rfl) (fun _ _ _ h => h) (Or.inl ⟨by rfl, ?hyR3x16⟩) (by exact hS) ?rsR3x16
  case hyR3x16 => (intro uz hSw; (try dsimp only at hSw); go_simp; try with_reducible rfl)
  try simp only [Act.put, List.setIfInBounds_toArray, List.set_cons_zero, List.set_cons_succ]
  refine wpAnyH_take (i := 16) (v := ?vR3x17) rfl (by kernel_rfl) (by kernel_rfl) (by kernel_rfl) (fun _ _ _ h => h) (Or.inl ⟨by rfl, ?hyR3x17⟩) (by exact hS) ?rsR3x17
  case hyR3x17 => (intro uz hSw; (try dsimp only at hSw); go_simp; try with_reducible rfl)
  try simp only [Act.put, List.setIfInBounds_toArray, List.set_cons_zero, List.set_cons_succ]
  refine wpAnyH_take (i := 17) (v := ?vR3x18) rfl (by kernel_rfl) (by kernel_rfl) (by kernel_rfl) (fun _ _ _ h => h) (Or.inl ⟨by rfl, ?hyR3x18⟩) (by exact hS) ?rsR3x18
  case hyR3x18 => (intro uz hSw; (try dsimp only at hSw); go_simp; try with_reducible rfl)
  try simp only [Act.put, List.setIfInBounds_toArray, List.set_cons_zero, List.set_cons_succ]
  refine wpAnyH_done (by kernel_rfl) ?_ _
  have HQ := Lib.hid hS
  clear hS
  go_wp2_with fail
  rename_i dx1 d1 hx1 dx2 d2 hx2
  have hy1 : (some 4 : Option Tmp) = some d1 := hx1
  obtain rfl := Option.some.inj hy1
  clear hx1 hy1
  have hy2 : (some 3 : Option Tmp) = some d2 := hx2
  obtain rfl := Option.some.inj hy2
  clear hx2 hy2
  go_ret3
  exact ⟨rfl, HQ.out⟩

theorem digit_in (g : Nat) (r : Lm.Rec) (X : Pt.Pat) (a b c d cl : Value) (k : Nat) (w : World) (hB : LB w g r X a b c d cl) (hk : k < 10) :
    Calls Tryz.prog 16 #[.pointer (some ⟨g, 0, none⟩), .int .i64 k] w fun e w' => e = .returned (.string (Lm.dgt r k)) ∧ Q w w' := by
  have HC : ∃ z, z = Lm.dgt r k ∧ w.cell? ⟨g, 17 + k, none⟩ = some (.string z) := by
    refine ⟨_, rfl, hB.1.cell (17 + k) ?_⟩
    match k, hk with
    | 0, _ => rfl
    | 1, _ => rfl
    | 2, _ => rfl
    | 3, _ => rfl
    | 4, _ => rfl
    | 5, _ => rfl
    | 6, _ => rfl
    | 7, _ => rfl
    | 8, _ => rfl
    | 9, _ => rfl
  obtain ⟨z, hz, c1⟩ := HC
  have HZ := Lib.hid hz
  have h0 : ¬ (k : Int) < 0 := by omega
  have h1 : ¬ (10 : Int) ≤ (k : Int) := by omega
  have h2 : k < 13 := by omega
  have h3 : (k : Int) < 13 := by omega
  rw [← hz]
  clear hB hz
  go_enter Tryz.func16, Tryz.ntmps16
  go_wp2_with fail
  go_ret
  exact ⟨rfl, Q.refl _⟩
theorem digit_out (g : Nat) (k : Int) (w : World) (hk : k < 0 ∨ 10 ≤ k) :
    Calls Tryz.prog 16 #[.pointer (some ⟨g, 0, none⟩), .int .i64 k] w fun e w' => e = .returned (.string ⟨#[]⟩) ∧ Q w w' := by
  by_cases h0 : k < 0
  · clear hk
    go_enter Tryz.func16, Tryz.ntmps16
    go_wp2_with fail
    go_ret
    exact ⟨rfl, Q.refl _⟩
  · have h1 : (10 : Int) ≤ k := by omega
    clear hk
    go_enter Tryz.func16, Tryz.ntmps16
    go_wp2_with fail
    go_ret
    exact ⟨rfl, Q.refl _⟩

theorem sign_any (g : Nat) (r : Lm.Rec) (X : Pt.Pat) (a b c d cl : Value) (x : ByteArray) (w : World) (hB : LB w g r X a b c d cl) :
    Calls Tryz.prog 22 #[.pointer (some ⟨g, 0, none⟩), .string x] w fun e w' => e = .returned (.int .i64 (Lm.sgn r x)) ∧ Q w w' := by
  by_cases h0 : x.size = 0
  · have HF := Lib.hid (show Lm.sgn r x = -1 from if_pos h0)
    have hx : x = ⟨#[]⟩ := by
      obtain ⟨⟨l⟩⟩ := x
      simp [ByteArray.size] at h0
      subst h0; rfl
    subst hx
    have hb : ((⟨#[]⟩ : ByteArray).toList == (⟨#[]⟩ : ByteArray).toList) = true := by simp
    have hb1 : (⟨#[]⟩ : ByteArray).toList.isEmpty = true := by decide +kernel
    clear h0 hB
    go_enter Tryz.func22, Tryz.ntmps22
    go_wp2_with fail
    go_ret
    rw [HF.out]
    exact ⟨rfl, Q.refl _⟩
  · have HF := Lib.hid (show Lm.sgn r x = Lm.plc x (Lm.syms r) 0 from if_neg h0)
    have hb : (x.toList == (⟨#[]⟩ : ByteArray).toList) = false := str_ne (fun e => h0 (by rw [e]; rfl))
    have hb1 : x.toList.isEmpty = false := by
      rw [emp_eq]
      have := size_list x
      cases h : x.data.toList with
      | nil => rw [h] at this; exact absurd this.symm h0
      | cons _ _ => rfl
    have hb2 : (x.toList == []) = false := by
      cases h : x.toList with
      | nil => rw [h] at hb1; cases hb1
      | cons _ _ => rfl
    have hI := fun w' (hq : Q w w') => Sp.idx_any (.slice (some ⟨g, 17, none⟩) 13 13) (Lm.syms r) x w' ((hB.q hq).syms 13 (by omega)) (by show (13 : Nat) ≤ _; omega)
    simp only [plc_sp] at hI
    rw [HF.out]
    have HI := Lib.hid hI
    generalize Lm.plc x (Lm.syms r) 0 = R at *
    clear h0 hB hI HF
    go_enter Tryz.func22, Tryz.ntmps22
    go_wp2_with fail
    refine (HI.out _ (Q.refl _)).mono ?_
    rintro e w1 ⟨rfl, rfl⟩
    go_wp2_with fail
    go_ret
    exact ⟨rfl, Q.refl _⟩
theorem symbol_none (g : Nat) (r : Lm.Rec) (X : Pt.Pat) (a b c d cl : Value) (x : ByteArray) (w : World) (hB : LB w g r X a b c d cl) (hx : Lm.sgn r x = -1) :
    Calls Tryz.prog 86 #[.pointer (some ⟨g, 0, none⟩), .string x] w fun e w' => e = .returned (.bool false) ∧ Q w w' := by
  have hs := sign_any g r X a b c d cl x w hB
  rw [hx] at hs
  have HS := Lib.hid hs
  clear hs hx hB
  go_enter Tryz.func86, Tryz.ntmps86
  go_wp2_with fail
  refine HS.out.mono ?_
  rintro e w1 ⟨rfl, hq1⟩
  go_wp2_with fail
  go_ret
  exact ⟨rfl, hq1⟩
theorem affix_any (g : Nat) (r : Lm.Rec) (X : Pt.Pat) (a b c d cl : Value) (xs : List ByteArray) (x : ByteArray) (w : World) (hB : LB w g r X a b c d cl) (hcl : SLst w cl xs) (hx : xs.length ≤ 1073741824) :
    Calls Tryz.prog 23 #[.pointer (some ⟨g, 0, none⟩), .string x] w fun e w' => e = .returned (.bool (decide (0 ≤ Lm.plc x xs 0))) ∧ Q w w' := by
  have hI := fun w' (hq : Q w w') => Sp.has_any cl xs x w' (hcl.q hq) hx
  simp only [plc_sp] at hI
  have HI := Lib.hid hI
  have c1 := hB.1.cell 30 rfl
  obtain ⟨a0, c0, rfl⟩ := hcl.shape
  generalize Lm.plc x xs 0 = R at *
  generalize xs.length = n at *
  clear hI hB hcl hx
  go_enter Tryz.func23, Tryz.ntmps23
  go_wp2_with fail
  refine (HI.out _ (Q.refl _)).mono ?_
  rintro e w1 ⟨rfl, rfl⟩
  go_wp2_with fail
  go_ret
  exact ⟨rfl, Q.refl _⟩

set_option maxRecDepth 100000 in
set_option maxHeartbeats 2000000 in
theorem taken_no (g : Nat) (r : Lm.Rec) (X : Pt.Pat) (a b c d cl : Value) (k : Nat) (x : ByteArray) (w : World) (hB : LB w g r X a b c d cl) (hk : k < 13) (hx : (Lm.syms r)[k]? = some x) (hno : x ∉ (Lm.syms r).take k) :
    Calls Tryz.prog 81 #[.pointer (some ⟨g, 0, none⟩), .int .i64 k] w fun e w' => e = .returned (.bool false) ∧ Q w w' := by
  have hI := fun w' (hq : Q w w') => (Sp.has_any (.slice (some ⟨g, 17, none⟩) k 13) ((Lm.syms r).take k) x w' ((hB.q hq).syms k (by omega)) (by rw [List.length_take]; omega)).mono (fun e u h => (⟨h.1, h.2 ▸ Q.refl _⟩ : _ ∧ Q w' u))
  simp only [plc_sp, Lm.plc_none _ _ hno] at hI
  have HI := Lib.hid hI
  have HC : Hid (∀ u, Q w u → u.cell? ⟨g, 17 + k, none⟩ = some (.string x)) := Lib.hid (fun u hq => by
    have hl := (hB.q hq).syms 13 (by omega)
    have h2 : ((Lm.syms r).take 13)[k]? = some x := by rw [List.getElem?_take, if_pos hk]; exact hx
    obtain ⟨g', off, cap, hv, _, _, _, hc⟩ := hl.cellOf (n := 13) (by rw [List.length_take]; rfl) h2
    cases hv
    exact hc)
  have h0 : ¬ (k : Int) < 0 := by omega
  have h1 : (k : Int) < 13 := by omega
  have h2 : (k : Int) ≤ 13 := by omega
  have h3 : k ≤ 13 := by omega
  clear hB hx hno hI
  go_enter Tryz.func81, Tryz.ntmps81
  go_upto_region 1 with fail
  refine wp_region_held_drew (S := fun u => Q w u) (by kernel_rfl) (by exact (Q.refl w).drew) (fun hHeld => ?_)
  have hS : Q w w.drew := hHeld
  clear hHeld
  have hq : Q w w.drew := (Q.refl _).drew
  clear hq
  generalize w.drew = yR4x0 at *
  refine wpAnyH_take (i := 0) (v := ?vR4x1) rfl (by kernel_rfl) (by kernel_rfl) (by kernel_rfl) (fun _ _ _ h => h) (Or.inl ⟨by rfl, ?hyR4x1⟩) (by exact hS) ?rsR4x1
  case hyR4x1 => (intro uz hSw; (try dsimp only at hSw); go_simp; try with_reducible rfl)
  try simp only [Act.put, List.setIfInBounds_toArray, List.set_cons_zero, List.set_cons_succ]
  refine wpAnyH_take (i := 1) (v := ?vR4x2) rfl (by kernel_rfl) (by kernel_rfl) (by kernel_rfl) (fun _ _ _ h => h) (Or.inl ⟨by rfl, ?hyR4x2⟩) (by exact hS) ?rsR4x2
  case hyR4x2 => (intro uz hSw; (try dsimp only at hSw); go_simp; try with_reducible rfl)
  try simp only [Act.put, List.setIfInBounds_toArray, List.set_cons_zero, List.set_cons_succ]
  refine wpAnyH_take (i := 2) (v := ?vR4x3) rfl (by kernel_rfl) (by kernel_rfl) (by kernel_rfl) (fun _ _ _ h => h) (Or.inl ⟨by rfl, ?hyR4x3⟩) (by exact hS) ?rsR4x3
  case hyR4x3 => (intro uz hSw; (try dsimp only at hSw); go_simp; try with_reducible rfl)
  try simp only [Act.put, List.setIfInBounds_toArray, List.set_cons_zero, List.set_cons_succ]
  refine wpAnyH_take (i := 3) (v := ?vR4x4) rfl (by kernel_rfl) (by kernel_rfl) (by kernel_rfl) (fun _ _ _ h => h) (Or.inl ⟨by rfl, ?hyR4x4⟩) (by exact hS) ?rsR4x4
  case hyR4x4 => (intro uz hSw; (try dsimp only at hSw); go_simp; try with_reducible rfl)
  try simp only [Act.put, List.setIfInBounds_toArray, List.set_cons_zero, List.set_cons_succ]
  refine wpAnyH_take (i := 4) (v := ?vR4x5) rfl (by kernel_rfl) (by kernel_rfl) (by kernel_rfl) (fun _ _ _ h => h) (Or.inl ⟨by rfl, ?hyR4x5⟩) (by exact hS) ?rsR4x5
  case hyR4x5 => (intro uz hSw; (try dsimp only at hSw); go_simp; try with_reducible rfl)
  try simp only [Act.put, List.setIfInBounds_toArray, List.set_cons_zero, List.set_cons_succ]
  refine wpAnyH_take (i := 5) (v := ?vR4x6) rfl (by kernel_rfl) (by kernel_rfl) (by kernel_rfl) (fun _ _ _ h => h) (Or.inl ⟨by rfl, ?hyR4x6⟩) (by exact hS) ?rsR4x6
  case hyR4x6 => (intro uz hSw; (try dsimp only at hSw); go_simp; try with_reducible rfl)
  try simp only [Act.put, List.setIfInBounds_toArray, List.set_cons_zero, List.set_cons_succ]
  refine wpAnyH_take (i := 6) (v := ?vR4x7) rfl (by kernel_rfl) (by kernel_rfl) (by kernel_rfl) (fun _ _ _ h => h) (Or.inl ⟨by rfl, ?hyR4x7⟩) (by exact hS) ?rsR4x7
  case hyR4x7 => (intro uz hSw; (try dsimp only at hSw); go_simp; try with_reducible rfl)
  try simp only [Act.put, List.setIfInBounds_toArray, List.set_cons_zero, List.set_cons_succ]
  refine wpAnyH_take (i := 7) (v := ?vR4x8) rfl (by kernel_rfl) (by kernel_rfl) (by kernel_rfl) (fun _ _ _ h => h) (Or.inl ⟨by rfl, ?hyR4x8⟩) (by exact hS) ?rsR4x8
  case hyR4x8 => (intro uz hSw; (try dsimp only at hSw); go_simp; try with_reducible rfl)
  try simp only [Act.put, List.setIfInBounds_toArray, List.set_cons_zero, List.set_cons_succ]
  refine wpAnyH_take (i := 8) (v := ?vR4x9) rfl (by kernel_rfl) (by kernel_rfl) (by kernel_rfl) (fun _ _ _ h => h) (Or.inl ⟨by rfl, ?hyR4x9⟩) (by exact hS) ?rsR4x9
  case hyR4x9 => (intro uz hSw; (try dsimp only at hSw); go_simp; try with_reducible rfl)
  try simp only [Act.put, List.setIfInBounds_toArray, List.set_cons_zero, List.set_cons_succ]
  refine wpAnyH_take (i := 9) (v := ?vR4x10) rfl (by kernel_rfl) (by kernel_rfl) (by kernel_rfl) (fun _ _ _ h => h) (Or.inl ⟨by rfl, ?hyR4x10⟩) (by exact hS) ?rsR4x10
  case hyR4x10 => (intro uz hSw; (try dsimp only at hSw); go_simp; try with_reducible rfl)
  try simp only [Act.put, List.setIfInBounds_toArray, List.set_cons_zero, List.set_cons_succ]
  refine wpAnyH_take (i := 10) (v := ?vR4x11) rfl (by kernel_rfl) (by kernel_rfl) (by kernel_rfl) (fun _ _ _ h => h) (Or.inl ⟨by rfl, ?hyR4x11⟩) (by exact hS) ?rsR4x11
  case hyR4x11 => (intro uz hSw; (try dsimp only at hSw); have k1 := HC.out _ hSw; go_simp; try with_reducible rfl)
  try simp only [Act.put, List.setIfInBounds_toArray, List.set_cons_zero, List.set_cons_succ]
  refine wpAnyH_ready (rs := [11]) (by kernel_rfl) (by simp) ?_
  refine (AllReadyH.cons rfl (fun K hK => ?_) AllReadyH.nil)
  go_simp
  refine (HI.out _ hS).mono ?_
  rintro e yR4x12 ⟨rfl, hq⟩
  try (go_wp2_with fail)
  have hS2 := Q.trans hS hq
  refine hK.out _ _ (by exact hS2) (fun hHeld => ?_)
  clear hK K hHeld hS hq
  have hS := hS2
  clear hS2
  try simp only [Act.put, List.setIfInBounds_toArray, List.set_cons_zero, List.set_cons_succ]
  refine wpAnyH_take (i := 12) (v := ?vR4x13) rfl (by kernel_rfl) (by kernel_rfl) (by kernel_rfl) (fun _ _ _ h => h) (Or.inl ⟨by rfl, ?hyR4x13⟩) (by exact hS) ?rsR4x13
  case hyR4x13 => (intro uz hSw; (try dsimp only at hSw); go_simp; try with_reducible rfl)
  try simp only [Act.put, List.setIfInBounds_toArray, List.set_cons_zero, List.set_cons_succ]
  refine wpAnyH_done (by kernel_rfl) ?_ _
  have HQ := Lib.hid hS
  clear hS
  go_wp2_with fail
  try (rename_i dx1 d1 hx1; have hy1 : (some 4 : Option Tmp) = some d1 := hx1; obtain rfl := Option.some.inj hy1; clear hx1 hy1)
  go_ret
  exact ⟨rfl, HQ.out⟩

end Lo
end Go.Proofs.YtglljkbpdbnhaaaGreatDoor
