/- What the program prints of a pattern of one half that has literals alone, and one number sign. -/
import Derived.Deep.Cut
import Derived.Deep.DeepCutAuto
import Derived.Test.YtjloibgjnnknnaaDoorRows
import Derived.Test.YtjloibgjnnknnaaDoorInts
import Derived.Test.YtjloibgjnnknnaaDoorUtfM
import Derived.Test.YtjloibgjnnknnaaDoorUtfW
import Derived.Test.YtjloibgjnnknnaaDoorBlk
import Derived.Test.YtjloibgjnnknnaaDoorPcs
import Derived.Test.YtjloibgjnnknnaaDoorPatM
import Derived.Test.YtjloibgjnnknnaaDoorPatN
import Derived.Test.YtjloibgjnnknnaaDoorPgA
import Derived.Test.YtjloibgjnnknnaaDoorPgH
import Derived.Test.YtjloibgjnnknnaaDoorPgJ
import Derived.Test.YtjloibgjnnknnaaDoorPgO
import Derived.Test.YtjloibgjnnknnaaDoorPgP
import Derived.Test.YtjloibgjnnknnaaDoorPgQ
import Derived.Deep.QuietTactic
import Derived.BigQuiet
import Derived.Deep.RegionHeld3
set_option linter.unusedVariables false
set_option linter.unusedSimpArgs false
namespace Go.Proofs.YtjloibgjnnknnaaDoor
open Go.RowKit
namespace Pg
open Pt Um

theorem fm_len (ps : List (List Int)) (hl : ps.length ≤ 10) (hps : ∀ cs ∈ ps, Vl cs ∧ cs.length ≤ 10000) : (joinL (ps.flatMap (prS []))).length ≤ 10000000 := by
  have key : ∀ qs : List (List Int), (∀ cs ∈ qs, Vl cs ∧ cs.length ≤ 10000) → (qs.flatMap (prS [])).length ≤ qs.length * 100000 := by
    intro qs
    induction qs with
    | nil => intro _; simp
    | cons c r ih =>
      intro h
      have h1 := ih fun d hd => h d (List.mem_cons_of_mem _ hd)
      have h2 := prS_len c []
      have h3 := (h c List.mem_cons_self).2
      rw [List.flatMap_cons, List.length_append, List.length_cons]
      simp at h2
      omega
  have h1 := key ps hps
  have h2 := joinL_length (ps.flatMap (prS []))
  omega
theorem lits_len (ps : List (List Int)) : (lits ps).length = ps.length := by unfold lits; rw [List.length_map]

set_option maxHeartbeats 4000000 in
set_option maxRecDepth 100000 in
theorem print_any (v : Value) (B : Nat) (ps qs : List (List Int)) (mi : Int) (hmi : mi = 0 ∨ mi = 1) (w : World)
    (hv : PV w B v ⟨lits ps, lits qs, (3, []) :: lits ps, lits qs, 0, 0, mi, 0, 0⟩) (hp : ps.length ≤ 10) (hq : qs.length ≤ 10) (hpv : ∀ cs ∈ ps, Vl cs ∧ cs.length ≤ 10000) (hqv : ∀ cs ∈ qs, Vl cs ∧ cs.length ≤ 10000) :
    Calls Tryd.prog 19 #[v] w fun e w' => e = .returned (.string ⟨(joinL (ps.flatMap (prS []) ++ [if mi = 1 then 48 else 35] ++ qs.flatMap (prS []))).toArray⟩) ∧ Q w w' := by
  obtain ⟨a, b, c, d, rfl, ha, hb, hc, hd⟩ := hv
  simp only at ha hb hc hd ⊢
  have hl1' := lits_len ps
  have hl2' := lits_len qs
  obtain ⟨l1, hl1⟩ : ∃ l, (lits ps).length = l := ⟨_, rfl⟩
  obtain ⟨l2, hl2⟩ : ∃ l, (lits qs).length = l := ⟨_, rfl⟩
  obtain ⟨l3, hl3⟩ : ∃ l, ((3, []) :: lits ps : List Pc.E).length = l := ⟨_, rfl⟩
  obtain ⟨l4, hl4⟩ : ∃ l, (lits qs).length = l := ⟨_, rfl⟩
  obtain ⟨a1, a2, rfl, _, _⟩ := ha.1.form0 hl1
  obtain ⟨b1, b2, rfl, _, _⟩ := hb.1.form0 hl2
  obtain ⟨c1, c2, rfl, _, _⟩ := hc.1.form0 hl3
  obtain ⟨d1, d2, rfl, _, _⟩ := hd.1.form0 hl4
  obtain ⟨z, hz⟩ : ∃ z, z = w.alloc (.cells #[.slice a1 l1 a2, .slice b1 l2 b2, .slice c1 l3 c2, .slice d1 l4 d2, .int .i64 0, .int .i64 0, .int .i64 mi, .int .i64 0, .int .i64 0] 39) := ⟨_, rfl⟩
  have hqz : Q w z := by rw [hz]; exact (Q.refl w).alloc _
  have HQZ := Lib.hid hqz
  have HBZ := Lib.hid (show Bk z w.heap.size 39 [.slice a1 l1 a2, .slice b1 l2 b2, .slice c1 l3 c2, .slice d1 l4 d2, .int .i64 0, .int .i64 0, .int .i64 mi, .int .i64 0, .int .i64 0] by rw [hz]; exact Bk.new _ _ _)
  have hf1 := fm_len ps hp hpv
  have hf2 := fm_len qs hq hqv
  have hW1 := fun u (h : Q z u) => written_any (.slice a1 l1 a2) ps u ((ha.1.q hqz).q h) hp hpv
  have hW2 := fun u (h : Q z u) => written_any (.slice b1 l2 b2) qs u ((hb.1.q hqz).q h) hq hqv
  have hNU := fun u (h : Q z u) => numerals_any (.slice a1 l1 a2) (.slice b1 l2 b2) (.slice c1 l3 c2) (.slice d1 l4 d2) mi hmi ⟨_, _, _, rfl⟩ ⟨_, _, _, rfl⟩ ⟨_, _, _, rfl⟩ ⟨_, _, _, rfl⟩ u
  have HNG := Lib.hid (fun u (h : Q z u) => negative_any (.slice a1 l1 a2) (.slice b1 l2 b2) (lits ps) (lits qs) u ((ha.1.q hqz).q h) ((hb.1.q hqz).q h) (by omega) (by omega))
  have HE1 := Lib.hid (fun u (h : Q z u) (x : Value) (hx : Pc.LstP u x ((3, []) :: lits ps)) => (by
    have := equal_any (.slice c1 l3 c2) x _ _ u ((hc.1.q hqz).q h) hx (by simp; omega) (by simp; omega)
    rwa [decide_eq_true rfl] at this : Calls Tryd.prog 25 #[.slice c1 l3 c2, x] u fun e w' => e = .returned (.bool true) ∧ Q u w'))
  have HE2 := Lib.hid (fun u (h : Q z u) (x : Value) (hx : Pc.LstP u x (lits qs)) => (by
    have := equal_any (.slice d1 l4 d2) x _ _ u ((hd.1.q hqz).q h) hx (by omega) (by omega)
    rwa [decide_eq_true rfl] at this : Calls Tryd.prog 25 #[.slice d1 l4 d2, x] u fun e w' => e = .returned (.bool true) ∧ Q u w'))
  have HL1 := Lib.hid hl1
  have HL2 := Lib.hid hl2
  have HL3 := Lib.hid hl3
  obtain ⟨WA, hWA⟩ : ∃ WA : ByteArray, WA = ⟨(joinL (ps.flatMap (prS []))).toArray⟩ := ⟨_, rfl⟩
  obtain ⟨WB, hWB⟩ : ∃ WB : ByteArray, WB = ⟨(joinL (qs.flatMap (prS []))).toArray⟩ := ⟨_, rfl⟩
  obtain ⟨WN, hWN⟩ : ∃ WN : ByteArray, WN = ⟨#[if mi = 1 then 48 else 35]⟩ := ⟨_, rfl⟩
  have HFIN := Lib.hid (show (⟨(joinL (ps.flatMap (prS []) ++ [if mi = 1 then 48 else 35] ++ qs.flatMap (prS []))).toArray⟩ : ByteArray) = WA ++ WN ++ WB by
    subst hWA hWB hWN
    apply ba_ext
    rw [joinL_app, joinL_app]
    have : joinL [if mi = 1 then (48 : Int) else 35] = [if mi = 1 then (48 : UInt8) else 35] := by
      rcases hmi with h | h
      · rw [if_neg (by omega), if_neg (by omega)]; decide +kernel
      · rw [if_pos h, if_pos h]; decide +kernel
    rw [this]
    simp [ByteArray.toList_data_append])
  have hA1 : WA.size ≤ 10000000 := by rw [hWA]; simp only [ByteArray.size, List.size_toArray]; exact hf1
  have hA2 : WB.size ≤ 10000000 := by rw [hWB]; simp only [ByteArray.size, List.size_toArray]; exact hf2
  have hA3 : WN.size = 1 := by rw [hWN]; rfl
  have hc0 : ¬ 9223372036854775807 < WA.size + 1 := by omega
  have hc1 : ¬ 9223372036854775807 < WA.size + WN.size := by omega
  have hc2 : ¬ 9223372036854775807 < WA.size + 1 + WB.size := by omega
  have hc3 : ¬ 9223372036854775807 < WA.size + WN.size + WB.size := by omega
  have hc4 : ¬ 9223372036854775807 < (WA ++ WN).size + WB.size := by rw [ByteArray.size_append]; omega
  rw [← hWA] at hW1
  rw [← hWB] at hW2
  rw [← hWN] at hNU
  have HW1 := Lib.hid hW1
  have HW2 := Lib.hid hW2
  have HNU := Lib.hid hNU
  clear hW1 hW2 hNU hWA hWB hWN hf1 hf2 hl1 hl2 hl3 hl4 hl1' hl2' ha hb hc hd hqz
  rw [HFIN.out]
  clear HFIN hmi
  go_enter Tryd.func19, Tryd.ntmps19
  go_upto_region 1 with fail
  rw [← hz]
  clear hz
  refine wp_region_held_drew (S := fun u => Q z u) (by kernel_rfl) (by exact (Q.refl z).drew) (fun hHeld => ?_)
  have hS : Q z z.drew := hHeld
  clear hHeld
  have hq : Q z z.drew := (Q.refl _).drew
  clear hq
  generalize z.drew = yR1x0 at *
  refine wpAnyH_take (i := 0) (v := ?vR1x1) rfl (by kernel_rfl) (by kernel_rfl) (by kernel_rfl) (fun _ _ _ h => h) (Or.inl ⟨by rfl, ?hyR1x1⟩) (by exact hS) ?rsR1x1
  case hyR1x1 => (intro uz hSw; (try dsimp only at hSw); go_simp; try with_reducible rfl)
  try simp only [Act.put, List.setIfInBounds_toArray, List.set_cons_zero, List.set_cons_succ]
  refine wpAnyH_take (i := 1) (v := ?vR1x2) rfl (by kernel_rfl) (by kernel_rfl) (by kernel_rfl) (fun _ _ _ h => h) (Or.inl ⟨by rfl, ?hyR1x2⟩) (by exact hS) ?rsR1x2
  case hyR1x2 => (intro uz hSw; (try dsimp only at hSw); have kb := HBZ.out.q hSw; have k0 := kb.cell 0 rfl; have k1 := kb.cell 1 rfl; have k2 := kb.cell 2 rfl; have k3 := kb.cell 3 rfl; have k4 := kb.cell 4 rfl; have k5 := kb.cell 5 rfl; have k6 := kb.cell 6 rfl; have k7 := kb.cell 7 rfl; have k8 := kb.cell 8 rfl; clear kb; go_simp; try with_reducible rfl)
  try simp only [Act.put, List.setIfInBounds_toArray, List.set_cons_zero, List.set_cons_succ]
  refine wpAnyH_take (i := 3) (v := ?vR1x3) rfl (by kernel_rfl) (by kernel_rfl) (by kernel_rfl) (fun _ _ _ h => h) (Or.inl ⟨by rfl, ?hyR1x3⟩) (by exact hS) ?rsR1x3
  case hyR1x3 => (intro uz hSw; (try dsimp only at hSw); have kb := HBZ.out.q hSw; have k0 := kb.cell 0 rfl; have k1 := kb.cell 1 rfl; have k2 := kb.cell 2 rfl; have k3 := kb.cell 3 rfl; have k4 := kb.cell 4 rfl; have k5 := kb.cell 5 rfl; have k6 := kb.cell 6 rfl; have k7 := kb.cell 7 rfl; have k8 := kb.cell 8 rfl; clear kb; go_simp; try with_reducible rfl)
  try simp only [Act.put, List.setIfInBounds_toArray, List.set_cons_zero, List.set_cons_succ]
  refine wpAnyH_take (i := 6) (v := ?vR1x4) rfl (by kernel_rfl) (by kernel_rfl) (by kernel_rfl) (fun _ _ _ h => h) (Or.inl ⟨by rfl, ?hyR1x4⟩) (by exact hS) ?rsR1x4
  case hyR1x4 => (intro uz hSw; (try dsimp only at hSw); go_simp; try with_reducible rfl)
  try simp only [Act.put, List.setIfInBounds_toArray, List.set_cons_zero, List.set_cons_succ]
  refine wpAnyH_take (i := 7) (v := ?vR1x5) rfl (by kernel_rfl) (by kernel_rfl) (by kernel_rfl) (fun _ _ _ h => h) (Or.inl ⟨by rfl, ?hyR1x5⟩) (by exact hS) ?rsR1x5
  case hyR1x5 => (intro uz hSw; (try dsimp only at hSw); have kb := HBZ.out.q hSw; have k0 := kb.cell 0 rfl; have k1 := kb.cell 1 rfl; have k2 := kb.cell 2 rfl; have k3 := kb.cell 3 rfl; have k4 := kb.cell 4 rfl; have k5 := kb.cell 5 rfl; have k6 := kb.cell 6 rfl; have k7 := kb.cell 7 rfl; have k8 := kb.cell 8 rfl; clear kb; go_simp; try with_reducible rfl)
  try simp only [Act.put, List.setIfInBounds_toArray, List.set_cons_zero, List.set_cons_succ]
  refine wpAnyH_ready (rs := [2]) (by kernel_rfl) (by simp) ?_
  refine (AllReadyH.cons rfl (fun K hK => ?_) AllReadyH.nil)
  go_simp
  refine (HW1.out _ hS).mono ?_
  rintro e yR1x6 ⟨rfl, hq⟩
  try (go_wp2_with fail)
  have hS2 := Q.trans hS hq
  refine hK.out _ _ (by exact hS2) (fun hHeld => ?_)
  clear hK K hHeld hS hq
  have hS := hS2
  clear hS2
  try simp only [Act.put, List.setIfInBounds_toArray, List.set_cons_zero, List.set_cons_succ]
  refine wpAnyH_ready (rs := [4]) (by kernel_rfl) (by simp) ?_
  refine (AllReadyH.cons rfl (fun K hK => ?_) AllReadyH.nil)
  go_simp
  refine (HNU.out _ hS).mono ?_
  rintro e yR1x7 ⟨rfl, hq⟩
  try (go_wp2_with fail)
  have hS2 := Q.trans hS hq
  refine hK.out _ _ (by exact hS2) (fun hHeld => ?_)
  clear hK K hHeld hS hq
  have hS := hS2
  clear hS2
  try simp only [Act.put, List.setIfInBounds_toArray, List.set_cons_zero, List.set_cons_succ]
  refine wpAnyH_take (i := 5) (v := ?vR1x8) rfl (by kernel_rfl) (by kernel_rfl) (by kernel_rfl) (fun _ _ _ h => h) (Or.inl ⟨by rfl, ?hyR1x8⟩) (by exact hS) ?rsR1x8
  case hyR1x8 => (intro uz hSw; (try dsimp only at hSw); go_simp; try with_reducible rfl)
  try simp only [Act.put, List.setIfInBounds_toArray, List.set_cons_zero, List.set_cons_succ]
  refine wpAnyH_ready (rs := [8]) (by kernel_rfl) (by simp) ?_
  refine (AllReadyH.cons rfl (fun K hK => ?_) AllReadyH.nil)
  go_simp
  refine (HW2.out _ hS).mono ?_
  rintro e yR1x9 ⟨rfl, hq⟩
  try (go_wp2_with fail)
  have hS2 := Q.trans hS hq
  refine hK.out _ _ (by exact hS2) (fun hHeld => ?_)
  clear hK K hHeld hS hq
  have hS := hS2
  clear hS2
  try simp only [Act.put, List.setIfInBounds_toArray, List.set_cons_zero, List.set_cons_succ]
  refine wpAnyH_take (i := 9) (v := ?vR1x10) rfl (by kernel_rfl) (by kernel_rfl) (by kernel_rfl) (fun _ _ _ h => h) (Or.inl ⟨by rfl, ?hyR1x10⟩) (by exact hS) ?rsR1x10
  case hyR1x10 => (intro uz hSw; (try dsimp only at hSw); go_simp; try with_reducible rfl)
  try simp only [Act.put, List.setIfInBounds_toArray, List.set_cons_zero, List.set_cons_succ]
  refine wpAnyH_take (i := 10) (v := ?vR1x11) rfl (by kernel_rfl) (by kernel_rfl) (by kernel_rfl) (fun _ _ _ h => h) (Or.inl ⟨by rfl, ?hyR1x11⟩) (by exact hS) ?rsR1x11
  case hyR1x11 => (intro uz hSw; (try dsimp only at hSw); go_simp; try with_reducible rfl)
  try simp only [Act.put, List.setIfInBounds_toArray, List.set_cons_zero, List.set_cons_succ]
  refine wpAnyH_done (by kernel_rfl) ?_ _
  have HQ1 := Lib.hid hS
  have HB1 := Lib.hid (HBZ.out.q hS)
  have p0 := HB1.out.cell 0 rfl
  have p1 := HB1.out.cell 1 rfl
  clear hS
  go_wp2_with fail
  clear p0 p1
  refine (HNG.out _ HQ1.out).mono ?_
  rintro e z2 ⟨nv, sv, rfl, hn1, hn2, hq2⟩
  obtain ⟨na, nc, rfl, _, _⟩ := hn1.1.form0 HL3.out
  obtain ⟨va2, vc2, rfl, _, _⟩ := hn2.1.form0 HL2.out
  have HN1 := Lib.hid hn1
  have HN2 := Lib.hid hn2
  have HQ2 := Lib.hid (HQ1.out.trans hq2)
  have HB2 := Lib.hid (HB1.out.q hq2)
  clear hn1 hn2 hq2
  have p2 := HB2.out.cell 2 rfl
  go_wp2_with fail
  clear p2
  refine (HE1.out _ HQ2.out _ HN1.out.1).mono ?_
  rintro e z3 ⟨rfl, hq3⟩
  have HQ3 := Lib.hid (HQ2.out.trans hq3)
  have HB3 := Lib.hid (HB2.out.q hq3)
  have HN3 := Lib.hid (HN2.out.q hq3)
  clear hq3
  have p3 := HB3.out.cell 3 rfl
  go_wp2_with fail
  clear p3
  refine (HE2.out _ HQ3.out _ HN3.out.1).mono ?_
  rintro e z4 ⟨rfl, hq4⟩
  have HQ4 := Lib.hid (HQZ.out.trans (HQ3.out.trans hq4))
  clear hq4
  go_wp2_with fail
  go_ret
  exact ⟨rfl, HQ4.out⟩

end Pg
end Go.Proofs.YtjloibgjnnknnaaDoor
