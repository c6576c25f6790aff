/- What the program's Times of decimals comes to, what it refuses, and Sub, by a walk through each. (and more) -/
import Derived.Test.YteljedefbomlgaaR00
import Derived.Test.YteljedefbomlgaaR12
import Derived.Test.YteljedefbomlgaaR24
import Derived.Test.YteljedefbomlgaaR01
import Derived.Test.YteljedefbomlgaaR13
import Derived.Test.YteljedefbomlgaaR15
import Derived.Test.YteljedefbomlgaaR08
import Derived.Test.YteljedefbomlgaaR10
import Derived.Test.YteljedefbomlgaaR11
import Derived.Test.YteljedefbomlgaaR04
import Derived.Test.YteljedefbomlgaaR02
import Derived.Test.YteljedefbomlgaaR07
import Derived.Test.YteljedefbomlgaaRows
import Derived.Test.YteljedefbomlgaaR19
import Derived.Deep.QuietTactic
import Derived.Deep.RegionWith
import Derived.Deep.RegionHeld3
import Derived.BigQuiet
import Derived.Laws.ResultCell
set_option linter.unusedVariables false
set_option linter.unusedSimpArgs false
namespace Go.Proofs.Yteljedefbomlgaa
open Go.RowKit
namespace Ep
open Er (dv cellV LF LF.of LF.nil LF.mono LF.q LF.put LF.shape LF.lst block_cells some_cells block_set wrapI num_shl okD_shl)
theorem SD.here {w u : World} {g : Bool} {v : Value} {s : Int} (k : SD w g v s u) : Q w u := by
  obtain ⟨_, _, _, _, _, _, _, _, _, _, _, hq⟩ := k
  exact hq
set_option maxHeartbeats 3200000 in
theorem times_pos (g : Bool) (v : Value) (s k : Nat) (L : List Int) (w : World) (hv : Lst w v L) (hl : L.length < 100000) (hd : Dm.okD L) (hs : s ≤ 1000) (hk : k ≤ 1000)  :
    Calls Try.prog 45 #[dv g v s, .int .i64 (k : Int)] w fun e w' => ∃ u, e = .returned (.tuple #[dv (Dm.cg g (Dm.num L * k)) u ((Dm.st (Dm.num L * k) s).2 : Nat), .int .i64 0]) ∧ LF w' (w.heap.size + 2) u (Dm.dg (Dm.st (Dm.num L * k) s).1) ∧ Q w w' := by
  obtain ⟨a, c, rfl⟩ := hv.shape
  have hok := (Dm.okB_iff L).2 hd
  have MA := Lib.hid (fun u (k : SD w g (.slice a L.length c) s u) => (by
    have e := may_any g (.slice a L.length c) s L u (hv.q k.here) (by omega) (by omega)
    rw [hok, show decide (0 ≤ (s : Int)) = true from by simp, show decide ((s : Int) ≤ 1000) = true from by simp; omega] at e
    refine e.mono ?_
    rintro e w' ⟨rfl, hq⟩
    exact ⟨rfl, k.q hq⟩ : Calls Try.prog 43 #[.agg #[.bool g, .slice a L.length c, .int .i64 s]] u fun e w' => e = .returned (.bool true) ∧ SD w g (.slice a L.length c) s w'))
  have TM := Lib.hid (fun u (h : SD w g (.slice a L.length c) s u) => (by
    refine (Dw.times_any _ L k u (hv.q h.here) (by omega) hd hk).mono ?_
    rintro e w' ⟨x, rfl, ho, hq⟩
    exact ⟨x, rfl, ho, h.q hq⟩ : Calls Try.prog 76 #[.slice a L.length c, .int .i64 (k : Int)] u fun e w' => ∃ x, e = .returned (.tuple #[x, .int .i64 0]) ∧ Lst w' x (Dm.dg (Dm.num L * k)) ∧ SD w g (.slice a L.length c) s w'))
  have hdl : (Dm.dg (Dm.num L * k)).length ≤ L.length + 4 := by
    refine Dm.dg_len_lt _ _ ?_
    have h1 := Dm.num_lt L hd
    have h2 : Dm.num L * k < 10 ^ L.length * 10 ^ 4 := by
      have h3 : Dm.num L * k ≤ Dm.num L * 1000 := Nat.mul_le_mul_left _ hk
      omega
    rwa [← Nat.pow_add] at h2
  have TR := Lib.hid (fun u x (hx : Lst u x (Dm.dg (Dm.num L * k))) (h : SD w g (.slice a L.length c) s u) => (by
    have e := trim_any g x s (Dm.dg (Dm.num L * k)) u hx (by omega) (Dm.okD_dg _) (by omega)
    rw [Dm.num_dg] at e
    refine e.mono ?_
    rintro e w' ⟨x, rfl, ho, hq⟩
    obtain ⟨ya, yc, rfl⟩ := ho.shape
    exact ⟨ya, yc, rfl, ho.mono (by have := h.room; omega), h.q hq⟩ : Calls Try.prog 55 #[.agg #[.bool g, x, .int .i64 s]] u fun e w' => ∃ ya yc, e = .returned (.agg #[.bool (Dm.cg g (Dm.num L * k)), .slice ya (Dm.dg (Dm.st (Dm.num L * k) s).1).length yc, .int .i64 ((Dm.st (Dm.num L * k) s).2 : Nat)]) ∧ LF w' (w.heap.size + 2) (.slice ya (Dm.dg (Dm.st (Dm.num L * k) s).1).length yc) (Dm.dg (Dm.st (Dm.num L * k) s).1) ∧ SD w g (.slice a L.length c) s w'))
  have HS := Lib.hid (SD.start w g (.slice a L.length c) s)
  generalize Dm.cg g (Dm.num L * k) = cs at *
  generalize Dm.dg (Dm.st (Dm.num L * k) s).1 = Z at *
  generalize (Dm.st (Dm.num L * k) s).2 = zs at *
  generalize Dm.dg (Dm.num L * k) = Y at *
  generalize L.length = n at *
  generalize Z.length = r at *
  have PUT := Lib.hid (fun u (h : SD w g (.slice a n c) s u) x y z => h.put x y z)
  clear hv hok hdl
  have hi1 : ¬ (k : Int) < 0 := by omega
  have hi2 : -1000 ≤ (k : Int) := by omega
  have hi3 : (k : Int) ≤ 1000 := by omega
  have hi5 : (-(k : Int)) ≤ (k : Int) := by omega
  have hi6 : ¬ (k : Int) < (-(k : Int)) := by omega
  cases g
  all_goals
    go_enter Try.func45, Try.ntmps45
    unfold dv
    go_wp2_with fail
    refine (MA.out _ HS.out).mono ?_
    rintro e w1 ⟨rfl, hS⟩
    have HS1 := Lib.hid hS
    unfold SD at hS
    obtain ⟨a0, a1, a2, b0, b1, b2, b3, b4, b5, _, _, _⟩ := hS
    go_wp2_with fail
    refine (TM.out _ HS1.out).mono ?_
    rintro e w2 ⟨x, rfl, hx, hS⟩
    obtain ⟨xa, xc, rfl⟩ := hx.shape
    generalize Y.length = y at *
    have HX := Lib.hid hx
    have HS2 := Lib.hid hS
    clear a0 a1 a2 b0 b1 b2 b3 b4 b5 hx
    unfold SD at hS
    obtain ⟨a0, a1, a2, b0, b1, b2, b3, b4, b5, _, _, _⟩ := hS
    go_wp2_with fail
    refine (TR.out _ _ HX.out HS2.out).mono ?_
    rintro e w3 ⟨ya, yc, rfl, hlf, hS⟩
    have hfin := PUT.out w3 hS (.bool cs) (.slice ya r yc) (.int .i64 zs)
    have hlf2 := hlf.put (r := w.heap.size + 1) (Nat.lt_succ_self _) (.bool cs) (.slice ya r yc) (.int .i64 zs)
    have HF := Lib.hid hfin.2
    have HO := Lib.hid hlf2
    have HQ := Lib.hid hfin.1.here
    clear a0 a1 a2 b0 b1 b2 b3 b4 b5 hfin hlf2 hlf
    unfold SD at hS
    obtain ⟨a0, a1, a2, b0, b1, b2, b3, b4, b5, _, _, _⟩ := hS
    go_wp2_with fail
    exact ret_dv2 rfl rfl rfl HF.out rfl ⟨_, rfl, HO.out, HQ.out⟩
set_option maxHeartbeats 3200000 in
theorem times_neg (g : Bool) (v : Value) (s k : Nat) (L : List Int) (w : World) (hv : Lst w v L) (hl : L.length < 100000) (hd : Dm.okD L) (hs : s ≤ 1000) (hk : k ≤ 1000) (hk0 : 0 < k) :
    Calls Try.prog 45 #[dv g v s, .int .i64 (-(k : Int))] w fun e w' => ∃ u, e = .returned (.tuple #[dv (Dm.cg (!g) (Dm.num L * k)) u ((Dm.st (Dm.num L * k) s).2 : Nat), .int .i64 0]) ∧ LF w' (w.heap.size + 2) u (Dm.dg (Dm.st (Dm.num L * k) s).1) ∧ Q w w' := by
  obtain ⟨a, c, rfl⟩ := hv.shape
  have hok := (Dm.okB_iff L).2 hd
  have MA := Lib.hid (fun u (k : SD w g (.slice a L.length c) s u) => (by
    have e := may_any g (.slice a L.length c) s L u (hv.q k.here) (by omega) (by omega)
    rw [hok, show decide (0 ≤ (s : Int)) = true from by simp, show decide ((s : Int) ≤ 1000) = true from by simp; omega] at e
    refine e.mono ?_
    rintro e w' ⟨rfl, hq⟩
    exact ⟨rfl, k.q hq⟩ : Calls Try.prog 43 #[.agg #[.bool g, .slice a L.length c, .int .i64 s]] u fun e w' => e = .returned (.bool true) ∧ SD w g (.slice a L.length c) s w'))
  have TM := Lib.hid (fun u (h : SD w g (.slice a L.length c) s u) => (by
    refine (Dw.times_any _ L k u (hv.q h.here) (by omega) hd hk).mono ?_
    rintro e w' ⟨x, rfl, ho, hq⟩
    exact ⟨x, rfl, ho, h.q hq⟩ : Calls Try.prog 76 #[.slice a L.length c, .int .i64 (k : Int)] u fun e w' => ∃ x, e = .returned (.tuple #[x, .int .i64 0]) ∧ Lst w' x (Dm.dg (Dm.num L * k)) ∧ SD w g (.slice a L.length c) s w'))
  have hdl : (Dm.dg (Dm.num L * k)).length ≤ L.length + 4 := by
    refine Dm.dg_len_lt _ _ ?_
    have h1 := Dm.num_lt L hd
    have h2 : Dm.num L * k < 10 ^ L.length * 10 ^ 4 := by
      have h3 : Dm.num L * k ≤ Dm.num L * 1000 := Nat.mul_le_mul_left _ hk
      omega
    rwa [← Nat.pow_add] at h2
  have TR := Lib.hid (fun u x (hx : Lst u x (Dm.dg (Dm.num L * k))) (h : SD w g (.slice a L.length c) s u) => (by
    have e := trim_any (!g) x s (Dm.dg (Dm.num L * k)) u hx (by omega) (Dm.okD_dg _) (by omega)
    rw [Dm.num_dg] at e
    refine e.mono ?_
    rintro e w' ⟨x, rfl, ho, hq⟩
    obtain ⟨ya, yc, rfl⟩ := ho.shape
    exact ⟨ya, yc, rfl, ho.mono (by have := h.room; omega), h.q hq⟩ : Calls Try.prog 55 #[.agg #[.bool (!g), x, .int .i64 s]] u fun e w' => ∃ ya yc, e = .returned (.agg #[.bool (Dm.cg (!g) (Dm.num L * k)), .slice ya (Dm.dg (Dm.st (Dm.num L * k) s).1).length yc, .int .i64 ((Dm.st (Dm.num L * k) s).2 : Nat)]) ∧ LF w' (w.heap.size + 2) (.slice ya (Dm.dg (Dm.st (Dm.num L * k) s).1).length yc) (Dm.dg (Dm.st (Dm.num L * k) s).1) ∧ SD w g (.slice a L.length c) s w'))
  have HS := Lib.hid (SD.start w g (.slice a L.length c) s)
  generalize Dm.cg (!g) (Dm.num L * k) = cs at *
  generalize Dm.dg (Dm.st (Dm.num L * k) s).1 = Z at *
  generalize (Dm.st (Dm.num L * k) s).2 = zs at *
  generalize Dm.dg (Dm.num L * k) = Y at *
  generalize L.length = n at *
  generalize Z.length = r at *
  have PUT := Lib.hid (fun u (h : SD w g (.slice a n c) s u) x y z => h.put x y z)
  clear hv hok hdl
  have hi1 : (-(k : Int)) < 0 := by omega
  have hi2 : ¬ (-(k : Int)) < -1000 := by omega
  have hi3 : (-(k : Int)) ≤ 1000 := by omega
  have hi4 : -1000 ≤ (-(k : Int)) := by omega
  have hi5 : (-(k : Int)) ≤ (k : Int) := by omega
  have hi6 : ¬ (k : Int) < (-(k : Int)) := by omega
  have hi7 : (-(k : Int)) < (k : Int) := by omega
  cases g
  all_goals
    go_enter Try.func45, Try.ntmps45
    unfold dv
    go_wp2_with fail
    refine (MA.out _ HS.out).mono ?_
    rintro e w1 ⟨rfl, hS⟩
    have HS1 := Lib.hid hS
    unfold SD at hS
    obtain ⟨a0, a1, a2, b0, b1, b2, b3, b4, b5, _, _, _⟩ := hS
    go_wp2_with fail
    refine (TM.out _ HS1.out).mono ?_
    rintro e w2 ⟨x, rfl, hx, hS⟩
    obtain ⟨xa, xc, rfl⟩ := hx.shape
    generalize Y.length = y at *
    have HX := Lib.hid hx
    have HS2 := Lib.hid hS
    clear a0 a1 a2 b0 b1 b2 b3 b4 b5 hx
    unfold SD at hS
    obtain ⟨a0, a1, a2, b0, b1, b2, b3, b4, b5, _, _, _⟩ := hS
    go_wp2_with fail
    refine (TR.out _ _ HX.out HS2.out).mono ?_
    rintro e w3 ⟨ya, yc, rfl, hlf, hS⟩
    have hfin := PUT.out w3 hS (.bool cs) (.slice ya r yc) (.int .i64 zs)
    have hlf2 := hlf.put (r := w.heap.size + 1) (Nat.lt_succ_self _) (.bool cs) (.slice ya r yc) (.int .i64 zs)
    have HF := Lib.hid hfin.2
    have HO := Lib.hid hlf2
    have HQ := Lib.hid hfin.1.here
    clear a0 a1 a2 b0 b1 b2 b3 b4 b5 hfin hlf2 hlf
    unfold SD at hS
    obtain ⟨a0, a1, a2, b0, b1, b2, b3, b4, b5, _, _, _⟩ := hS
    go_wp2_with fail
    exact ret_dv2 rfl rfl rfl HF.out rfl ⟨_, rfl, HO.out, HQ.out⟩
set_option maxHeartbeats 1600000 in
theorem times_far (g : Bool) (v : Value) (s k : Int) (L : List Int) (w : World) (hv : Lst w v L) (hl : L.length < 1000000) (hs : -9223372036854775808 ≤ s ∧ s ≤ 9223372036854775807) (hb : (Dm.okB L && decide (0 ≤ s) && decide (s ≤ 1000)) = true) (hk : k < -1000 ∨ 1000 < k) :
    Calls Try.prog 45 #[dv g v s, .int .i64 k] w fun e w' => e = .returned (.tuple #[dv false (.slice none 0 0) 0, .int .i64 3]) ∧ Q w w' := by
  obtain ⟨a, c, rfl⟩ := hv.shape
  have M := Lib.hid (fun u (h : SD w g (.slice a L.length c) s u) => (by
    have e := may_any g (.slice a L.length c) s L u (hv.q h.2.2.2.2.2.2.2.2.2.2.2) (by omega) hs
    rw [hb] at e
    refine e.mono ?_
    rintro e w' ⟨rfl, hq⟩
    exact ⟨rfl, h.q hq⟩ : Calls Try.prog 43 #[.agg #[.bool g, .slice a L.length c, .int .i64 s]] u fun e w' => e = .returned (.bool true) ∧ SD w g (.slice a L.length c) s w'))
  have HS := Lib.hid (SD.start w g (.slice a L.length c) s)
  have PUT := Lib.hid (fun u (h : SD w g (.slice a L.length c) s u) x y z => h.put x y z)
  generalize L.length = n at *
  clear hv hb
  go_enter Try.func45, Try.ntmps45
  unfold dv
  go_wp2_with fail
  refine (M.out _ HS.out).mono ?_
  rintro e w1 ⟨rfl, hS⟩
  have hfin := PUT.out w1 hS (.bool false) (.slice none 0 0) (.int .i64 0)
  have HF := Lib.hid hfin.2
  have hqf : Q w _ := hfin.1.2.2.2.2.2.2.2.2.2.2.2
  have HQ := Lib.hid hqf
  unfold SD at hS
  obtain ⟨a0, a1, a2, b0, b1, b2, b3, b4, b5, _, _, _⟩ := hS
  clear hfin hqf
  rcases hk with hk | hk
  · go_wp2_with fail
    exact ret_dv2 rfl rfl rfl HF.out rfl ⟨rfl, HQ.out⟩
  · have hk2 : ¬ k < -1000 := by omega
    have hk3 : -1000 ≤ k := by omega
    go_wp2_with fail
    exact ret_dv2 rfl rfl rfl HF.out rfl ⟨rfl, HQ.out⟩
end Ep
end Go.Proofs.Yteljedefbomlgaa
namespace Go.Proofs.Yteljedefbomlgaa
open Go.RowKit
namespace Ep
open Er (dv cellV LF LF.of LF.nil LF.mono LF.q LF.put LF.shape LF.lst block_cells some_cells block_set wrapI num_shl okD_shl)
def SB1 (W : World) (b1 : Nat) (g1 : Bool) (v1 : Value) (s1 : Int) (u : World) : Prop := u.cell? ⟨b1, 0, none⟩ = some (.bool g1) ∧ (u.cell? ⟨b1, 1, none⟩ = some v1 ∧ (u.cell? ⟨b1, 2, none⟩ = some (.int .i64 s1) ∧ (Q W u)))
theorem SB1.of {W u : World} {b1 : Nat} {g1 : Bool} {v1 : Value} {s1 : Int} {T1 : TypeId} (h1 : W.heap[b1]? = some (.cells #[.bool g1, v1, .int .i64 s1] T1)) (q : Q W u) : SB1 W b1 g1 v1 s1 u := by
  obtain ⟨p10, p11, p12, _, _, _⟩ := block_cells ((q.block (lt_of_block h1)).trans h1)
  exact ⟨p10, p11, p12, q⟩
theorem SB1.here {W u : World} {b1 : Nat} {g1 : Bool} {v1 : Value} {s1 : Int} (k : SB1 W b1 g1 v1 s1 u) : Q W u := by
  obtain ⟨_, _, _, q⟩ := k
  exact q
def SB2 (W : World) (b1 : Nat) (g1 : Bool) (v1 : Value) (s1 : Int) (b2 : Nat) (g2 : Bool) (v2 : Value) (s2 : Int) (u : World) : Prop := u.cell? ⟨b1, 0, none⟩ = some (.bool g1) ∧ (u.cell? ⟨b1, 1, none⟩ = some v1 ∧ (u.cell? ⟨b1, 2, none⟩ = some (.int .i64 s1) ∧ (u.cell? ⟨b2, 0, none⟩ = some (.bool g2) ∧ (u.cell? ⟨b2, 1, none⟩ = some v2 ∧ (u.cell? ⟨b2, 2, none⟩ = some (.int .i64 s2) ∧ (Q W u))))))
theorem SB2.of {W u : World} {b1 b2 : Nat} {g1 g2 : Bool} {v1 v2 : Value} {s1 s2 : Int} {T1 : TypeId} (h1 : W.heap[b1]? = some (.cells #[.bool g1, v1, .int .i64 s1] T1)) {T2 : TypeId} (h2 : W.heap[b2]? = some (.cells #[.bool g2, v2, .int .i64 s2] T2)) (q : Q W u) : SB2 W b1 g1 v1 s1 b2 g2 v2 s2 u := by
  obtain ⟨p10, p11, p12, _, _, _⟩ := block_cells ((q.block (lt_of_block h1)).trans h1)
  obtain ⟨p20, p21, p22, _, _, _⟩ := block_cells ((q.block (lt_of_block h2)).trans h2)
  exact ⟨p10, p11, p12, p20, p21, p22, q⟩
theorem SB2.here {W u : World} {b1 b2 : Nat} {g1 g2 : Bool} {v1 v2 : Value} {s1 s2 : Int} (k : SB2 W b1 g1 v1 s1 b2 g2 v2 s2 u) : Q W u := by
  obtain ⟨_, _, _, _, _, _, q⟩ := k
  exact q
def SB3 (W : World) (b1 : Nat) (g1 : Bool) (v1 : Value) (s1 : Int) (b2 : Nat) (g2 : Bool) (v2 : Value) (s2 : Int) (b3 : Nat) (g3 : Bool) (v3 : Value) (s3 : Int) (u : World) : Prop := u.cell? ⟨b1, 0, none⟩ = some (.bool g1) ∧ (u.cell? ⟨b1, 1, none⟩ = some v1 ∧ (u.cell? ⟨b1, 2, none⟩ = some (.int .i64 s1) ∧ (u.cell? ⟨b2, 0, none⟩ = some (.bool g2) ∧ (u.cell? ⟨b2, 1, none⟩ = some v2 ∧ (u.cell? ⟨b2, 2, none⟩ = some (.int .i64 s2) ∧ (u.cell? ⟨b3, 0, none⟩ = some (.bool g3) ∧ (u.cell? ⟨b3, 1, none⟩ = some v3 ∧ (u.cell? ⟨b3, 2, none⟩ = some (.int .i64 s3) ∧ (Q W u)))))))))
theorem SB3.of {W u : World} {b1 b2 b3 : Nat} {g1 g2 g3 : Bool} {v1 v2 v3 : Value} {s1 s2 s3 : Int} {T1 : TypeId} (h1 : W.heap[b1]? = some (.cells #[.bool g1, v1, .int .i64 s1] T1)) {T2 : TypeId} (h2 : W.heap[b2]? = some (.cells #[.bool g2, v2, .int .i64 s2] T2)) {T3 : TypeId} (h3 : W.heap[b3]? = some (.cells #[.bool g3, v3, .int .i64 s3] T3)) (q : Q W u) : SB3 W b1 g1 v1 s1 b2 g2 v2 s2 b3 g3 v3 s3 u := by
  obtain ⟨p10, p11, p12, _, _, _⟩ := block_cells ((q.block (lt_of_block h1)).trans h1)
  obtain ⟨p20, p21, p22, _, _, _⟩ := block_cells ((q.block (lt_of_block h2)).trans h2)
  obtain ⟨p30, p31, p32, _, _, _⟩ := block_cells ((q.block (lt_of_block h3)).trans h3)
  exact ⟨p10, p11, p12, p20, p21, p22, p30, p31, p32, q⟩
theorem SB3.here {W u : World} {b1 b2 b3 : Nat} {g1 g2 g3 : Bool} {v1 v2 v3 : Value} {s1 s2 s3 : Int} (k : SB3 W b1 g1 v1 s1 b2 g2 v2 s2 b3 g3 v3 s3 u) : Q W u := by
  obtain ⟨_, _, _, _, _, _, _, _, _, q⟩ := k
  exact q
def SB5 (W : World) (b1 : Nat) (g1 : Bool) (v1 : Value) (s1 : Int) (b2 : Nat) (g2 : Bool) (v2 : Value) (s2 : Int) (b3 : Nat) (g3 : Bool) (v3 : Value) (s3 : Int) (b4 : Nat) (g4 : Bool) (v4 : Value) (s4 : Int) (b5 : Nat) (g5 : Bool) (v5 : Value) (s5 : Int) (u : World) : Prop := u.cell? ⟨b1, 0, none⟩ = some (.bool g1) ∧ (u.cell? ⟨b1, 1, none⟩ = some v1 ∧ (u.cell? ⟨b1, 2, none⟩ = some (.int .i64 s1) ∧ (u.cell? ⟨b2, 0, none⟩ = some (.bool g2) ∧ (u.cell? ⟨b2, 1, none⟩ = some v2 ∧ (u.cell? ⟨b2, 2, none⟩ = some (.int .i64 s2) ∧ (u.cell? ⟨b3, 0, none⟩ = some (.bool g3) ∧ (u.cell? ⟨b3, 1, none⟩ = some v3 ∧ (u.cell? ⟨b3, 2, none⟩ = some (.int .i64 s3) ∧ (u.cell? ⟨b4, 0, none⟩ = some (.bool g4) ∧ (u.cell? ⟨b4, 1, none⟩ = some v4 ∧ (u.cell? ⟨b4, 2, none⟩ = some (.int .i64 s4) ∧ (u.cell? ⟨b5, 0, none⟩ = some (.bool g5) ∧ (u.cell? ⟨b5, 1, none⟩ = some v5 ∧ (u.cell? ⟨b5, 2, none⟩ = some (.int .i64 s5) ∧ (Q W u)))))))))))))))
theorem SB5.of {W u : World} {b1 b2 b3 b4 b5 : Nat} {g1 g2 g3 g4 g5 : Bool} {v1 v2 v3 v4 v5 : Value} {s1 s2 s3 s4 s5 : Int} {T1 : TypeId} (h1 : W.heap[b1]? = some (.cells #[.bool g1, v1, .int .i64 s1] T1)) {T2 : TypeId} (h2 : W.heap[b2]? = some (.cells #[.bool g2, v2, .int .i64 s2] T2)) {T3 : TypeId} (h3 : W.heap[b3]? = some (.cells #[.bool g3, v3, .int .i64 s3] T3)) {T4 : TypeId} (h4 : W.heap[b4]? = some (.cells #[.bool g4, v4, .int .i64 s4] T4)) {T5 : TypeId} (h5 : W.heap[b5]? = some (.cells #[.bool g5, v5, .int .i64 s5] T5)) (q : Q W u) : SB5 W b1 g1 v1 s1 b2 g2 v2 s2 b3 g3 v3 s3 b4 g4 v4 s4 b5 g5 v5 s5 u := by
  obtain ⟨p10, p11, p12, _, _, _⟩ := block_cells ((q.block (lt_of_block h1)).trans h1)
  obtain ⟨p20, p21, p22, _, _, _⟩ := block_cells ((q.block (lt_of_block h2)).trans h2)
  obtain ⟨p30, p31, p32, _, _, _⟩ := block_cells ((q.block (lt_of_block h3)).trans h3)
  obtain ⟨p40, p41, p42, _, _, _⟩ := block_cells ((q.block (lt_of_block h4)).trans h4)
  obtain ⟨p50, p51, p52, _, _, _⟩ := block_cells ((q.block (lt_of_block h5)).trans h5)
  exact ⟨p10, p11, p12, p20, p21, p22, p30, p31, p32, p40, p41, p42, p50, p51, p52, q⟩
theorem SB5.here {W u : World} {b1 b2 b3 b4 b5 : Nat} {g1 g2 g3 g4 g5 : Bool} {v1 v2 v3 v4 v5 : Value} {s1 s2 s3 s4 s5 : Int} (k : SB5 W b1 g1 v1 s1 b2 g2 v2 s2 b3 g3 v3 s3 b4 g4 v4 s4 b5 g5 v5 s5 u) : Q W u := by
  obtain ⟨_, _, _, _, _, _, _, _, _, _, _, _, _, _, _, q⟩ := k
  exact q
theorem good_sh (u : World) (g : Bool) (a : Option Addr) (n c : Nat) (s : Int) (L : List Int) (m : Nat) (hv : Lst u (.slice a n c) L) (hn : L.length = n) (hs : -9223372036854775808 ≤ s ∧ s ≤ 9223372036854775807) (hm : m < 1000000) (hb : ∀ n ∈ L, -9223372036854775808 ≤ n ∧ n ≤ 9223372036854775807) (t p : Nat) (ht : Um.around s 10 = (t : Int)) (hp : (Dm.gdL L m).length = p) :
    Calls Try.prog 12 #[.agg #[.bool g, .slice a n c, .int .i64 s], .int .i64 m] u fun e w' => ∃ a c, e = .returned (.agg #[.bool g, .slice a p c, .int .i64 t]) ∧ Lst w' (.slice a p c) (Dm.gdL L m) ∧ Q u w' := by
  refine (Er.good_any g _ s L m u hv hs hm hb).mono ?_
  rintro e w' ⟨x, rfl, hx, hq⟩
  obtain ⟨a, c, rfl⟩ := hx.shape
  rw [ht, hp]
  exact ⟨a, c, rfl, by rw [← hp]; exact hx.lst, hq⟩
theorem ptrim_sh (u : World) (g : Bool) (a : Option Addr) (n c : Nat) (s : Nat) (L : List Int) (hv : Lst u (.slice a n c) L) (hl : L.length < 10000) (hd : Dm.okD L) (hs : s ≤ 1000) (cs : Bool) (Z : List Int) (r zs : Nat) (h1 : Dm.cg g (Dm.num L) = cs) (h2 : Dm.dg (Dm.st (Dm.num L) s).1 = Z) (h3 : (Dm.st (Dm.num L) s).2 = zs) (h4 : Z.length = r) :
    Calls Try.prog 55 #[.agg #[.bool g, .slice a n c, .int .i64 (s : Int)]] u fun e w' => ∃ a c, e = .returned (.agg #[.bool cs, .slice a r c, .int .i64 (zs : Nat)]) ∧ Lst w' (.slice a r c) Z ∧ Q u w' := by
  subst h1; subst h2; subst h3; subst h4
  refine (trim_any g _ s L u hv (by omega) hd (by omega)).mono ?_
  rintro e w' ⟨x, rfl, hx, hq⟩
  obtain ⟨a, c, rfl⟩ := hx.shape
  exact ⟨a, c, rfl, hx.lst, hq⟩
theorem heap_three (w : World) (p q r : Obj) : (((w.alloc p).alloc q).alloc r).heap[w.heap.size]? = some p ∧ (((w.alloc p).alloc q).alloc r).heap[w.heap.size + 1]? = some q ∧ (((w.alloc p).alloc q).alloc r).heap[w.heap.size + 1 + 1]? = some r := by
  have e : ((w.alloc p).alloc q).heap.size = w.heap.size + 1 + 1 := by simp
  refine ⟨(heap_alloc_old _ _ (by rw [e]; omega)).trans (heap_alloc2_old _ _ _), (heap_alloc_old _ _ (by rw [e]; omega)).trans (heap_alloc2_new _ _ _), ?_⟩
  have := heap_alloc_new ((w.alloc p).alloc q) r
  rwa [e] at this
end Ep
end Go.Proofs.Yteljedefbomlgaa
