/- What the program's Times of decimals comes to, what it refuses, and Sub, by a walk through each. -/
import Derived.Test.YtilbefdeanhnpaaRows
import Derived.Test.YtilbefdeanhnpaaDigL
import Derived.Test.YtilbefdeanhnpaaDecM
import Derived.Test.YtilbefdeanhnpaaInts
import Derived.Test.YtilbefdeanhnpaaSto
import Derived.Test.YtilbefdeanhnpaaStoB
import Derived.Test.YtilbefdeanhnpaaDigW
import Derived.Test.YtilbefdeanhnpaaDigV
import Derived.Test.YtilbefdeanhnpaaDigX
import Derived.Test.YtilbefdeanhnpaaDigQ
import Derived.Test.YtilbefdeanhnpaaDecR
import Derived.Test.YtilbefdeanhnpaaDecS
import Derived.Test.YtilbefdeanhnpaaDecC
import Derived.Test.YtilbefdeanhnpaaDecP
import Derived.Test.YtilbefdeanhnpaaDecQ
import Derived.Test.YtilbefdeanhnpaaDecI
import Derived.Deep.QuietTactic
import Derived.Deep.RegionWith
import Derived.Deep.RegionHeld3
import Derived.BigQuiet
import Derived.Laws.ResultCell
set_option linter.unusedVariables false
set_option linter.unusedSimpArgs false
namespace Go.Proofs.Ytilbefdeanhnpaa
open Go.RowKit
namespace Ep
open Er (dv cellV LF LF.of LF.nil LF.mono LF.q LF.put LF.shape LF.lst block_cells some_cells block_set wrapI num_shl okD_shl)
theorem SD.here {w u : World} {g : Bool} {v : Value} {s : Int} (k : SD w g v s u) : Q w u := by
  obtain ⟨_, _, _, _, _, _, _, _, _, _, _, hq⟩ := k
  exact hq
set_option maxHeartbeats 3200000 in
theorem times_pos (g : Bool) (v : Value) (s k : Nat) (L : List Int) (w : World) (hv : Lst w v L) (hl : L.length < 100000) (hd : Dm.okD L) (hs : s ≤ 1000) (hk : k ≤ 1000)  :
    Calls Try.prog 36 #[dv g v s, .int .i64 (k : Int)] w fun e w' => ∃ u, e = .returned (.tuple #[dv (Dm.cg g (Dm.num L * k)) u ((Dm.st (Dm.num L * k) s).2 : Nat), .int .i64 0]) ∧ LF w' (w.heap.size + 2) u (Dm.dg (Dm.st (Dm.num L * k) s).1) ∧ Q w w' := by
  obtain ⟨a, c, rfl⟩ := hv.shape
  have hok := (Dm.okB_iff L).2 hd
  have MA := Lib.hid (fun u (k : SD w g (.slice a L.length c) s u) => (by
    have e := may_any g (.slice a L.length c) s L u (hv.q k.here) (by omega) (by omega)
    rw [hok, show decide (0 ≤ (s : Int)) = true from by simp, show decide ((s : Int) ≤ 1000) = true from by simp; omega] at e
    refine e.mono ?_
    rintro e w' ⟨rfl, hq⟩
    exact ⟨rfl, k.q hq⟩ : Calls Try.prog 23 #[.agg #[.bool g, .slice a L.length c, .int .i64 s]] u fun e w' => e = .returned (.bool true) ∧ SD w g (.slice a L.length c) s w'))
  have TM := Lib.hid (fun u (h : SD w g (.slice a L.length c) s u) => (by
    refine (Dw.times_any _ L k u (hv.q h.here) (by omega) hd hk).mono ?_
    rintro e w' ⟨x, rfl, ho, hq⟩
    exact ⟨x, rfl, ho, h.q hq⟩ : Calls Try.prog 59 #[.slice a L.length c, .int .i64 (k : Int)] u fun e w' => ∃ x, e = .returned (.tuple #[x, .int .i64 0]) ∧ Lst w' x (Dm.dg (Dm.num L * k)) ∧ SD w g (.slice a L.length c) s w'))
  have hdl : (Dm.dg (Dm.num L * k)).length ≤ L.length + 4 := by
    refine Dm.dg_len_lt _ _ ?_
    have h1 := Dm.num_lt L hd
    have h2 : Dm.num L * k < 10 ^ L.length * 10 ^ 4 := by
      have h3 : Dm.num L * k ≤ Dm.num L * 1000 := Nat.mul_le_mul_left _ hk
      omega
    rwa [← Nat.pow_add] at h2
  have TR := Lib.hid (fun u x (hx : Lst u x (Dm.dg (Dm.num L * k))) (h : SD w g (.slice a L.length c) s u) => (by
    have e := trim_any g x s (Dm.dg (Dm.num L * k)) u hx (by omega) (Dm.okD_dg _) (by omega)
    rw [Dm.num_dg] at e
    refine e.mono ?_
    rintro e w' ⟨x, rfl, ho, hq⟩
    obtain ⟨ya, yc, rfl⟩ := ho.shape
    exact ⟨ya, yc, rfl, ho.mono (by have := h.room; omega), h.q hq⟩ : Calls Try.prog 26 #[.agg #[.bool g, x, .int .i64 s]] u fun e w' => ∃ ya yc, e = .returned (.agg #[.bool (Dm.cg g (Dm.num L * k)), .slice ya (Dm.dg (Dm.st (Dm.num L * k) s).1).length yc, .int .i64 ((Dm.st (Dm.num L * k) s).2 : Nat)]) ∧ LF w' (w.heap.size + 2) (.slice ya (Dm.dg (Dm.st (Dm.num L * k) s).1).length yc) (Dm.dg (Dm.st (Dm.num L * k) s).1) ∧ SD w g (.slice a L.length c) s w'))
  have HS := Lib.hid (SD.start w g (.slice a L.length c) s)
  generalize Dm.cg g (Dm.num L * k) = cs at *
  generalize Dm.dg (Dm.st (Dm.num L * k) s).1 = Z at *
  generalize (Dm.st (Dm.num L * k) s).2 = zs at *
  generalize Dm.dg (Dm.num L * k) = Y at *
  generalize L.length = n at *
  generalize Z.length = r at *
  have PUT := Lib.hid (fun u (h : SD w g (.slice a n c) s u) x y z => h.put x y z)
  clear hv hok hdl
  have hi1 : ¬ (k : Int) < 0 := by omega
  have hi2 : -1000 ≤ (k : Int) := by omega
  have hi3 : (k : Int) ≤ 1000 := by omega
  have hi5 : (-(k : Int)) ≤ (k : Int) := by omega
  have hi6 : ¬ (k : Int) < (-(k : Int)) := by omega
  cases g
  all_goals
    go_enter Try.func36, Try.ntmps36
    unfold dv
    go_wp2_with fail
    refine (MA.out _ HS.out).mono ?_
    rintro e w1 ⟨rfl, hS⟩
    have HS1 := Lib.hid hS
    unfold SD at hS
    obtain ⟨a0, a1, a2, b0, b1, b2, b3, b4, b5, _, _, _⟩ := hS
    go_wp2_with fail
    refine (TM.out _ HS1.out).mono ?_
    rintro e w2 ⟨x, rfl, hx, hS⟩
    obtain ⟨xa, xc, rfl⟩ := hx.shape
    generalize Y.length = y at *
    have HX := Lib.hid hx
    have HS2 := Lib.hid hS
    clear a0 a1 a2 b0 b1 b2 b3 b4 b5 hx
    unfold SD at hS
    obtain ⟨a0, a1, a2, b0, b1, b2, b3, b4, b5, _, _, _⟩ := hS
    go_wp2_with fail
    refine (TR.out _ _ HX.out HS2.out).mono ?_
    rintro e w3 ⟨ya, yc, rfl, hlf, hS⟩
    have hfin := PUT.out w3 hS (.bool cs) (.slice ya r yc) (.int .i64 zs)
    have hlf2 := hlf.put (r := w.heap.size + 1) (Nat.lt_succ_self _) (.bool cs) (.slice ya r yc) (.int .i64 zs)
    have HF := Lib.hid hfin.2
    have HO := Lib.hid hlf2
    have HQ := Lib.hid hfin.1.here
    clear a0 a1 a2 b0 b1 b2 b3 b4 b5 hfin hlf2 hlf
    unfold SD at hS
    obtain ⟨a0, a1, a2, b0, b1, b2, b3, b4, b5, _, _, _⟩ := hS
    go_wp2_with fail
    exact ret_dv2 rfl rfl rfl HF.out rfl ⟨_, rfl, HO.out, HQ.out⟩

set_option maxHeartbeats 3200000 in
theorem times_neg (g : Bool) (v : Value) (s k : Nat) (L : List Int) (w : World) (hv : Lst w v L) (hl : L.length < 100000) (hd : Dm.okD L) (hs : s ≤ 1000) (hk : k ≤ 1000) (hk0 : 0 < k) :
    Calls Try.prog 36 #[dv g v s, .int .i64 (-(k : Int))] w fun e w' => ∃ u, e = .returned (.tuple #[dv (Dm.cg (!g) (Dm.num L * k)) u ((Dm.st (Dm.num L * k) s).2 : Nat), .int .i64 0]) ∧ LF w' (w.heap.size + 2) u (Dm.dg (Dm.st (Dm.num L * k) s).1) ∧ Q w w' := by
  obtain ⟨a, c, rfl⟩ := hv.shape
  have hok := (Dm.okB_iff L).2 hd
  have MA := Lib.hid (fun u (k : SD w g (.slice a L.length c) s u) => (by
    have e := may_any g (.slice a L.length c) s L u (hv.q k.here) (by omega) (by omega)
    rw [hok, show decide (0 ≤ (s : Int)) = true from by simp, show decide ((s : Int) ≤ 1000) = true from by simp; omega] at e
    refine e.mono ?_
    rintro e w' ⟨rfl, hq⟩
    exact ⟨rfl, k.q hq⟩ : Calls Try.prog 23 #[.agg #[.bool g, .slice a L.length c, .int .i64 s]] u fun e w' => e = .returned (.bool true) ∧ SD w g (.slice a L.length c) s w'))
  have TM := Lib.hid (fun u (h : SD w g (.slice a L.length c) s u) => (by
    refine (Dw.times_any _ L k u (hv.q h.here) (by omega) hd hk).mono ?_
    rintro e w' ⟨x, rfl, ho, hq⟩
    exact ⟨x, rfl, ho, h.q hq⟩ : Calls Try.prog 59 #[.slice a L.length c, .int .i64 (k : Int)] u fun e w' => ∃ x, e = .returned (.tuple #[x, .int .i64 0]) ∧ Lst w' x (Dm.dg (Dm.num L * k)) ∧ SD w g (.slice a L.length c) s w'))
  have hdl : (Dm.dg (Dm.num L * k)).length ≤ L.length + 4 := by
    refine Dm.dg_len_lt _ _ ?_
    have h1 := Dm.num_lt L hd
    have h2 : Dm.num L * k < 10 ^ L.length * 10 ^ 4 := by
      have h3 : Dm.num L * k ≤ Dm.num L * 1000 := Nat.mul_le_mul_left _ hk
      omega
    rwa [← Nat.pow_add] at h2
  have TR := Lib.hid (fun u x (hx : Lst u x (Dm.dg (Dm.num L * k))) (h : SD w g (.slice a L.length c) s u) => (by
    have e := trim_any (!g) x s (Dm.dg (Dm.num L * k)) u hx (by omega) (Dm.okD_dg _) (by omega)
    rw [Dm.num_dg] at e
    refine e.mono ?_
    rintro e w' ⟨x, rfl, ho, hq⟩
    obtain ⟨ya, yc, rfl⟩ := ho.shape
    exact ⟨ya, yc, rfl, ho.mono (by have := h.room; omega), h.q hq⟩ : Calls Try.prog 26 #[.agg #[.bool (!g), x, .int .i64 s]] u fun e w' => ∃ ya yc, e = .returned (.agg #[.bool (Dm.cg (!g) (Dm.num L * k)), .slice ya (Dm.dg (Dm.st (Dm.num L * k) s).1).length yc, .int .i64 ((Dm.st (Dm.num L * k) s).2 : Nat)]) ∧ LF w' (w.heap.size + 2) (.slice ya (Dm.dg (Dm.st (Dm.num L * k) s).1).length yc) (Dm.dg (Dm.st (Dm.num L * k) s).1) ∧ SD w g (.slice a L.length c) s w'))
  have HS := Lib.hid (SD.start w g (.slice a L.length c) s)
  generalize Dm.cg (!g) (Dm.num L * k) = cs at *
  generalize Dm.dg (Dm.st (Dm.num L * k) s).1 = Z at *
  generalize (Dm.st (Dm.num L * k) s).2 = zs at *
  generalize Dm.dg (Dm.num L * k) = Y at *
  generalize L.length = n at *
  generalize Z.length = r at *
  have PUT := Lib.hid (fun u (h : SD w g (.slice a n c) s u) x y z => h.put x y z)
  clear hv hok hdl
  have hi1 : (-(k : Int)) < 0 := by omega
  have hi2 : ¬ (-(k : Int)) < -1000 := by omega
  have hi3 : (-(k : Int)) ≤ 1000 := by omega
  have hi4 : -1000 ≤ (-(k : Int)) := by omega
  have hi5 : (-(k : Int)) ≤ (k : Int) := by omega
  have hi6 : ¬ (k : Int) < (-(k : Int)) := by omega
  have hi7 : (-(k : Int)) < (k : Int) := by omega
  cases g
  all_goals
    go_enter Try.func36, Try.ntmps36
    unfold dv
    go_wp2_with fail
    refine (MA.out _ HS.out).mono ?_
    rintro e w1 ⟨rfl, hS⟩
    have HS1 := Lib.hid hS
    unfold SD at hS
    obtain ⟨a0, a1, a2, b0, b1, b2, b3, b4, b5, _, _, _⟩ := hS
    go_wp2_with fail
    refine (TM.out _ HS1.out).mono ?_
    rintro e w2 ⟨x, rfl, hx, hS⟩
    obtain ⟨xa, xc, rfl⟩ := hx.shape
    generalize Y.length = y at *
    have HX := Lib.hid hx
    have HS2 := Lib.hid hS
    clear a0 a1 a2 b0 b1 b2 b3 b4 b5 hx
    unfold SD at hS
    obtain ⟨a0, a1, a2, b0, b1, b2, b3, b4, b5, _, _, _⟩ := hS
    go_wp2_with fail
    refine (TR.out _ _ HX.out HS2.out).mono ?_
    rintro e w3 ⟨ya, yc, rfl, hlf, hS⟩
    have hfin := PUT.out w3 hS (.bool cs) (.slice ya r yc) (.int .i64 zs)
    have hlf2 := hlf.put (r := w.heap.size + 1) (Nat.lt_succ_self _) (.bool cs) (.slice ya r yc) (.int .i64 zs)
    have HF := Lib.hid hfin.2
    have HO := Lib.hid hlf2
    have HQ := Lib.hid hfin.1.here
    clear a0 a1 a2 b0 b1 b2 b3 b4 b5 hfin hlf2 hlf
    unfold SD at hS
    obtain ⟨a0, a1, a2, b0, b1, b2, b3, b4, b5, _, _, _⟩ := hS
    go_wp2_with fail
    exact ret_dv2 rfl rfl rfl HF.out rfl ⟨_, rfl, HO.out, HQ.out⟩

set_option maxHeartbeats 1600000 in
theorem times_bad (g : Bool) (v : Value) (s k : Int) (L : List Int) (w : World) (hv : Lst w v L) (hl : L.length < 1000000) (hs : -9223372036854775808 ≤ s ∧ s ≤ 9223372036854775807) (hb : (Dm.okB L && decide (0 ≤ s) && decide (s ≤ 1000)) = false) :
    Calls Try.prog 36 #[dv g v s, .int .i64 k] w fun e w' => e = .returned (.tuple #[dv false (.slice none 0 0) 0, .int .i64 1]) ∧ Q w w' := by
  obtain ⟨a, c, rfl⟩ := hv.shape
  have M := Lib.hid (fun u (h : SD w g (.slice a L.length c) s u) => (by
    have e := may_any g (.slice a L.length c) s L u (hv.q h.2.2.2.2.2.2.2.2.2.2.2) (by omega) hs
    rw [hb] at e
    refine e.mono ?_
    rintro e w' ⟨rfl, hq⟩
    exact ⟨rfl, h.q hq⟩ : Calls Try.prog 23 #[.agg #[.bool g, .slice a L.length c, .int .i64 s]] u fun e w' => e = .returned (.bool false) ∧ SD w g (.slice a L.length c) s w'))
  have HS := Lib.hid (SD.start w g (.slice a L.length c) s)
  have PUT := Lib.hid (fun u (h : SD w g (.slice a L.length c) s u) x y z => h.put x y z)
  generalize L.length = n at *
  clear hv hb
  go_enter Try.func36, Try.ntmps36
  unfold dv
  go_wp2_with fail
  refine (M.out _ HS.out).mono ?_
  rintro e w1 ⟨rfl, hS⟩
  have hfin := PUT.out w1 hS (.bool false) (.slice none 0 0) (.int .i64 0)
  have HF := Lib.hid hfin.2
  have hqf : Q w _ := hfin.1.2.2.2.2.2.2.2.2.2.2.2
  have HQ := Lib.hid hqf
  unfold SD at hS
  obtain ⟨a0, a1, a2, b0, b1, b2, b3, b4, b5, _, _, _⟩ := hS
  clear hfin hqf
  go_wp2_with fail
  exact ret_dv2 rfl rfl rfl HF.out rfl ⟨rfl, HQ.out⟩

set_option maxHeartbeats 1600000 in
theorem times_far (g : Bool) (v : Value) (s k : Int) (L : List Int) (w : World) (hv : Lst w v L) (hl : L.length < 1000000) (hs : -9223372036854775808 ≤ s ∧ s ≤ 9223372036854775807) (hb : (Dm.okB L && decide (0 ≤ s) && decide (s ≤ 1000)) = true) (hk : k < -1000 ∨ 1000 < k) :
    Calls Try.prog 36 #[dv g v s, .int .i64 k] w fun e w' => e = .returned (.tuple #[dv false (.slice none 0 0) 0, .int .i64 3]) ∧ Q w w' := by
  obtain ⟨a, c, rfl⟩ := hv.shape
  have M := Lib.hid (fun u (h : SD w g (.slice a L.length c) s u) => (by
    have e := may_any g (.slice a L.length c) s L u (hv.q h.2.2.2.2.2.2.2.2.2.2.2) (by omega) hs
    rw [hb] at e
    refine e.mono ?_
    rintro e w' ⟨rfl, hq⟩
    exact ⟨rfl, h.q hq⟩ : Calls Try.prog 23 #[.agg #[.bool g, .slice a L.length c, .int .i64 s]] u fun e w' => e = .returned (.bool true) ∧ SD w g (.slice a L.length c) s w'))
  have HS := Lib.hid (SD.start w g (.slice a L.length c) s)
  have PUT := Lib.hid (fun u (h : SD w g (.slice a L.length c) s u) x y z => h.put x y z)
  generalize L.length = n at *
  clear hv hb
  go_enter Try.func36, Try.ntmps36
  unfold dv
  go_wp2_with fail
  refine (M.out _ HS.out).mono ?_
  rintro e w1 ⟨rfl, hS⟩
  have hfin := PUT.out w1 hS (.bool false) (.slice none 0 0) (.int .i64 0)
  have HF := Lib.hid hfin.2
  have hqf : Q w _ := hfin.1.2.2.2.2.2.2.2.2.2.2.2
  have HQ := Lib.hid hqf
  unfold SD at hS
  obtain ⟨a0, a1, a2, b0, b1, b2, b3, b4, b5, _, _, _⟩ := hS
  clear hfin hqf
  rcases hk with hk | hk
  · go_wp2_with fail
    exact ret_dv2 rfl rfl rfl HF.out rfl ⟨rfl, HQ.out⟩
  · have hk2 : ¬ k < -1000 := by omega
    have hk3 : -1000 ≤ k := by omega
    go_wp2_with fail
    exact ret_dv2 rfl rfl rfl HF.out rfl ⟨rfl, HQ.out⟩

set_option maxHeartbeats 1600000 in
theorem align_bad (g : Bool) (v : Value) (s k : Int) (L : List Int) (w : World) (hv : Lst w v L) (hl : L.length < 1000000) (hs : -9223372036854775808 ≤ s ∧ s ≤ 9223372036854775807) (hb : (Dm.okB L && decide (0 ≤ s) && decide (s ≤ 1000)) = false) :
    Calls Try.prog 38 #[dv g v s, .int .i64 k] w fun e w' => e = .returned (.tuple #[dv false (.slice none 0 0) 0, .int .i64 1]) ∧ Q w w' := by
  obtain ⟨a, c, rfl⟩ := hv.shape
  have M := Lib.hid (fun u (h : SD w g (.slice a L.length c) s u) => (by
    have e := may_any g (.slice a L.length c) s L u (hv.q h.2.2.2.2.2.2.2.2.2.2.2) (by omega) hs
    rw [hb] at e
    refine e.mono ?_
    rintro e w' ⟨rfl, hq⟩
    exact ⟨rfl, h.q hq⟩ : Calls Try.prog 23 #[.agg #[.bool g, .slice a L.length c, .int .i64 s]] u fun e w' => e = .returned (.bool false) ∧ SD w g (.slice a L.length c) s w'))
  have HS := Lib.hid (SD.start w g (.slice a L.length c) s)
  have PUT := Lib.hid (fun u (h : SD w g (.slice a L.length c) s u) x y z => h.put x y z)
  generalize L.length = n at *
  clear hv hb
  go_enter Try.func38, Try.ntmps38
  unfold dv
  go_wp2_with fail
  refine (M.out _ HS.out).mono ?_
  rintro e w1 ⟨rfl, hS⟩
  have hfin := PUT.out w1 hS (.bool false) (.slice none 0 0) (.int .i64 0)
  have HF := Lib.hid hfin.2
  have hqf : Q w _ := hfin.1.2.2.2.2.2.2.2.2.2.2.2
  have HQ := Lib.hid hqf
  unfold SD at hS
  obtain ⟨a0, a1, a2, b0, b1, b2, b3, b4, b5, _, _, _⟩ := hS
  clear hfin hqf
  go_wp2_with fail
  exact ret_dv2 rfl rfl rfl HF.out rfl ⟨rfl, HQ.out⟩

set_option maxHeartbeats 3200000 in
theorem add_bad (g h : Bool) (va vb : Value) (s t : Int) (xs ys : List Int) (w : World) (hv : Lst w va xs) (hu : Lst w vb ys) (hl : xs.length < 1000000) (hl2 : ys.length < 1000000) (hs : -9223372036854775808 ≤ s ∧ s ≤ 9223372036854775807) (ht : -9223372036854775808 ≤ t ∧ t ≤ 9223372036854775807)
    (hb : (Dm.okB xs && decide (0 ≤ s) && decide (s ≤ 1000)) = false ∨ (Dm.okB ys && decide (0 ≤ t) && decide (t ≤ 1000)) = false) :
    Calls Try.prog 32 #[dv g va s, dv h vb t] w fun e w' => e = .returned (.tuple #[dv false (.slice none 0 0) 0, .int .i64 1]) ∧ Q w w' := by
  obtain ⟨a, c, rfl⟩ := hv.shape
  obtain ⟨b, d, rfl⟩ := hu.shape
  have M1 := Lib.hid (fun u (q : Q w u) => (may_any g (.slice a xs.length c) s xs u (hv.q q) (by omega) hs : Calls Try.prog 23 #[.agg #[.bool g, .slice a xs.length c, .int .i64 s]] u fun e w' => e = .returned (.bool (Dm.okB xs && decide (0 ≤ s) && decide (s ≤ 1000))) ∧ Q u w'))
  have M2 := Lib.hid (fun u (q : Q w u) => (may_any h (.slice b ys.length d) t ys u (hu.q q) (by omega) ht : Calls Try.prog 23 #[.agg #[.bool h, .slice b ys.length d, .int .i64 t]] u fun e w' => e = .returned (.bool (Dm.okB ys && decide (0 ≤ t) && decide (t ≤ 1000))) ∧ Q u w'))
  have HS := Lib.hid (SE.start w g (.slice a xs.length c) s h (.slice b ys.length d) t)
  have PUT := Lib.hid (fun u (k : SE w g (.slice a xs.length c) s h (.slice b ys.length d) t u) x y z => k.put x y z)
  have SQ := Lib.hid (fun u u' (k : SE w g (.slice a xs.length c) s h (.slice b ys.length d) t u) (q : Q u u') => k.q q)
  generalize (Dm.okB xs && decide (0 ≤ s) && decide (s ≤ 1000)) = r1 at *
  generalize (Dm.okB ys && decide (0 ≤ t) && decide (t ≤ 1000)) = r2 at *
  generalize xs.length = n at *
  generalize ys.length = m at *
  clear hv hu
  have hr : r1 = false ∨ (r1 = true ∧ r2 = false) := by cases r1 <;> cases r2 <;> simp at hb ⊢
  clear hb
  rcases hr with rfl | ⟨rfl, rfl⟩
  · go_enter Try.func32, Try.ntmps32
    unfold dv
    go_wp2_with fail
    refine (M1.out _ HS.out.here).mono ?_
    rintro e z1 ⟨rfl, hq⟩
    have hS := SQ.out _ _ HS.out hq
    have hfin := PUT.out z1 hS (.bool false) (.slice none 0 0) (.int .i64 0)
    have HF := Lib.hid hfin.2
    have HQ := Lib.hid hfin.1.here
    clear hq hfin
    unfold SE at hS
    obtain ⟨a0, a1, a2, b0, b1, b2, c0, c1, c2, c3, c4, c5, _⟩ := hS
    go_wp2_with fail
    exact ret_dv2 rfl rfl rfl HF.out rfl ⟨rfl, HQ.out⟩
  · go_enter Try.func32, Try.ntmps32
    unfold dv
    go_wp2_with fail
    refine (M1.out _ HS.out.here).mono ?_
    rintro e z1 ⟨rfl, hq⟩
    have HS1 := Lib.hid (SQ.out _ _ HS.out hq)
    have hS := HS1.out
    unfold SE at hS
    obtain ⟨a0, a1, a2, b0, b1, b2, _⟩ := hS
    clear hq
    go_wp2_with fail
    refine (M2.out _ HS1.out.here).mono ?_
    rintro e z2 ⟨rfl, hq⟩
    have hS := SQ.out _ _ HS1.out hq
    have hfin := PUT.out z2 hS (.bool false) (.slice none 0 0) (.int .i64 0)
    have HF := Lib.hid hfin.2
    have HQ := Lib.hid hfin.1.here
    clear hq a0 a1 a2 b0 b1 b2 hfin
    unfold SE at hS
    obtain ⟨a0, a1, a2, b0, b1, b2, c0, c1, c2, c3, c4, c5, _⟩ := hS
    go_wp2_with fail
    exact ret_dv2 rfl rfl rfl HF.out rfl ⟨rfl, HQ.out⟩
set_option maxHeartbeats 3200000 in
theorem sub_via (g h : Bool) (va vb : Value) (s t : Int) (xs ys : List Int) (w : World) (hv : Lst w va xs) (hu : Lst w vb ys) (x : Bool) (k er : Int) (L : List Int)
    (HA : ∀ u, Q w u → w.heap.size + 3 ≤ u.heap.size → Calls Try.prog 32 #[dv g va s, dv (!h) vb t] u fun e w' => ∃ z, e = .returned (.tuple #[dv x z k, .int .i64 er]) ∧ LF w' (w.heap.size + 3) z L ∧ Q u w') :
    Calls Try.prog 34 #[dv g va s, dv h vb t] w fun e w' => ∃ z, e = .returned (.tuple #[dv x z k, .int .i64 er]) ∧ LF w' (w.heap.size + 3) z L ∧ Q w w' := by
  obtain ⟨a, c, rfl⟩ := hv.shape
  obtain ⟨b, d, rfl⟩ := hu.shape
  unfold dv at HA
  have H := Lib.hid HA
  generalize xs.length = n at *
  generalize ys.length = m at *
  clear hv hu HA
  go_enter Try.func34, Try.ntmps34
  unfold dv
  go_wp2_with fail
  refine (H.out _ ((((Q.refl w).alloc _).alloc _).alloc _) (by simp)).mono ?_
  rintro e w1 ⟨z, rfl, hlf, hq⟩
  have hS := (SE.start w g (.slice a n c) s (!h) (.slice b m d) t).q hq
  obtain ⟨za, zc, rfl⟩ := hlf.shape
  generalize L.length = l at *
  have hfin := hS.put (.bool x) (.slice za l zc) (.int .i64 k)
  have hlf2 := hlf.put (r := w.heap.size + 2) (Nat.lt_succ_self _) (.bool x) (.slice za l zc) (.int .i64 k)
  have HF := Lib.hid hfin.2
  have HO := Lib.hid hlf2
  have HQ := Lib.hid hfin.1.here
  clear hfin hlf2 hlf hq
  unfold SE at hS
  obtain ⟨a0, a1, a2, b0, b1, b2, c0, c1, c2, c3, c4, c5, _, _, _, _⟩ := hS
  go_wp2_with fail
  exact ret_dv2 rfl rfl rfl HF.out rfl ⟨_, rfl, HO.out, HQ.out⟩
theorem sub_any (g h : Bool) (va vb : Value) (s t : Nat) (xs ys : List Int) (w : World) (hv : Lst w va xs) (hu : Lst w vb ys) (hl : xs.length < 10000) (hl2 : ys.length < 10000) (hx : Dm.okD xs) (hy : Dm.okD ys) (hs : s ≤ 1000) (ht : t ≤ 1000) :
    Calls Try.prog 34 #[dv g va s, dv h vb t] w fun e w' => ∃ u, e = .returned (.tuple #[dv (Dm.cg (Dm.adG g (Dm.num xs * 10 ^ (max s t - s)) (!h) (Dm.num ys * 10 ^ (max s t - t))) (Dm.adM g (Dm.num xs * 10 ^ (max s t - s)) (!h) (Dm.num ys * 10 ^ (max s t - t)))) u ((Dm.st (Dm.adM g (Dm.num xs * 10 ^ (max s t - s)) (!h) (Dm.num ys * 10 ^ (max s t - t))) (max s t)).2 : Nat), .int .i64 0]) ∧ LF w' (w.heap.size + 3) u (Dm.dg (Dm.st (Dm.adM g (Dm.num xs * 10 ^ (max s t - s)) (!h) (Dm.num ys * 10 ^ (max s t - t))) (max s t)).1) ∧ Q w w' := by
  refine sub_via g h va vb s t xs ys w hv hu _ _ _ _ fun u hq hr => ?_
  refine (add_any g (!h) va vb s t xs ys u (hv.q hq) (hu.q hq) hl hl2 hx hy hs ht).mono ?_
  rintro e w' ⟨z, rfl, hz, hq2⟩
  exact ⟨z, rfl, hz.mono (by omega), hq2⟩
theorem sub_bad (g h : Bool) (va vb : Value) (s t : Int) (xs ys : List Int) (w : World) (hv : Lst w va xs) (hu : Lst w vb ys) (hl : xs.length < 1000000) (hl2 : ys.length < 1000000) (hs : -9223372036854775808 ≤ s ∧ s ≤ 9223372036854775807) (ht : -9223372036854775808 ≤ t ∧ t ≤ 9223372036854775807)
    (hb : (Dm.okB xs && decide (0 ≤ s) && decide (s ≤ 1000)) = false ∨ (Dm.okB ys && decide (0 ≤ t) && decide (t ≤ 1000)) = false) :
    Calls Try.prog 34 #[dv g va s, dv h vb t] w fun e w' => ∃ z, e = .returned (.tuple #[dv false z 0, .int .i64 1]) ∧ LF w' (w.heap.size + 3) z [] ∧ Q w w' := by
  refine sub_via g h va vb s t xs ys w hv hu _ _ _ _ fun u hq hr => ?_
  refine (add_bad g (!h) va vb s t xs ys u (hv.q hq) (hu.q hq) hl hl2 hs ht hb).mono ?_
  rintro e w' ⟨rfl, hq2⟩
  exact ⟨_, rfl, LF.nil _ _, hq2⟩
end Ep
end Go.Proofs.Ytilbefdeanhnpaa
