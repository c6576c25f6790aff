/- The document's own rounding: the next decimal of a scale, one of its last place. -/
import Derived.Test.YtebcgpoemppljaaRows
import Derived.Test.YtebcgpoemppljaaDigL
import Derived.Test.YtebcgpoemppljaaDecM
import Derived.Test.YtebcgpoemppljaaInts
import Derived.Test.YtebcgpoemppljaaSto
import Derived.Test.YtebcgpoemppljaaDigR
import Derived.Test.YtebcgpoemppljaaDigS
import Derived.Test.YtebcgpoemppljaaDigO
import Derived.Test.YtebcgpoemppljaaDecR
import Derived.Test.YtebcgpoemppljaaDecS
import Derived.Test.YtebcgpoemppljaaDecC
import Derived.Test.YtebcgpoemppljaaDecF
import Derived.Test.YtebcgpoemppljaaRndM
import Derived.Deep.QuietTactic
import Derived.Deep.RegionWith
import Derived.Deep.RegionHeld3
import Derived.BigQuiet
import Derived.Laws.ResultCell
set_option linter.unusedVariables false
set_option linter.unusedSimpArgs false
namespace Go.Proofs.Ytebcgpoemppljaa
open Go.RowKit
namespace Rr
open Er (dv cellV LF LF.of LF.nil LF.mono LF.q LF.put LF.shape LF.lst block_cells some_cells block_set wrapI SD SD.q SD.put SD.start SA SA.start SA.q SA.put ret_dv ret_dv2 trim_sh)
set_option maxHeartbeats 3200000 in
theorem near_any (g : Bool) (v : Value) (s n : Nat) (L : List Int) (w : World) (hv : Lst w v L) (hl : L.length < 10000) (hd : Dm.okD L) (hs : s ≤ 1000) (hn : n ≤ 1000) :
    Calls Try.prog 37 #[dv g v s, .int .i64 n] w fun e w' => ∃ u, e = .returned (dv (Dm.cg g (Rm.lo (Dm.st (Dm.num L) s).1 (Dm.st (Dm.num L) s).2 n)) u n) ∧ LF w' (w.heap.size + 2) u (Dm.dg (Rm.lo (Dm.st (Dm.num L) s).1 (Dm.st (Dm.num L) s).2 n)) ∧ Q w w' := by
  obtain ⟨a, c, rfl⟩ := hv.shape
  have R := Lib.hid (fun u (h : SD w g (.slice a L.length c) s u) => (by
    refine (trim_sh g (.slice a L.length c) s L u (hv.q h.2.2.2.2.2.2.2.2.2.2.2) (by omega) hd (by omega)).mono ?_
    rintro e w' ⟨ya, yc, rfl, ho, hq⟩
    exact ⟨ya, yc, rfl, ho.lst, h.q hq⟩ : Calls Try.prog 19 #[.agg #[.bool g, .slice a L.length c, .int .i64 s]] u fun e w' => ∃ ya yc, e = .returned (.agg #[.bool (Dm.cg g (Dm.num L)), .slice ya (Dm.dg (Dm.st (Dm.num L) s).1).length yc, .int .i64 ((Dm.st (Dm.num L) s).2 : Nat)]) ∧ Lst w' (.slice ya (Dm.dg (Dm.st (Dm.num L) s).1).length yc) (Dm.dg (Dm.st (Dm.num L) s).1) ∧ SD w g (.slice a L.length c) s w'))
  have HS := Lib.hid (SD.start w g (.slice a L.length c) s)
  have hzs := Dm.st_le (Dm.num L) s
  have hb1 : (Dm.dg (Dm.st (Dm.num L) s).1).length ≤ L.length := by
    refine Nat.le_trans (Dm.dg_len_le _ _ ?_) (Dm.dg_len L hd)
    have h1 := Dm.st_num (Dm.num L) s
    have h2 : 0 < 10 ^ (s - (Dm.st (Dm.num L) s).2) := Nat.pow_pos (by omega)
    calc (Dm.st (Dm.num L) s).1 = (Dm.st (Dm.num L) s).1 * 1 := by rw [Nat.mul_one]
      _ ≤ (Dm.st (Dm.num L) s).1 * 10 ^ (s - (Dm.st (Dm.num L) s).2) := Nat.mul_le_mul_left _ h2
      _ = Dm.num L := h1
  have hz0 := Dm.st_eq0 (Dm.num L) s
  have hcg : Dm.cg g (Dm.num L) = Dm.cg g (Dm.st (Dm.num L) s).1 := (Dm.cg_st g (Dm.num L) s).symm
  rw [hcg] at R
  clear hcg hz0
  generalize (Dm.st (Dm.num L) s).2 = zs at *
  generalize (Dm.st (Dm.num L) s).1 = A at *
  have hnt := Rm.num_to A zs n
  have hlz : Rm.lo 0 zs n = 0 := Rm.lo_zero zs n
  obtain ⟨k, hk⟩ : ∃ k : Int, k = (n : Int) - (zs : Int) := ⟨_, rfl⟩
  rw [← hk] at hnt
  have hsl := Dm.shl_len (Dm.dg A) k
  have SH := Lib.hid (fun v T g0 v0 s0 u (h : Lst u v (Dm.dg A)) (q : SA w T g0 v0 s0 u) => (by
    refine (Dr.shift_any v (Dm.dg A) k u h (by omega) (by omega)).mono ?_
    rintro e w' ⟨x, rfl, ho, hq⟩
    obtain ⟨e1, e2, rfl⟩ := ho.shape
    exact ⟨e1, e2, rfl, ho.lst, q.q hq⟩ : Calls Try.prog 42 #[v, .int .i64 k] u fun e w' => ∃ e1 e2, e = .returned (.slice e1 (Dm.shl (Dm.dg A) k).length e2) ∧ Lst w' (.slice e1 (Dm.shl (Dm.dg A) k).length e2) (Dm.shl (Dm.dg A) k) ∧ SA w T g0 v0 s0 w'))
  have TR := Lib.hid (fun v T g0 v0 s0 u (h : Lst u v (Dm.shl (Dm.dg A) k)) (q : SA w T g0 v0 s0 u) => (by
    have htr := Dm.trim_eq (Dm.shl (Dm.dg A) k) hnt.2
    rw [hnt.1] at htr
    refine (Dr.trim_any v _ u h (by omega)).mono ?_
    rintro e w' ⟨x, rfl, ho, hq⟩
    rw [htr] at ho
    obtain ⟨e1, e2, rfl⟩ := ho.shape
    exact ⟨e1, e2, rfl, LF.of (ho.mono q.room), q.q hq⟩ : Calls Try.prog 40 #[v] u fun e w' => ∃ e1 e2, e = .returned (.slice e1 (Dm.dg (Rm.lo A zs n)).length e2) ∧ LF w' (w.heap.size + 2) (.slice e1 (Dm.dg (Rm.lo A zs n)).length e2) (Dm.dg (Rm.lo A zs n)) ∧ SA w T g0 v0 s0 w'))
  have hY : (Dm.dg (Rm.lo A zs n)).length = 0 ↔ Rm.lo A zs n = 0 := by
    rw [List.length_eq_zero_iff]
    exact Dm.dg_nil _
  have hfl : ∃ f : Bool, f = Dm.cg g (Rm.lo A zs n) ∧ ((Dm.cg g A = false ∧ f = false) ∨ (Dm.cg g A = true ∧ 0 < (Dm.dg (Rm.lo A zs n)).length ∧ f = true) ∨ (Dm.cg g A = true ∧ (Dm.dg (Rm.lo A zs n)).length = 0 ∧ f = false)) := by
    refine ⟨_, rfl, ?_⟩
    by_cases h0 : Rm.lo A zs n = 0
    · rw [h0, Dm.cg_zero]
      cases hc : Dm.cg g A
      · exact .inl ⟨rfl, rfl⟩
      · exact .inr (.inr ⟨rfl, by rw [Dm.dg_zero]; rfl, rfl⟩)
    · have hA : A ≠ 0 := by rintro rfl; exact h0 hlz
      rw [Dm.cg_pos h0, Dm.cg_pos hA]
      cases g
      · exact .inl ⟨rfl, rfl⟩
      · exact .inr (.inl ⟨rfl, by have := mt hY.1 h0; omega, rfl⟩)
  obtain ⟨f, hf, hfl⟩ := hfl
  rw [← hf]
  generalize Dm.dg (Rm.lo A zs n) = Y at *
  generalize Dm.shl (Dm.dg A) k = PX at *
  generalize Dm.cg g A = cs at *
  generalize Dm.dg A = Z at *
  obtain ⟨r, hr⟩ : ∃ r, Y.length = r := ⟨_, rfl⟩
  rw [hr] at hfl TR
  have HR := Lib.hid hr
  generalize PX.length = m at *
  generalize Z.length = p at *
  clear hb1 hsl hnt hlz hY hf hr
  generalize L.length = l at *
  clear hv hd
  go_enter Try.func37, Try.ntmps37
  unfold dv
  go_wp2_with fail
  refine (R.out _ HS.out).mono ?_
  rintro e z1 ⟨xa, xc, rfl, hlx, hS⟩
  have HA := Lib.hid (SA.start hS cs (.slice xa p xc) zs)
  have HLX := Lib.hid (hlx.q ((Q.refl z1).alloc (.cells #[.bool cs, .slice xa p xc, .int .i64 zs] 24)))
  clear hS hlx
  have hA := HA.out
  unfold SA at hA
  obtain ⟨a0, a1, a2, b0, b1, b2, b3, b4, b5, _, _, _, _⟩ := hA
  have hw1 : IntKind.i64.wrap ((n : Int) - (zs : Int)) = k := by rw [wrapI (by omega) (by omega)]; exact hk.symm
  have hw2 : (n : Int) - (zs : Int) = k := hk.symm
  have HK := Lib.hid hk
  clear hk
  go_wp2_with fail
  refine (SH.out _ _ _ _ _ _ HLX.out HA.out).mono ?_
  rintro e z2 ⟨ya, yc, rfl, hlst, hS⟩
  have hT := TR.out _ _ _ _ _ _ hlst hS
  clear hlst hS a0 a1 a2 b0 b1 b2 b3 b4 b5
  go_wp2_with fail
  refine hT.mono ?_
  rintro e z3 ⟨ua, uc, rfl, hlf, hS⟩
  have hfin := hS.put (.bool f) (.slice ua r uc) (.int .i64 n)
  have hlf2 := hlf.put (r := w.heap.size + 1) (Nat.lt_succ_self _) (.bool f) (.slice ua r uc) (.int .i64 n)
  have hqf : Q w _ := hfin.1.2.2.2.2.2.2.2.2.2.2.2.2
  have HF := Lib.hid hfin.2
  have HO := Lib.hid hlf2
  have HQ := Lib.hid hqf
  clear hfin hlf2 hqf hlf hT
  unfold SA at hS
  obtain ⟨a0, a1, a2, b0, b1, b2, b3, b4, b5, _, _, _, _⟩ := hS
  rcases hfl with ⟨rfl, rfl⟩ | ⟨rfl, hr0, rfl⟩ | ⟨rfl, rfl, rfl⟩
  · go_wp2_with fail
    exact ret_dv rfl rfl HF.out rfl ⟨_, rfl, HO.out, HQ.out⟩
  · have hr1 : (0 : Int) < (r : Int) := by omega
    go_wp2_with fail
    exact ret_dv rfl rfl HF.out rfl ⟨_, rfl, HO.out, HQ.out⟩
  · go_wp2_with fail
    exact ret_dv rfl rfl HF.out rfl ⟨_, rfl, HO.out, HQ.out⟩
theorem one_any (g : Bool) (n : Nat) (w : World) :
    Calls Try.prog 38 #[.bool g, .int .i64 n] w fun e w' => ∃ a c, e = .returned (.agg #[.bool g, .slice a 1 c, .int .i64 n]) ∧ Lst w' (.slice a 1 c) [1] ∧ Q w w' := by
  go_enter Try.func38, Try.ntmps38
  go_wp2_with fail
  refine ret_dv rfl rfl (heap_alloc2_old _ _ _) rfl ⟨_, _, rfl, .inr ⟨w.heap.size + 1, 0, 1, rfl, by simp, by simp, by unfold maxLen; omega, fun i hi => ?_⟩, ((Q.refl w).alloc _).alloc _⟩
  have hi0 : i = 0 := by simp at hi; omega
  subst hi0
  have hb := heap_alloc2_new w (.cells #[.bool g, .slice (some ⟨w.heap.size + 1, 0, none⟩) 1 1, .int .i64 n] 24) (.cells #[.int .i64 1] 3)
  unfold World.cell?
  dsimp only
  rw [hb]
  rfl
end Rr
end Go.Proofs.Ytebcgpoemppljaa
