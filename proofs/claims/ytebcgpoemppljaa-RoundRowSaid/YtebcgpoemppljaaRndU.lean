/- The document's own rounding: of whatever decimal, scale and mode. -/
import Derived.Test.YtebcgpoemppljaaRows
import Derived.Test.YtebcgpoemppljaaDigL
import Derived.Test.YtebcgpoemppljaaDecM
import Derived.Test.YtebcgpoemppljaaInts
import Derived.Test.YtebcgpoemppljaaSto
import Derived.Test.YtebcgpoemppljaaDigR
import Derived.Test.YtebcgpoemppljaaDigS
import Derived.Test.YtebcgpoemppljaaDigO
import Derived.Test.YtebcgpoemppljaaDecR
import Derived.Test.YtebcgpoemppljaaDecS
import Derived.Test.YtebcgpoemppljaaDecC
import Derived.Test.YtebcgpoemppljaaDecF
import Derived.Test.YtebcgpoemppljaaRndM
import Derived.Test.YtebcgpoemppljaaRndR
import Derived.Test.YtebcgpoemppljaaRndC
import Derived.Test.YtebcgpoemppljaaDecY
import Derived.Test.YtebcgpoemppljaaDecA
import Derived.Test.YtebcgpoemppljaaDecB
import Derived.Test.YtebcgpoemppljaaRndT
import Derived.Test.YtebcgpoemppljaaRndS
import Derived.Deep.CutRange
import Derived.Deep.CutBlock
import Derived.Deep.DeepCutAuto
import Derived.Deep.QuietTactic
import Derived.Deep.RegionWith
import Derived.Deep.RegionHeld3
import Derived.BigQuiet
import Derived.Laws.ResultCell
set_option linter.unusedVariables false
set_option linter.unusedSimpArgs false
namespace Go.Proofs.Ytebcgpoemppljaa
open Go.RowKit
namespace Rr
open Er (dv cellV LF LF.of LF.nil LF.mono LF.q LF.put LF.shape LF.lst block_cells some_cells block_set wrapI SD SD.q SD.put SD.start SA SA.start SA.q SA.put ret_dv ret_dv2 trim_sh)
theorem tshut {e : Ending} {u w' : World} {B : Nat} {gr : Bool} {Z : List Int} {sr er : Int} (hB : u.heap.size ≤ B) (h : ∃ x, e = .returned (.tuple #[dv gr x sr, .int .i64 er]) ∧ LF w' B x Z ∧ Q u w') : ∃ a c, e = .returned (.tuple #[.agg #[.bool gr, .slice a Z.length c, .int .i64 sr], .int .i64 er]) ∧ LF w' u.heap.size (.slice a Z.length c) Z ∧ Q u w' := by
  obtain ⟨x, rfl, hx, hq⟩ := h
  obtain ⟨a, c, rfl⟩ := hx.shape
  exact ⟨a, c, rfl, hx.mono hB, hq⟩
theorem may_t (g : Bool) (s : Nat) (L : List Int) (hl : L.length < 10000) (hd : Dm.okD L) (hs : s ≤ 1000) : TM 36 g s L true := by
  intro u v hv
  have e := Er.may_any g v s L u hv (by omega) (by omega)
  rw [(Dm.okB_iff L).2 hd, show decide (0 ≤ (s : Int)) = true from by simp, show decide ((s : Int) ≤ 1000) = true from by simp; omega] at e
  exact e
theorem near_t (g : Bool) (s n : Nat) (L : List Int) (hl : L.length < 10000) (hd : Dm.okD L) (hs : s ≤ 1000) (hn : n ≤ 1000) : T0 37 g s n L (Dm.cg g (Rm.lo (Dm.st (Dm.num L) s).1 (Dm.st (Dm.num L) s).2 n)) (Dm.dg (Rm.lo (Dm.st (Dm.num L) s).1 (Dm.st (Dm.num L) s).2 n)) n := by
  intro u v hv
  refine (near_any g v s n L u hv hl hd hs hn).mono ?_
  rintro e w' ⟨x, rfl, hx, hq⟩
  obtain ⟨a, c, rfl⟩ := hx.shape
  exact ⟨a, c, rfl, hx.mono (by omega), hq⟩
theorem cmp_t (g h : Bool) (s t : Nat) (L N : List Int) (hl : L.length < 10000) (hl2 : N.length < 10000) (hx : Dm.okD L) (hy : Dm.okD N) (hs : s ≤ 1000) (ht : t ≤ 1000) : TC 21 g s L h t N (Dm.cmpD g (Dm.num L) s h (Dm.num N) t) :=
  fun u v x hv hu => Er.compare_any g h v x s t L N u hv hu hl hl2 hx hy hs ht
theorem add_t (g h : Bool) (s t : Nat) (L N : List Int) (hl : L.length < 10000) (hl2 : N.length < 10000) (hx : Dm.okD L) (hy : Dm.okD N) (hs : s ≤ 1000) (ht : t ≤ 1000) : T2 22 g s L h t N (Dm.cg (Dm.adG g (Dm.num L * 10 ^ (max s t - s)) h (Dm.num N * 10 ^ (max s t - t))) (Dm.adM g (Dm.num L * 10 ^ (max s t - s)) h (Dm.num N * 10 ^ (max s t - t)))) (Dm.dg (Dm.st (Dm.adM g (Dm.num L * 10 ^ (max s t - s)) h (Dm.num N * 10 ^ (max s t - t))) (max s t)).1) ((Dm.st (Dm.adM g (Dm.num L * 10 ^ (max s t - s)) h (Dm.num N * 10 ^ (max s t - t))) (max s t)).2 : Nat) 0 :=
  fun u v x hv hu => Calls.mono (Er.add_any g h v x s t L N u hv hu hl hl2 hx hy hs ht) fun _ _ h => tshut (by omega) h
theorem align_t (g : Bool) (s k : Nat) (L : List Int) (hl : L.length < 10000) (hd : Dm.okD L) (hs : s ≤ 1000) (hk : (Dm.st (Dm.num L) s).2 ≤ k) (hk2 : k ≤ 1000) : T1 39 g s k L (Dm.cg g (Dm.num L)) (Dm.dg ((Dm.st (Dm.num L) s).1 * 10 ^ (k - (Dm.st (Dm.num L) s).2))) k 0 :=
  fun u v hv => Calls.mono (Er.align_any g v s k L u hv hl hd hs hk hk2) fun _ _ h => tshut (by omega) h
theorem num_one : Dm.num [1] = 1 := by decide
theorem st_fst_le (M s : Nat) : (Dm.st M s).1 ≤ M := by
  have h1 := Dm.st_num M s
  have h2 : 0 < 10 ^ (s - (Dm.st M s).2) := Nat.pow_pos (by omega)
  calc (Dm.st M s).1 = (Dm.st M s).1 * 1 := by rw [Nat.mul_one]
    _ ≤ (Dm.st M s).1 * 10 ^ (s - (Dm.st M s).2) := Nat.mul_le_mul_left _ h2
    _ = M := h1
/-- Where the number needs more digits than the scale has. -/
theorem to_near (g : Bool) (v : Value) (s n : Nat) (m : Int) (L : List Int) (w : World) (hv : Lst w v L) (hl : L.length < 1900) (hd : Dm.okD L) (hs : s ≤ 1000) (hn : n ≤ 1000) (hm : 0 ≤ m ∧ m ≤ 6) (hlt : n < (Dm.st (Dm.num L) s).2) :
    Calls Try.prog 15 #[dv g v s, .int .i64 n, .int .i64 m] w fun e w' => ∃ x, e = .returned (.tuple #[dv (Dm.cg g (Rm.rk g (Dm.st (Dm.num L) s).1 (Dm.st (Dm.num L) s).2 n m)) x n, .int .i64 0]) ∧ LF w' (w.heap.size + 2) x (Dm.dg (Rm.rk g (Dm.st (Dm.num L) s).1 (Dm.st (Dm.num L) s).2 n m)) ∧ Q w w' := by
  have hN := near_t g s n L (by omega) hd hs hn
  have hcmp := Rm.near_cmp g (Dm.num L) s n
  have hlast := Rm.st_last (Dm.num L) s (by omega)
  have hle := st_fst_le (Dm.num L) s
  have hsc := Rm.st_scale (Dm.num L) s (max s n) (by omega)
  have hzs := Dm.st_le (Dm.num L) s
  have hrp := Rm.rs_pos hlt hlast
  have hrl := Rm.rs_lt (A := (Dm.st (Dm.num L) s).1) hlt
  have hat := Rm.at_scale (A := (Dm.st (Dm.num L) s).1) (N := max s n) hlt (by omega)
  have hlr := Rm.lo_rs (A := (Dm.st (Dm.num L) s).1) hlt
  have hrk : Rm.rk g (Dm.st (Dm.num L) s).1 (Dm.st (Dm.num L) s).2 n m = if Rm.up g (Rm.lo (Dm.st (Dm.num L) s).1 (Dm.st (Dm.num L) s).2 n) (Rm.rs (Dm.st (Dm.num L) s).1 (Dm.st (Dm.num L) s).2 n) (Rm.un (Dm.st (Dm.num L) s).2 n) m = true then Rm.lo (Dm.st (Dm.num L) s).1 (Dm.st (Dm.num L) s).2 n + 1 else Rm.lo (Dm.st (Dm.num L) s).1 (Dm.st (Dm.num L) s).2 n := by
    unfold Rm.rk
    rw [if_neg (by omega)]
  rw [hrk]
  clear hrk
  generalize Rm.lo (Dm.st (Dm.num L) s).1 (Dm.st (Dm.num L) s).2 n = K at *
  generalize Rm.rs (Dm.st (Dm.num L) s).1 (Dm.st (Dm.num L) s).2 n = r at *
  generalize Rm.un (Dm.st (Dm.num L) s).2 n = B at *
  generalize (Dm.st (Dm.num L) s).1 = A at *
  generalize (Dm.st (Dm.num L) s).2 = sa at *
  obtain ⟨P, hP⟩ : ∃ P, P = 10 ^ (max s n - sa) := ⟨_, rfl⟩
  have hP0 : 0 < P := by rw [hP]; exact Nat.pow_pos (by omega)
  rw [← hP] at hat hsc
  obtain ⟨hat1, hat2⟩ := hat
  have hB0 : 0 < B := by omega
  have hKA : K ≤ A := by
    have : K * 1 ≤ K * B := Nat.mul_le_mul_left _ hB0
    omega
  have hKn : K ≤ Dm.num L := Nat.le_trans hKA hle
  have hnl := Dm.num_lt L hd
  have hYL : (Dm.dg K).length ≤ L.length := Nat.le_trans (Dm.dg_len_le _ _ hKn) (Dm.dg_len L hd)
  have hZU : (Dm.dg (K + 1)).length ≤ L.length + 1 := Dm.dg_len_lt _ _ (by rw [Nat.pow_succ]; have : 0 < 10 ^ L.length := Nat.pow_pos (by omega); omega)
  have hc1 : Dm.cmpD (Dm.cg g K) K n g (Dm.num L) s ≠ 0 := fun h => by have := hcmp.1 h; omega
  have hC1 := cmp_t (Dm.cg g K) g n s (Dm.dg K) L (by omega) (by omega) (Dm.okD_dg _) hd hn hs
  rw [Dm.num_dg] at hC1
  have hA1 := add_t (Dm.cg g K) g n n (Dm.dg K) [1] (by omega) (by simp) (Dm.okD_dg _) (fun d hd => by simp at hd; omega) hn hn
  rw [Nat.max_self, Nat.sub_self, Nat.pow_zero, Nat.mul_one, Nat.mul_one, Dm.num_dg, num_one, (Rm.sum_eq g K).2, (Rm.sum_eq g K).1] at hA1
  have hS1 := Dm.st_le (K + 1) n
  have hAL := align_t g (Dm.st (K + 1) n).2 n (Dm.dg (Dm.st (K + 1) n).1) (by
    have := Dm.dg_len_le _ _ (st_fst_le (K + 1) n)
    omega) (Dm.okD_dg _) (by omega) (by rw [Dm.num_dg, Dm.st_trim]; exact hS1) hn
  rw [Dm.num_dg, Rm.align_eq, Dm.cg_pos (Dm.st_pos _ _ (by omega))] at hAL
  have hX : Dm.num L * 10 ^ (max s n - s) = K * 10 ^ (max s n - n) + r * P := by omega
  have hY1 : (K + 1) * 10 ^ (max s n - n) = K * 10 ^ (max s n - n) + B * P := by rw [Nat.add_mul, Nat.one_mul, hat2]
  have hrP : r * P ≤ B * P := Nat.mul_le_mul_right _ (by omega)
  have hA2 := add_t g (!(Dm.cg g K)) s n L (Dm.dg K) (by omega) (by omega) hd (Dm.okD_dg _) hs hn
  have hA3 := add_t g (!g) n s (Dm.dg (K + 1)) L (by omega) (by omega) (Dm.okD_dg _) hd hn hs
  rw [Dm.num_dg] at hA2 hA3
  have hcgY : Dm.cg g K = Dm.cg g (K * 10 ^ (max s n - n)) := by
    unfold Dm.cg
    have hp : 0 < 10 ^ (max s n - n) := Nat.pow_pos (by omega)
    by_cases h0 : K = 0
    · subst h0; rw [Nat.zero_mul]
    · rw [if_neg h0, if_neg (by have := Nat.mul_pos (Nat.pos_of_ne_zero h0) hp; omega)]
  have hF : Dm.adM g (Dm.num L * 10 ^ (max s n - s)) (!(Dm.cg g K)) (K * 10 ^ (max s n - n)) = r * P := by
    rw [hcgY, Rm.from_eq (by omega)]
    omega
  have hT : Dm.adM g ((K + 1) * 10 ^ (max s n - n)) (!g) (Dm.num L * 10 ^ (max s n - s)) = (B - r) * P := by
    rw [Rm.to_eq (by omega), hY1, hX, Nat.sub_mul]
    omega
  have l1 := Ep.ad_len g (!(Dm.cg g K)) s n (max s n) L (Dm.dg K) hd (Dm.okD_dg _) (by omega) (by omega) (by omega)
  have l2 := Ep.ad_len g (!g) n s (max s n) (Dm.dg (K + 1)) L (Dm.okD_dg _) hd (by omega) (by omega) (by omega)
  rw [Nat.max_comm n s] at hA3
  rw [Dm.num_dg, hF] at l1
  rw [Dm.num_dg, hT] at l2
  rw [hF] at hA2
  rw [hT] at hA3
  have q1 := Dm.st_le (r * P) (max s n)
  have q2 := Dm.st_le ((B - r) * P) (max s n)
  have hC2 := cmp_t false false (Dm.st (r * P) (max s n)).2 (Dm.st ((B - r) * P) (max s n)).2 (Dm.dg (Dm.st (r * P) (max s n)).1) (Dm.dg (Dm.st ((B - r) * P) (max s n)).1) (by omega) (by omega) (Dm.okD_dg _) (Dm.okD_dg _) (by omega) (by omega)
  rw [Dm.num_dg, Dm.num_dg, Rm.half_eq, Rm.cmpZ_scale _ _ _ hP0] at hC2
  have hod : (Dm.dg K = [] ∧ decide (K % 2 = 1) = false) ∨ (0 < (Dm.dg K).length ∧ 0 ≤ (Dm.dg K).getD ((Dm.dg K).length - 1) 0 ∧ decide (K % 2 = 1) = decide ((Dm.dg K).getD ((Dm.dg K).length - 1) 0 % 2 = 1)) := by
    by_cases h0 : K = 0
    · subst h0; exact .inl ⟨Dm.dg_zero, rfl⟩
    · have hdl := Dm.dg_last K h0
      refine .inr ⟨by omega, by rw [hdl.2.1]; omega, ?_⟩
      rw [hdl.2.1]
      exact decide_eq_decide.2 (by omega)
  have hU : (m = 0 ∧ Rm.up g K r B m = false) ∨ (m = 1 ∧ Rm.up g K r B m = true) ∨ (m = 2 ∧ Rm.up g K r B m = g) ∨ (m = 3 ∧ Rm.up g K r B m = !g) ∨ (m = 4 ∧ Rm.up g K r B m = decide (0 < Dm.cmpZ (r : Int) ((B - r : Nat) : Int))) ∨ (m = 5 ∧ Rm.up g K r B m = decide (0 ≤ Dm.cmpZ (r : Int) ((B - r : Nat) : Int))) ∨ (m = 6 ∧ Rm.up g K r B m = (decide (0 < Dm.cmpZ (r : Int) ((B - r : Nat) : Int)) || (decide (Dm.cmpZ (r : Int) ((B - r : Nat) : Int) = 0) && decide (K % 2 = 1)))) := by
    rcases (show m = 0 ∨ m = 1 ∨ m = 2 ∨ m = 3 ∨ m = 4 ∨ m = 5 ∨ m = 6 from by omega) with rfl | rfl | rfl | rfl | rfl | rfl | rfl
    · exact .inl ⟨rfl, rfl⟩
    · exact .inr (.inl ⟨rfl, rfl⟩)
    · exact .inr (.inr (.inl ⟨rfl, rfl⟩))
    · exact .inr (.inr (.inr (.inl ⟨rfl, rfl⟩)))
    · exact .inr (.inr (.inr (.inr (.inl ⟨rfl, rfl⟩))))
    · exact .inr (.inr (.inr (.inr (.inr (.inl ⟨rfl, rfl⟩)))))
    · exact .inr (.inr (.inr (.inr (.inr (.inr ⟨rfl, rfl⟩)))))
  have main := to_walk g v s n m L w hv (Dm.cg g K) (!g) (!(Dm.cg g K)) (Dm.dg K) _ (Dm.dg (K + 1)) _ _ _ _ _ _ _ _ _ (decide (K % 2 = 1)) (Rm.up g K r B m) (may_t g s L (by omega) hd hs) hN hC1 hc1 (fun u g k => one_any g k u) hA1 hAL rfl rfl hA2 hA3 hC2 (by omega) hn hm (Dm.cmpZ_three _ _) hod hU
  refine main.mono ?_
  rintro e w' ⟨x, rfl, hx, hq⟩
  refine ⟨x, ?_, ?_, hq⟩
  · cases hu : Rm.up g K r B m
    · rfl
    · simp only [if_true]
      rw [Dm.cg_pos (by omega)]
  · cases hu : Rm.up g K r B m
    · rw [hu] at hx; exact hx
    · rw [hu] at hx; exact hx
theorem to_any (g : Bool) (v : Value) (s n : Nat) (m : Int) (L : List Int) (w : World) (hv : Lst w v L) (hl : L.length < 1900) (hd : Dm.okD L) (hs : s ≤ 1000) (hn : n ≤ 1000) (hm : 0 ≤ m ∧ m ≤ 6) :
    Calls Try.prog 15 #[dv g v s, .int .i64 n, .int .i64 m] w fun e w' => ∃ x, e = .returned (.tuple #[dv (Dm.cg g (Rm.rk g (Dm.st (Dm.num L) s).1 (Dm.st (Dm.num L) s).2 n m)) x n, .int .i64 0]) ∧ LF w' (w.heap.size + 2) x (Dm.dg (Rm.rk g (Dm.st (Dm.num L) s).1 (Dm.st (Dm.num L) s).2 n m)) ∧ Q w w' := by
  by_cases h : (Dm.st (Dm.num L) s).2 ≤ n
  · have hrk : Rm.rk g (Dm.st (Dm.num L) s).1 (Dm.st (Dm.num L) s).2 n m = Rm.lo (Dm.st (Dm.num L) s).1 (Dm.st (Dm.num L) s).2 n := by unfold Rm.rk; rw [if_pos h]
    have hN := near_t g s n L (by omega) hd hs hn
    have hcmp := (Rm.near_cmp g (Dm.num L) s n).2 h
    have hlen : (Dm.dg (Rm.lo (Dm.st (Dm.num L) s).1 (Dm.st (Dm.num L) s).2 n)).length < 10000 := by
      have e0 : Rm.lo (Dm.st (Dm.num L) s).1 (Dm.st (Dm.num L) s).2 n = (Dm.st (Dm.num L) s).1 * 10 ^ (n - (Dm.st (Dm.num L) s).2) := by unfold Rm.lo; rw [if_pos h]
      rw [e0]
      have a := Dm.num_lt L hd
      have b := st_fst_le (Dm.num L) s
      have := Dm.dg_len_lt ((Dm.st (Dm.num L) s).1 * 10 ^ (n - (Dm.st (Dm.num L) s).2)) (L.length + (n - (Dm.st (Dm.num L) s).2)) (by
        rw [Nat.pow_add]
        exact Nat.mul_lt_mul_of_pos_right (Nat.lt_of_le_of_lt b a) (Nat.pow_pos (by omega)))
      omega
    have hC1 := cmp_t (Dm.cg g (Rm.lo (Dm.st (Dm.num L) s).1 (Dm.st (Dm.num L) s).2 n)) g n s (Dm.dg (Rm.lo (Dm.st (Dm.num L) s).1 (Dm.st (Dm.num L) s).2 n)) L hlen (by omega) (Dm.okD_dg _) hd hn hs
    rw [Dm.num_dg, hcmp] at hC1
    rw [hrk]
    exact to_same g v s n m L w hv _ _ (may_t g s L (by omega) hd hs) hN hC1 hn hm
  · exact to_near g v s n m L w hv hl hd hs hn hm (by omega)
end Rr
end Go.Proofs.Ytebcgpoemppljaa
