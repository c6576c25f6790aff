/- Times of decimals: the program's and the document's own are one, whatever the arguments; what is so many times and as many times less is none together. -/
import Derived.Test.YtilbefdeanhnpaaRows
import Derived.Test.YtilbefdeanhnpaaDigL
import Derived.Test.YtilbefdeanhnpaaDecM
import Derived.Test.YtilbefdeanhnpaaInts
import Derived.Test.YtilbefdeanhnpaaSto
import Derived.Test.YtilbefdeanhnpaaStoB
import Derived.Test.YtilbefdeanhnpaaDigW
import Derived.Test.YtilbefdeanhnpaaDigV
import Derived.Test.YtilbefdeanhnpaaDigX
import Derived.Test.YtilbefdeanhnpaaDigQ
import Derived.Test.YtilbefdeanhnpaaDecR
import Derived.Test.YtilbefdeanhnpaaDecS
import Derived.Test.YtilbefdeanhnpaaDecC
import Derived.Test.YtilbefdeanhnpaaDecP
import Derived.Test.YtilbefdeanhnpaaDecQ
import Derived.Test.YtilbefdeanhnpaaDecE
import Derived.Test.YtilbefdeanhnpaaDecH
import Derived.Test.YtilbefdeanhnpaaDecI
import Derived.Test.YtilbefdeanhnpaaDecJ
import Derived.Test.YtilbefdeanhnpaaDecZ
import Derived.Deep.QuietTactic
import Derived.Deep.RegionWith
import Derived.Deep.RegionHeld3
import Derived.BigQuiet
import Derived.Laws.ResultCell
set_option linter.unusedVariables false
set_option linter.unusedSimpArgs false
namespace Go.Proofs.Ytilbefdeanhnpaa
open Go.RowKit
namespace Ep
open Er (dv cellV LF LF.of LF.nil LF.mono LF.q LF.put LF.shape LF.lst block_cells some_cells block_set wrapI num_shl okD_shl)
/-- What a call of a function on one decimal and a number comes to: a decimal, and an error. -/
def R1 (f : FuncId) (g : Bool) (v : Value) (s k : Int) (L : List Int) (gr : Bool) (Z : List Int) (sr er : Int) : Prop :=
  ∀ u, Lst u v L → Calls Try.prog f #[.agg #[.bool g, v, .int .i64 s], .int .i64 k] u fun e w' => ∃ a c, e = .returned (.tuple #[.agg #[.bool gr, .slice a Z.length c, .int .i64 sr], .int .i64 er]) ∧ Lst w' (.slice a Z.length c) Z ∧ Q u w'
/-- .. of a function on two decimals. -/
def R2 (f : FuncId) (g : Bool) (v : Value) (s : Int) (L : List Int) (h : Bool) (x : Value) (t : Int) (N : List Int) (gr : Bool) (Z : List Int) (sr er : Int) : Prop :=
  ∀ u, Lst u v L → Lst u x N → Calls Try.prog f #[.agg #[.bool g, v, .int .i64 s], .agg #[.bool h, x, .int .i64 t]] u fun e w' => ∃ a c, e = .returned (.tuple #[.agg #[.bool gr, .slice a Z.length c, .int .i64 sr], .int .i64 er]) ∧ Lst w' (.slice a Z.length c) Z ∧ Q u w'
theorem shut {e : Ending} {u w' : World} {B : Nat} {gr : Bool} {Z : List Int} {sr er : Int} (h : ∃ x, e = .returned (.tuple #[dv gr x sr, .int .i64 er]) ∧ LF w' B x Z ∧ Q u w') : ∃ a c, e = .returned (.tuple #[.agg #[.bool gr, .slice a Z.length c, .int .i64 sr], .int .i64 er]) ∧ Lst w' (.slice a Z.length c) Z ∧ Q u w' := by
  obtain ⟨x, rfl, hx, hq⟩ := h
  obtain ⟨a, c, rfl⟩ := hx.shape
  exact ⟨a, c, rfl, hx.lst, hq⟩
theorem shut0 {e : Ending} {u w' : World} {gr : Bool} {sr er : Int} (h : e = .returned (.tuple #[dv gr (.slice none 0 0) sr, .int .i64 er]) ∧ Q u w') : ∃ a c, e = .returned (.tuple #[.agg #[.bool gr, .slice a 0 c, .int .i64 sr], .int .i64 er]) ∧ Lst w' (.slice a 0 c) [] ∧ Q u w' := by
  obtain ⟨rfl, hq⟩ := h
  exact ⟨none, 0, rfl, (LF.nil _ 0).lst, hq⟩
def tg (g : Bool) (k : Int) (M : Nat) : Bool := if k < 0 then Dm.cg (!g) (M * k.natAbs) else Dm.cg g (M * k.natAbs)
theorem times_k (g : Bool) (v : Value) (s : Nat) (k : Int) (L : List Int) (hl : L.length < 100000) (hd : Dm.okD L) (hs : s ≤ 1000) (hk : -1000 ≤ k ∧ k ≤ 1000) :
    R1 36 g v s k L (tg g k (Dm.num L)) (Dm.dg (Dm.st (Dm.num L * k.natAbs) s).1) ((Dm.st (Dm.num L * k.natAbs) s).2 : Nat) 0 ∧
    R1 37 g v s k L (tg g k (Dm.num L)) (Dm.dg (Dm.st (Dm.num L * k.natAbs) s).1) ((Dm.st (Dm.num L * k.natAbs) s).2 : Nat) 0 := by
  by_cases h0 : k < 0
  · have e : k = -((k.natAbs : Nat) : Int) := by omega
    have et : tg g k (Dm.num L) = Dm.cg (!g) (Dm.num L * k.natAbs) := if_pos h0
    rw [et]
    refine ⟨fun u hv => ?_, fun u hv => ?_⟩
    · have h := times_neg g v s k.natAbs L u hv hl hd hs (by omega) (by omega)
      rw [← e] at h
      exact Calls.mono h fun _ _ h => shut h
    · have h := Er.times_neg g v s k.natAbs L u hv hl hd hs (by omega) (by omega)
      rw [← e] at h
      exact Calls.mono h fun _ _ h => shut h
  · have e : k = ((k.natAbs : Nat) : Int) := by omega
    have et : tg g k (Dm.num L) = Dm.cg g (Dm.num L * k.natAbs) := if_neg h0
    rw [et]
    refine ⟨fun u hv => ?_, fun u hv => ?_⟩
    · have h := times_pos g v s k.natAbs L u hv hl hd hs (by omega)
      rw [← e] at h
      exact Calls.mono h fun _ _ h => shut h
    · have h := Er.times_pos g v s k.natAbs L u hv hl hd hs (by omega)
      rw [← e] at h
      exact Calls.mono h fun _ _ h => shut h
theorem times_len (s : Nat) (k : Int) (L : List Int) (hd : Dm.okD L) (hk : -1000 ≤ k ∧ k ≤ 1000) : (Dm.dg (Dm.st (Dm.num L * k.natAbs) s).1).length ≤ L.length + 4 := by
  have h1 : (Dm.dg (Dm.num L * k.natAbs)).length ≤ L.length + 4 := by
    refine Dm.dg_len_lt _ _ ?_
    have h1 := Dm.num_lt L hd
    have h2 : Dm.num L * k.natAbs < 10 ^ L.length * 10 ^ 4 := by
      have h3 : Dm.num L * k.natAbs ≤ Dm.num L * 1000 := Nat.mul_le_mul_left _ (by omega)
      omega
    rwa [← Nat.pow_add] at h2
  have h2 := Dm.dg_len_le (Dm.st (Dm.num L * k.natAbs) s).1 (Dm.num L * k.natAbs) (by
    have h1 := Dm.st_num (Dm.num L * k.natAbs) s
    have h2 : 0 < 10 ^ (s - (Dm.st (Dm.num L * k.natAbs) s).2) := Nat.pow_pos (by omega)
    calc (Dm.st (Dm.num L * k.natAbs) s).1 = (Dm.st (Dm.num L * k.natAbs) s).1 * 1 := by rw [Nat.mul_one]
      _ ≤ (Dm.st (Dm.num L * k.natAbs) s).1 * 10 ^ (s - (Dm.st (Dm.num L * k.natAbs) s).2) := Nat.mul_le_mul_left _ h2
      _ = Dm.num L * k.natAbs := h1)
  omega
/-- Of whatever decimal and number the program's and the document's own Times are one. -/
theorem times_both (g : Bool) (s k : Int) (L : List Int) (hl : L.length < 100000) (hs : -9223372036854775808 ≤ s ∧ s ≤ 9223372036854775807) :
    ∃ gr Z sr er, (∀ v, R1 36 g v s k L gr Z sr er) ∧ (∀ v, R1 37 g v s k L gr Z sr er) ∧ Z.length < 200000 := by
  cases hb : (Dm.okB L && decide (0 ≤ s) && decide (s ≤ 1000))
  · exact ⟨false, [], 0, 1, fun v u hv => Calls.mono (times_bad g v s k L u hv (by omega) hs hb) fun _ _ h => shut0 h, fun v u hv => Calls.mono (Er.times_bad g v s k L u hv (by omega) hs hb) fun _ _ h => shut0 h, by simp⟩
  · by_cases hk : -1000 ≤ k ∧ k ≤ 1000
    · simp only [Bool.and_eq_true, decide_eq_true_eq] at hb
      obtain ⟨⟨h1, h2⟩, h3⟩ := hb
      obtain ⟨t, rfl⟩ : ∃ t : Nat, s = (t : Int) := ⟨s.toNat, by omega⟩
      exact ⟨_, _, _, _, fun v => (times_k g v t k L hl ((Dm.okB_iff L).1 h1) (by omega) hk).1, fun v => (times_k g v t k L hl ((Dm.okB_iff L).1 h1) (by omega) hk).2, by have := times_len t k L ((Dm.okB_iff L).1 h1) hk; omega⟩
    · exact ⟨false, [], 0, 3, fun v u hv => Calls.mono (times_far g v s k L u hv (by omega) hs hb (by omega)) fun _ _ h => shut0 h, fun v u hv => Calls.mono (Er.times_far g v s k L u hv (by omega) hs hb (by omega)) fun _ _ h => shut0 h, by simp⟩
/-- Two numbers that are one but for their signs are none together. -/
theorem add_none (ga gm : Bool) (v x : Value) (s : Nat) (Z : List Int) (hl : Z.length < 10000) (hd : Dm.okD Z) (hs : s ≤ 1000) (hg : (Dm.num Z = 0 ∧ ga = gm) ∨ ga ≠ gm) : R2 32 ga v s Z gm x s Z false [] 0 0 := by
  intro u hv hx
  have h := add_any ga gm v x s s Z Z u hv hx hl hl hd hd hs hs
  have e1 : max s s - s = 0 := by omega
  have e2 : Dm.adM ga (Dm.num Z * 10 ^ 0) gm (Dm.num Z * 10 ^ 0) = 0 := by
    unfold Dm.adM
    rcases hg with ⟨h0, h1⟩ | h1
    · rw [h0, if_pos h1]
    · rw [if_neg h1, if_neg (by omega)]; omega
  rw [e1, e2, Dm.cg_zero, Dm.st_zero, Dm.dg_zero] at h
  exact Calls.mono h fun _ _ h => shut h
theorem times_none (g : Bool) (s : Nat) (k : Int) (L : List Int) (hl : L.length < 5000) (hd : Dm.okD L) (hs : s ≤ 1000) (hk : -1000 ≤ k ∧ k ≤ 1000) :
    ∃ ga gm Z zs, (∀ v, R1 36 g v s k L ga Z (zs : Nat) 0) ∧ (∀ v, R1 37 g v s k L ga Z (zs : Nat) 0) ∧ (∀ v, R1 36 g v s (-k) L gm Z (zs : Nat) 0) ∧ Z.length < 6000 ∧ ∀ v x, R2 32 ga v (zs : Nat) Z gm x (zs : Nat) Z false [] 0 0 := by
  have h1 := fun v => (times_k g v s k L (by omega) hd hs hk).1
  have h2 := fun v => (times_k g v s k L (by omega) hd hs hk).2
  have h3 := fun v => (times_k g v s (-k) L (by omega) hd hs (by omega)).1
  rw [Int.natAbs_neg] at h3
  have hst := Dm.st_le (Dm.num L * k.natAbs) s
  have hlen : (Dm.dg (Dm.st (Dm.num L * k.natAbs) s).1).length < 6000 := by
    have := times_len s k L hd hk
    omega
  refine ⟨_, _, _, _, h1, h2, h3, hlen, fun v x => add_none _ _ v x _ _ (by omega) (Dm.okD_dg _) (by omega) ?_⟩
  rw [Dm.num_dg]
  unfold tg
  rw [Int.natAbs_neg]
  by_cases h0 : Dm.num L * k.natAbs = 0
  · refine .inl ⟨(Dm.st_eq0 _ _).2 h0, ?_⟩
    rw [h0, Dm.cg_zero, Dm.cg_zero]
    split <;> split <;> rfl
  · refine .inr ?_
    rw [Dm.cg_pos h0, Dm.cg_pos h0]
    have hk0 : k ≠ 0 := by rintro rfl; simp at h0
    by_cases hk1 : k < 0
    · rw [if_pos hk1, if_neg (by omega)]; cases g <;> decide
    · rw [if_neg hk1, if_pos (by omega)]; cases g <;> decide
theorem few_sh (u : World) (g : Bool) (a : Option Addr) (n c : Nat) (s : Int) (m q : Nat) (hn : n ≤ c) (hc : c ≤ maxLen) (hm : m < 1000000) (hq : min n m = q) : Calls Try.prog 20 #[.agg #[.bool g, .slice a n c, .int .i64 s], .int .i64 m] u fun e w' => e = .returned (.agg #[.bool g, .slice a q c, .int .i64 s]) ∧ Q u w' := by
  subst hq
  exact Er.few_any g a n c s m u hn hc hm
end Ep
end Go.Proofs.Ytilbefdeanhnpaa
