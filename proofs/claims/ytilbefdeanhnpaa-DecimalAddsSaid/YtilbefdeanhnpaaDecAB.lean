/- Align of decimals: the program's and the document's own are one, whatever the arguments. -/
import Derived.Test.YtilbefdeanhnpaaRows
import Derived.Test.YtilbefdeanhnpaaDigL
import Derived.Test.YtilbefdeanhnpaaDecM
import Derived.Test.YtilbefdeanhnpaaInts
import Derived.Test.YtilbefdeanhnpaaSto
import Derived.Test.YtilbefdeanhnpaaStoB
import Derived.Test.YtilbefdeanhnpaaDigW
import Derived.Test.YtilbefdeanhnpaaDigV
import Derived.Test.YtilbefdeanhnpaaDigX
import Derived.Test.YtilbefdeanhnpaaDigQ
import Derived.Test.YtilbefdeanhnpaaDecR
import Derived.Test.YtilbefdeanhnpaaDecS
import Derived.Test.YtilbefdeanhnpaaDecC
import Derived.Test.YtilbefdeanhnpaaDecP
import Derived.Test.YtilbefdeanhnpaaDecQ
import Derived.Test.YtilbefdeanhnpaaDecE
import Derived.Test.YtilbefdeanhnpaaDecF
import Derived.Test.YtilbefdeanhnpaaDecH
import Derived.Test.YtilbefdeanhnpaaDecJ
import Derived.Test.YtilbefdeanhnpaaDecK
import Derived.Test.YtilbefdeanhnpaaDecZ
import Derived.Deep.CutRange
import Derived.Deep.CutBlock
import Derived.Deep.DeepCutAuto
import Derived.Deep.QuietTactic
import Derived.Deep.RegionWith
import Derived.Deep.RegionHeld3
import Derived.BigQuiet
import Derived.Laws.ResultCell
set_option linter.unusedVariables false
set_option linter.unusedSimpArgs false
namespace Go.Proofs.Ytilbefdeanhnpaa
open Go.RowKit
namespace Ep
open Er (dv cellV LF LF.of LF.nil LF.mono LF.q LF.put LF.shape LF.lst block_cells some_cells block_set wrapI num_shl okD_shl)
/-- What a call on one decimal and a number comes to, where the list lies in a block of the call's own. -/
def F1 (f : FuncId) (g : Bool) (s k : Int) (L : List Int) (gr : Bool) (Z : List Int) (sr er : Int) : Prop :=
  ∀ u v, Lst u v L → Calls Try.prog f #[.agg #[.bool g, v, .int .i64 s], .int .i64 k] u fun e w' => ∃ a c, e = .returned (.tuple #[.agg #[.bool gr, .slice a Z.length c, .int .i64 sr], .int .i64 er]) ∧ LF w' u.heap.size (.slice a Z.length c) Z ∧ Q u w'
/-- .. on two decimals. -/
def F2 (f : FuncId) (g : Bool) (s : Int) (L : List Int) (h : Bool) (t : Int) (N : List Int) (gr : Bool) (Z : List Int) (sr er : Int) : Prop :=
  ∀ u v x, Lst u v L → Lst u x N → Calls Try.prog f #[.agg #[.bool g, v, .int .i64 s], .agg #[.bool h, x, .int .i64 t]] u fun e w' => ∃ a c, e = .returned (.tuple #[.agg #[.bool gr, .slice a Z.length c, .int .i64 sr], .int .i64 er]) ∧ LF w' u.heap.size (.slice a Z.length c) Z ∧ Q u w'
theorem fshut {e : Ending} {u w' : World} {B : Nat} {gr : Bool} {Z : List Int} {sr er : Int} (hB : u.heap.size ≤ B) (h : ∃ x, e = .returned (.tuple #[dv gr x sr, .int .i64 er]) ∧ LF w' B x Z ∧ Q u w') : ∃ a c, e = .returned (.tuple #[.agg #[.bool gr, .slice a Z.length c, .int .i64 sr], .int .i64 er]) ∧ LF w' u.heap.size (.slice a Z.length c) Z ∧ Q u w' := by
  obtain ⟨x, rfl, hx, hq⟩ := h
  obtain ⟨a, c, rfl⟩ := hx.shape
  exact ⟨a, c, rfl, hx.mono hB, hq⟩
theorem fshut0 {e : Ending} {u w' : World} {gr : Bool} {sr er : Int} (h : e = .returned (.tuple #[dv gr (.slice none 0 0) sr, .int .i64 er]) ∧ Q u w') : ∃ a c, e = .returned (.tuple #[.agg #[.bool gr, .slice a 0 c, .int .i64 sr], .int .i64 er]) ∧ LF w' u.heap.size (.slice a 0 c) [] ∧ Q u w' := by
  obtain ⟨rfl, hq⟩ := h
  exact ⟨none, 0, rfl, LF.nil _ _, hq⟩
theorem st_al (M s k : Nat) (hk : (Dm.st M s).2 ≤ k) : Dm.st ((Dm.st M s).1 * 10 ^ (k - (Dm.st M s).2)) k = Dm.st M s := by
  have h := Dm.st_tens (Dm.st M s).1 (Dm.st M s).2 (k - (Dm.st M s).2)
  rw [show (Dm.st M s).2 + (k - (Dm.st M s).2) = k from by omega, Dm.st_trim] at h
  exact h
theorem cmpD_al (g : Bool) (M s k : Nat) (hk : (Dm.st M s).2 ≤ k) : Dm.cmpD (Dm.cg g M) ((Dm.st M s).1 * 10 ^ (k - (Dm.st M s).2)) k g M s = 0 := by
  have h := st_al M s k hk
  generalize (Dm.st M s).1 * 10 ^ (k - (Dm.st M s).2) = X at *
  have h2 : Dm.cmpS X k M s = 0 := by
    rw [← Dm.cmpS_st, h]
    unfold Dm.cmpS
    exact Dm.cmpZ_eq rfl
  have h3 : X = 0 ↔ M = 0 := by
    have a := Dm.st_eq0 X k
    have b := Dm.st_eq0 M s
    rw [h] at a
    exact a.symm.trans b
  have h1 : Dm.cg (Dm.cg g M) X = Dm.cg g M := by
    by_cases h0 : X = 0
    · rw [h0, h3.1 h0]; rfl
    · exact Dm.cg_pos h0
  unfold Dm.cmpD
  rw [h1, if_pos rfl, h2]
  split <;> rfl
/-- Of whatever decimal and scale the program's and the document's own Align are one; what isn't refused is of that scale, and the same number. -/
theorem align_both (g : Bool) (s k : Int) (L : List Int) (hl : L.length < 100) (hs : -9223372036854775808 ≤ s ∧ s ≤ 9223372036854775807) (hk : -9223372036854775808 ≤ k ∧ k ≤ 9223372036854775807) :
    ∃ gr Z sr er, F1 38 g s k L gr Z sr er ∧ F1 39 g s k L gr Z sr er ∧ Z.length < 9000 ∧ (er = 0 → sr = k ∧ ∀ u v x, Lst u v Z → Lst u x L → Calls Try.prog 30 #[.agg #[.bool gr, v, .int .i64 sr], .agg #[.bool g, x, .int .i64 s]] u fun e w' => e = .returned (.int .i64 0) ∧ Q u w') := by
  cases hb : (Dm.okB L && decide (0 ≤ s) && decide (s ≤ 1000))
  · exact ⟨false, [], 0, 1, fun u v hv => Calls.mono (align_bad g v s k L u hv (by omega) hs hb) fun _ _ h => fshut0 h, fun u v hv => Calls.mono (Er.align_bad g v s k L u hv (by omega) hs hb) fun _ _ h => fshut0 h, by simp, fun h => absurd h (by decide)⟩
  · simp only [Bool.and_eq_true, decide_eq_true_eq] at hb
    obtain ⟨⟨h1, h2⟩, h3⟩ := hb
    have hd := (Dm.okB_iff L).1 h1
    obtain ⟨t, rfl⟩ : ∃ t : Nat, s = (t : Int) := ⟨s.toNat, by omega⟩
    by_cases hf : k < ((Dm.st (Dm.num L) t).2 : Nat) ∨ 1000 < k
    · exact ⟨false, [], 0, 3, fun u v hv => Calls.mono (align_far g v t k L u hv (by omega) hd (by omega) hf hk) fun _ _ h => fshut0 h, fun u v hv => Calls.mono (Er.align_far g v t k L u hv (by omega) hd (by omega) hf) fun _ _ h => fshut0 h, by simp, fun h => absurd h (by decide)⟩
    · obtain ⟨j, rfl⟩ : ∃ j : Nat, k = (j : Int) := ⟨k.toNat, by omega⟩
      have hj : (Dm.st (Dm.num L) t).2 ≤ j := by omega
      have hlen : (Dm.dg ((Dm.st (Dm.num L) t).1 * 10 ^ (j - (Dm.st (Dm.num L) t).2))).length ≤ L.length + j := by
        refine Dm.dg_len_lt _ _ ?_
        have a := Dm.num_lt L hd
        have b := Dm.st_num (Dm.num L) t
        have c : (Dm.st (Dm.num L) t).1 ≤ Dm.num L := by
          have h2 : 0 < 10 ^ (t - (Dm.st (Dm.num L) t).2) := Nat.pow_pos (by omega)
          calc (Dm.st (Dm.num L) t).1 = (Dm.st (Dm.num L) t).1 * 1 := by rw [Nat.mul_one]
            _ ≤ (Dm.st (Dm.num L) t).1 * 10 ^ (t - (Dm.st (Dm.num L) t).2) := Nat.mul_le_mul_left _ h2
            _ = Dm.num L := b
        rw [Nat.pow_add]
        have d : 10 ^ (j - (Dm.st (Dm.num L) t).2) ≤ 10 ^ j := Nat.pow_le_pow_right (by omega) (by omega)
        have e0 : 0 < 10 ^ j := Nat.pow_pos (by omega)
        calc (Dm.st (Dm.num L) t).1 * 10 ^ (j - (Dm.st (Dm.num L) t).2) ≤ Dm.num L * 10 ^ j := Nat.mul_le_mul c d
          _ < 10 ^ L.length * 10 ^ j := Nat.mul_lt_mul_of_pos_right a e0
      refine ⟨_, _, _, _, fun u v hv => Calls.mono (align_any g v t j L u hv (by omega) hd (by omega) hj (by omega)) fun _ _ h => fshut (by omega) h, fun u v hv => Calls.mono (Er.align_any g v t j L u hv (by omega) hd (by omega) hj (by omega)) fun _ _ h => fshut (by omega) h, by omega, fun _ => ⟨rfl, fun u v x h1 h2 => ?_⟩⟩
      have e := compare_any (Dm.cg g (Dm.num L)) g v x j t _ L u h1 h2 (by omega) (by omega) (Dm.okD_dg _) hd (by omega) (by omega)
      rw [Dm.num_dg, cmpD_al _ _ _ _ hj] at e
      exact e
/-- What stands while a round calls functions: the i-th decimal of a list of them, the i-th number. -/
def SX (W : World) (X N i : Nat) (g : Bool) (v : Value) (s k : Int) (u : World) : Prop := u.cell? ⟨X, i * 3, none⟩ = some (.bool g) ∧ (u.cell? ⟨X, i * 3 + 1, none⟩ = some v ∧ (u.cell? ⟨X, i * 3 + 2, none⟩ = some (.int .i64 s) ∧ (u.cell? ⟨N, i, none⟩ = some (.int .i64 k) ∧ (Q W u))))
theorem SX.here {W u : World} {X N i : Nat} {g : Bool} {v : Value} {s k : Int} (h : SX W X N i g v s k u) : Q W u := h.2.2.2.2
/-- .. and a decimal in a block of its own. -/
def SY (W : World) (X N i : Nat) (g : Bool) (v : Value) (s k : Int) (b : Nat) (gb : Bool) (vb : Value) (sb : Int) (u : World) : Prop := u.cell? ⟨X, i * 3, none⟩ = some (.bool g) ∧ (u.cell? ⟨X, i * 3 + 1, none⟩ = some v ∧ (u.cell? ⟨X, i * 3 + 2, none⟩ = some (.int .i64 s) ∧ (u.cell? ⟨N, i, none⟩ = some (.int .i64 k) ∧ (u.cell? ⟨b, 0, none⟩ = some (.bool gb) ∧ (u.cell? ⟨b, 1, none⟩ = some vb ∧ (u.cell? ⟨b, 2, none⟩ = some (.int .i64 sb) ∧ (Q W u)))))))
theorem SY.here {W u : World} {X N i b : Nat} {g gb : Bool} {v vb : Value} {s k sb : Int} (h : SY W X N i g v s k b gb vb sb u) : Q W u := h.2.2.2.2.2.2.2
theorem lf_lst {w : World} {B : Nat} {v : Value} {xs : List Int} (h : LF w B v xs) : Lst w v xs := h.lst
theorem lf_ne {w : World} {B b : Nat} {v : Value} {xs : List Int} (h : LF w B v xs) (hb : b < B) : ∀ a n c, v = .slice (some a) n c → n ≠ 0 → a.block ≠ b := by
  obtain ⟨a', n', c', h0, _, _, h3⟩ := h
  intro a n c hv hn
  rw [h0] at hv
  cases hv
  have := h3 _ rfl hn
  omega
end Ep
end Go.Proofs.Ytilbefdeanhnpaa
