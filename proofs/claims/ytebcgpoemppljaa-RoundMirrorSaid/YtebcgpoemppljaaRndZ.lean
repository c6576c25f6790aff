/- Rounding's contracts in the form that the statements' walks take. -/
import Derived.Test.YtebcgpoemppljaaRows
import Derived.Test.YtebcgpoemppljaaDigL
import Derived.Test.YtebcgpoemppljaaDecM
import Derived.Test.YtebcgpoemppljaaInts
import Derived.Test.YtebcgpoemppljaaSto
import Derived.Test.YtebcgpoemppljaaStoB
import Derived.Test.YtebcgpoemppljaaDigQ
import Derived.Test.YtebcgpoemppljaaDecR
import Derived.Test.YtebcgpoemppljaaDecS
import Derived.Test.YtebcgpoemppljaaDecC
import Derived.Test.YtebcgpoemppljaaDecP
import Derived.Test.YtebcgpoemppljaaDecY
import Derived.Test.YtebcgpoemppljaaDecZ
import Derived.Test.YtebcgpoemppljaaRndM
import Derived.Test.YtebcgpoemppljaaRndN
import Derived.Test.YtebcgpoemppljaaRndT
import Derived.Test.YtebcgpoemppljaaRndC
import Derived.Test.YtebcgpoemppljaaRndS
import Derived.Test.YtebcgpoemppljaaRndU
import Derived.Test.YtebcgpoemppljaaRndP
import Derived.Test.YtebcgpoemppljaaRndW
import Derived.Test.YtebcgpoemppljaaUtfG
import Derived.Test.YtebcgpoemppljaaUtfR
import Derived.Deep.QuietTactic
import Derived.Deep.RegionWith
import Derived.Deep.RegionHeld3
import Derived.BigQuiet
import Derived.Laws.ResultCell
set_option linter.unusedVariables false
set_option linter.unusedSimpArgs false
namespace Go.Proofs.Ytebcgpoemppljaa
open Go.RowKit
namespace Rl
open Er (dv cellV LF LF.of LF.nil LF.mono LF.q LF.put LF.shape LF.lst block_cells)
theorem as_sh (u : World) (g : Bool) (a : Option Addr) (n c : Nat) (s : Int) : Calls Try.prog 17 #[.agg #[.bool g, .slice a n c, .int .i64 s]] u fun e w' => e = .returned (.agg #[.bool g, .slice a n c, .int .i64 s]) ∧ Q u w' := by
  go_enter Try.func17, Try.ntmps17
  go_wp2_with fail
  refine Er.ret_dv rfl rfl (heap_alloc2_new _ _ _) rfl ⟨rfl, ((Q.refl u).alloc _).alloc _⟩
theorem of_sh (u : World) (g : Bool) (a : Option Addr) (n c : Nat) (s : Int) : Calls Try.prog 14 #[.agg #[.bool g, .slice a n c, .int .i64 s]] u fun e w' => e = .returned (.agg #[.bool g, .slice a n c, .int .i64 s]) ∧ Q u w' := by
  go_enter Try.func14, Try.ntmps14
  go_wp2_with fail
  refine Ep.ret_dv rfl rfl (heap_alloc2_new _ _ _) rfl ⟨rfl, ((Q.refl u).alloc _).alloc _⟩
/-- A call on a decimal and two numbers: a decimal, and an error. -/
def R3 (f : FuncId) (g : Bool) (s k m : Int) (L : List Int) (gr : Bool) (Z : List Int) (sr er : Int) : Prop :=
  ∀ u v, Lst u v L → Calls Try.prog f #[.agg #[.bool g, v, .int .i64 s], .int .i64 k, .int .i64 m] u fun e w' => ∃ a c, e = .returned (.tuple #[.agg #[.bool gr, .slice a Z.length c, .int .i64 sr], .int .i64 er]) ∧ LF w' u.heap.size (.slice a Z.length c) Z ∧ Q u w'
theorem shut {e : Ending} {u w' : World} {B : Nat} {gr : Bool} {Z : List Int} {sr er : Int} (hB : u.heap.size ≤ B) (h : ∃ x, e = .returned (.tuple #[dv gr x sr, .int .i64 er]) ∧ LF w' B x Z ∧ Q u w') : ∃ a c, e = .returned (.tuple #[.agg #[.bool gr, .slice a Z.length c, .int .i64 sr], .int .i64 er]) ∧ LF w' u.heap.size (.slice a Z.length c) Z ∧ Q u w' := by
  obtain ⟨x, rfl, hx, hq⟩ := h
  obtain ⟨a, c, rfl⟩ := hx.shape
  exact ⟨a, c, rfl, hx.mono hB, hq⟩
theorem shut0 {e : Ending} {u w' : World} {gr : Bool} {sr er : Int} (h : e = .returned (.tuple #[dv gr (.slice none 0 0) sr, .int .i64 er]) ∧ Q u w') : ∃ a c, e = .returned (.tuple #[.agg #[.bool gr, .slice a 0 c, .int .i64 sr], .int .i64 er]) ∧ LF w' u.heap.size (.slice a 0 c) [] ∧ Q u w' := by
  obtain ⟨rfl, hq⟩ := h
  exact ⟨none, 0, rfl, LF.nil _ _, hq⟩
theorem rk_len (g : Bool) (s n : Nat) (m : Int) (L : List Int) (hl : L.length < 1900) (hd : Dm.okD L) (hn : n ≤ 1000) : (Dm.dg (Rm.rk g (Dm.st (Dm.num L) s).1 (Dm.st (Dm.num L) s).2 n m)).length ≤ L.length + n + 1 := by
  have a := Dm.num_lt L hd
  have b := Rr.st_fst_le (Dm.num L) s
  have c : Rm.lo (Dm.st (Dm.num L) s).1 (Dm.st (Dm.num L) s).2 n < 10 ^ (L.length + n) := by
    have h0 : 0 < 10 ^ n := Nat.pow_pos (by omega)
    unfold Rm.lo
    split
    · have h1 : 10 ^ (n - (Dm.st (Dm.num L) s).2) ≤ 10 ^ n := Nat.pow_le_pow_right (by omega) (by omega)
      rw [Nat.pow_add]
      calc (Dm.st (Dm.num L) s).1 * 10 ^ (n - (Dm.st (Dm.num L) s).2) ≤ Dm.num L * 10 ^ n := Nat.mul_le_mul b h1
        _ < 10 ^ L.length * 10 ^ n := Nat.mul_lt_mul_of_pos_right a h0
    · have h1 := Nat.div_le_self (Dm.st (Dm.num L) s).1 (10 ^ ((Dm.st (Dm.num L) s).2 - n))
      rw [Nat.pow_add]
      have h2 : 10 ^ L.length * 1 ≤ 10 ^ L.length * 10 ^ n := Nat.mul_le_mul_left _ h0
      omega
  have d : Rm.rk g (Dm.st (Dm.num L) s).1 (Dm.st (Dm.num L) s).2 n m ≤ Rm.lo (Dm.st (Dm.num L) s).1 (Dm.st (Dm.num L) s).2 n + 1 := by
    unfold Rm.rk
    split
    · omega
    · split <;> omega
  exact Dm.dg_len_lt (Rm.rk g (Dm.st (Dm.num L) s).1 (Dm.st (Dm.num L) s).2 n m) (L.length + n + 1) (by rw [Nat.pow_succ]; omega)
/-- Of a decimal that may be, a scale and a mode that are, the program's and the document's own To are one. -/
theorem to_own (g : Bool) (s n : Nat) (m : Int) (L : List Int) (hl : L.length < 1900) (hd : Dm.okD L) (hs : s ≤ 1000) (hn : n ≤ 1000) (hm : 0 ≤ m ∧ m ≤ 6) :
    R3 13 g s n m L (Dm.cg g (Rm.rk g (Dm.st (Dm.num L) s).1 (Dm.st (Dm.num L) s).2 n m)) (Dm.dg (Rm.rk g (Dm.st (Dm.num L) s).1 (Dm.st (Dm.num L) s).2 n m)) n 0 ∧
    R3 15 g s n m L (Dm.cg g (Rm.rk g (Dm.st (Dm.num L) s).1 (Dm.st (Dm.num L) s).2 n m)) (Dm.dg (Rm.rk g (Dm.st (Dm.num L) s).1 (Dm.st (Dm.num L) s).2 n m)) n 0 :=
  ⟨fun u v hv => Calls.mono (Rq.to_any g v s n m L u hv (by omega) hd hs hn hm) fun _ _ h => shut (Nat.le_refl _) h, fun u v hv => Calls.mono (Rr.to_any g v s n m L u hv hl hd hs hn hm) fun _ _ h => shut (by omega) h⟩
/-- The program's alone. -/
theorem to_prog (g : Bool) (s n : Nat) (m : Int) (L : List Int) (hl : L.length < 1900) (hd : Dm.okD L) (hs : s ≤ 1000) (hn : n ≤ 1000) (hm : 0 ≤ m ∧ m ≤ 6) :
    R3 13 g s n m L (Dm.cg g (Rm.rk g (Dm.st (Dm.num L) s).1 (Dm.st (Dm.num L) s).2 n m)) (Dm.dg (Rm.rk g (Dm.st (Dm.num L) s).1 (Dm.st (Dm.num L) s).2 n m)) n 0 :=
  fun u v hv => Calls.mono (Rq.to_any g v s n m L u hv (by omega) hd hs hn hm) fun _ _ h => shut (Nat.le_refl _) h
/-- Of whatever decimal, scale and mode. -/
theorem to_both (g : Bool) (s k m : Int) (L : List Int) (hl : L.length < 1900) (hs : -9223372036854775808 ≤ s ∧ s ≤ 9223372036854775807) (hk9 : -9223372036854775808 ≤ k ∧ k ≤ 9223372036854775807) (hm9 : -9223372036854775808 ≤ m ∧ m ≤ 9223372036854775807) :
    ∃ gr Z sr er, R3 13 g s k m L gr Z sr er ∧ R3 15 g s k m L gr Z sr er ∧ Z.length < 9000 := by
  by_cases hb : (Dm.okB L && decide (0 ≤ s) && decide (s ≤ 1000)) = false ∨ m < 0 ∨ 6 < m
  · exact ⟨false, [], 0, 1, fun u v hv => Calls.mono (Rq.to_bad g v s k m L u hv (by omega) hs hm9 hb) fun _ _ h => shut0 h, fun u v hv => Calls.mono (Rr.to_bad g v s k m L u hv (by omega) hs hb) fun _ _ h => shut0 h, by simp⟩
  · have hb1 : (Dm.okB L && decide (0 ≤ s) && decide (s ≤ 1000)) = true := by
      cases h : (Dm.okB L && decide (0 ≤ s) && decide (s ≤ 1000))
      · exact absurd (.inl h) hb
      · rfl
    have hm : 0 ≤ m ∧ m ≤ 6 := by omega
    by_cases hk : k < 0 ∨ 1000 < k
    · exact ⟨false, [], 0, 3, fun u v hv => Calls.mono (Rq.to_far g v s k m L u hv (by omega) hs hb1 hm hk hk9) fun _ _ h => shut0 h, fun u v hv => Calls.mono (Rr.to_far g v s k m L u hv (by omega) hs hb1 hm hk) fun _ _ h => shut0 h, by simp⟩
    · simp only [Bool.and_eq_true, decide_eq_true_eq] at hb1
      obtain ⟨⟨h1, h2⟩, h3⟩ := hb1
      obtain ⟨t, rfl⟩ : ∃ t : Nat, s = (t : Int) := ⟨s.toNat, by omega⟩
      obtain ⟨n, rfl⟩ : ∃ t : Nat, k = (t : Int) := ⟨k.toNat, by omega⟩
      have h := to_own g t n m L hl ((Dm.okB_iff L).1 h1) (by omega) (by omega) hm
      have hlen := rk_len g t n m L hl ((Dm.okB_iff L).1 h1) (by omega)
      exact ⟨_, _, _, _, h.1, h.2, by omega⟩
/-- The cells of 4 decimals; of the i-th of three lists of them; and of a block of its own. -/
def SB4 (W : World) (b1 : Nat) (g1 : Bool) (v1 : Value) (s1 : Int) (b2 : Nat) (g2 : Bool) (v2 : Value) (s2 : Int) (b3 : Nat) (g3 : Bool) (v3 : Value) (s3 : Int) (b4 : Nat) (g4 : Bool) (v4 : Value) (s4 : Int) (u : World) : Prop := u.cell? ⟨b1, 0, none⟩ = some (.bool g1) ∧ (u.cell? ⟨b1, 1, none⟩ = some v1 ∧ (u.cell? ⟨b1, 2, none⟩ = some (.int .i64 s1) ∧ (u.cell? ⟨b2, 0, none⟩ = some (.bool g2) ∧ (u.cell? ⟨b2, 1, none⟩ = some v2 ∧ (u.cell? ⟨b2, 2, none⟩ = some (.int .i64 s2) ∧ (u.cell? ⟨b3, 0, none⟩ = some (.bool g3) ∧ (u.cell? ⟨b3, 1, none⟩ = some v3 ∧ (u.cell? ⟨b3, 2, none⟩ = some (.int .i64 s3) ∧ (u.cell? ⟨b4, 0, none⟩ = some (.bool g4) ∧ (u.cell? ⟨b4, 1, none⟩ = some v4 ∧ (u.cell? ⟨b4, 2, none⟩ = some (.int .i64 s4) ∧ (Q W u))))))))))))
theorem SB4.of {W u : World} {b1 b2 b3 b4 : Nat} {g1 g2 g3 g4 : Bool} {v1 v2 v3 v4 : Value} {s1 s2 s3 s4 : Int} {T1 T2 T3 T4 : TypeId} (h1 : W.heap[b1]? = some (.cells #[.bool g1, v1, .int .i64 s1] T1)) (h2 : W.heap[b2]? = some (.cells #[.bool g2, v2, .int .i64 s2] T2)) (h3 : W.heap[b3]? = some (.cells #[.bool g3, v3, .int .i64 s3] T3)) (h4 : W.heap[b4]? = some (.cells #[.bool g4, v4, .int .i64 s4] T4)) (q : Q W u) : SB4 W b1 g1 v1 s1 b2 g2 v2 s2 b3 g3 v3 s3 b4 g4 v4 s4 u := by
  obtain ⟨p10, p11, p12, _, _, _⟩ := block_cells ((q.block (lt_of_block h1)).trans h1)
  obtain ⟨p20, p21, p22, _, _, _⟩ := block_cells ((q.block (lt_of_block h2)).trans h2)
  obtain ⟨p30, p31, p32, _, _, _⟩ := block_cells ((q.block (lt_of_block h3)).trans h3)
  obtain ⟨p40, p41, p42, _, _, _⟩ := block_cells ((q.block (lt_of_block h4)).trans h4)
  exact ⟨p10, p11, p12, p20, p21, p22, p30, p31, p32, p40, p41, p42, q⟩
theorem SB4.here {W u : World} {b1 b2 b3 b4 : Nat} {g1 g2 g3 g4 : Bool} {v1 v2 v3 v4 : Value} {s1 s2 s3 s4 : Int} (k : SB4 W b1 g1 v1 s1 b2 g2 v2 s2 b3 g3 v3 s3 b4 g4 v4 s4 u) : Q W u := k.2.2.2.2.2.2.2.2.2.2.2.2
def SN (W : World) (b m : Nat) (x : ByteArray) (u : World) : Prop := u.cell? ⟨b, m, none⟩ = some (.string x) ∧ Q W u
theorem SN.here {W u : World} {b m : Nat} {x : ByteArray} (k : SN W b m x u) : Q W u := k.2
def SU (W : World) (X Y O i : Nat) (g : Bool) (v : Value) (s : Int) (h : Bool) (x : Value) (t : Int) (k : Bool) (y : Value) (r : Int) (u : World) : Prop := u.cell? ⟨X, i * 3, none⟩ = some (.bool g) ∧ (u.cell? ⟨X, i * 3 + 1, none⟩ = some v ∧ (u.cell? ⟨X, i * 3 + 2, none⟩ = some (.int .i64 s) ∧ (u.cell? ⟨Y, i * 3, none⟩ = some (.bool h) ∧ (u.cell? ⟨Y, i * 3 + 1, none⟩ = some x ∧ (u.cell? ⟨Y, i * 3 + 2, none⟩ = some (.int .i64 t) ∧ (u.cell? ⟨O, i * 3, none⟩ = some (.bool k) ∧ (u.cell? ⟨O, i * 3 + 1, none⟩ = some y ∧ (u.cell? ⟨O, i * 3 + 2, none⟩ = some (.int .i64 r) ∧ (Q W u)))))))))
theorem SU.here {W u : World} {X Y O i : Nat} {g h k : Bool} {v x y : Value} {s t r : Int} (z : SU W X Y O i g v s h x t k y r u) : Q W u := z.2.2.2.2.2.2.2.2.2
def SV (W : World) (X Y O i : Nat) (g : Bool) (v : Value) (s : Int) (h : Bool) (x : Value) (t : Int) (k : Bool) (y : Value) (r : Int) (b : Nat) (gb : Bool) (vb : Value) (sb : Int) (u : World) : Prop := u.cell? ⟨X, i * 3, none⟩ = some (.bool g) ∧ (u.cell? ⟨X, i * 3 + 1, none⟩ = some v ∧ (u.cell? ⟨X, i * 3 + 2, none⟩ = some (.int .i64 s) ∧ (u.cell? ⟨Y, i * 3, none⟩ = some (.bool h) ∧ (u.cell? ⟨Y, i * 3 + 1, none⟩ = some x ∧ (u.cell? ⟨Y, i * 3 + 2, none⟩ = some (.int .i64 t) ∧ (u.cell? ⟨O, i * 3, none⟩ = some (.bool k) ∧ (u.cell? ⟨O, i * 3 + 1, none⟩ = some y ∧ (u.cell? ⟨O, i * 3 + 2, none⟩ = some (.int .i64 r) ∧ (u.cell? ⟨b, 0, none⟩ = some (.bool gb) ∧ (u.cell? ⟨b, 1, none⟩ = some vb ∧ (u.cell? ⟨b, 2, none⟩ = some (.int .i64 sb) ∧ (Q W u))))))))))))
theorem SV.here {W u : World} {X Y O i b : Nat} {g h k : Bool} {v x y : Value} {s t r : Int} {gb : Bool} {vb : Value} {sb : Int} (z : SV W X Y O i g v s h x t k y r b gb vb sb u) : Q W u := z.2.2.2.2.2.2.2.2.2.2.2.2
/-- A call on three decimals: a decimal, and an error. -/
def R4 (f : FuncId) (g : Bool) (s : Int) (L : List Int) (h : Bool) (t : Int) (M : List Int) (k : Bool) (r : Int) (N : List Int) (gr : Bool) (Z : List Int) (sr er : Int) : Prop :=
  ∀ u v x y, Lst u v L → Lst u x M → Lst u y N → Calls Try.prog f #[.agg #[.bool g, v, .int .i64 s], .agg #[.bool h, x, .int .i64 t], .agg #[.bool k, y, .int .i64 r]] u fun e w' => ∃ a c, e = .returned (.tuple #[.agg #[.bool gr, .slice a Z.length c, .int .i64 sr], .int .i64 er]) ∧ LF w' u.heap.size (.slice a Z.length c) Z ∧ Q u w'
theorem cmpD_stl (g : Bool) (M s : Nat) (h : Bool) (B t : Nat) : Dm.cmpD (Dm.cg g M) (Dm.st M s).1 (Dm.st M s).2 h B t = Dm.cmpD g M s h B t := by
  have h1 := Dm.st_le M s
  rw [Ep.cmpD_at (Dm.cg g M) _ _ h B t (max s t) (by omega) (by omega), Ep.cmpD_at g M s h B t (max s t) (by omega) (by omega), Rm.st_scale M s (max s t) (by omega)]
  have e : Ep.sv (Dm.cg g M) (M * 10 ^ (max s t - s)) = Ep.sv g (M * 10 ^ (max s t - s)) := by rw [← Ep.sv_mul, Ep.sv_cg, Ep.sv_mul]
  rw [e]
/-- Within the bounds a number stays. -/
theorem clamp_again (g : Bool) (M s : Nat) (h : Bool) (t : Nat) (L1 : List Int) (k : Bool) (r : Nat) (L2 : List Int) (hl0 : (Dm.dg (Dm.st M s).1).length < 10000) (hl1 : L1.length < 10000) (hl2 : L2.length < 10000) (hd1 : Dm.okD L1) (hd2 : Dm.okD L2) (hs : s ≤ 1000) (ht : t ≤ 1000) (hr : r ≤ 1000) (hk : ¬ 0 < Dm.cmpD h (Dm.num L1) t k (Dm.num L2) r) (hk2 : ¬ Dm.cmpD g M s h (Dm.num L1) t < 0) (hk3 : ¬ 0 < Dm.cmpD g M s k (Dm.num L2) r) :
    R4 26 (Dm.cg g M) ((Dm.st M s).2 : Nat) (Dm.dg (Dm.st M s).1) h t L1 k r L2 (Dm.cg g M) (Dm.dg (Dm.st M s).1) ((Dm.st M s).2 : Nat) 0 := by
  intro u v x y hv hx hy
  have hz := Dm.st_le M s
  have e := Rq.clamp_mid (Dm.cg g M) h k v x y (Dm.st M s).2 t r (Dm.dg (Dm.st M s).1) L1 L2 u hv hx hy hl0 hl1 hl2 (Dm.okD_dg _) hd1 hd2 (by omega) ht hr hk (by rw [Dm.num_dg, cmpD_stl]; exact hk2) (by rw [Dm.num_dg, cmpD_stl]; exact hk3)
  rw [Dm.num_dg, Dm.st_trim, Dm.cg_st, Dm.cg_cg] at e
  exact Calls.mono e fun _ _ h => shut (by omega) h
theorem st_len (L : List Int) (s : Nat) (hd : Dm.okD L) : (Dm.dg (Dm.st (Dm.num L) s).1).length ≤ L.length := Nat.le_trans (Dm.dg_len_le _ _ (Rr.st_fst_le _ _)) (Dm.dg_len L hd)
/-- Of whatever three decimals the program's and the document's own Clamp are one; what lies within the bounds stays. -/
theorem clamp_both (g h k : Bool) (s t r : Int) (L0 L1 L2 : List Int) (hl0 : L0.length < 1000) (hl1 : L1.length < 1000) (hl2 : L2.length < 1000) (hs : -9223372036854775808 ≤ s ∧ s ≤ 9223372036854775807) (ht : -9223372036854775808 ≤ t ∧ t ≤ 9223372036854775807) (hr : -9223372036854775808 ≤ r ∧ r ≤ 9223372036854775807) :
    ∃ gr Z sr er, R4 26 g s L0 h t L1 k r L2 gr Z sr er ∧ R4 27 g s L0 h t L1 k r L2 gr Z sr er ∧ Z.length < 9000 ∧ (er ≠ 0 ∨ (er = 0 ∧ R4 26 gr sr Z h t L1 k r L2 gr Z sr 0)) := by
  cases hb : ((Dm.okB L0 && decide (0 ≤ s) && decide (s ≤ 1000)) && (Dm.okB L1 && decide (0 ≤ t) && decide (t ≤ 1000)) && (Dm.okB L2 && decide (0 ≤ r) && decide (r ≤ 1000)))
  · exact ⟨false, [], 0, 1, fun u v x y hv hx hy => Calls.mono (Rq.clamp_bad g h k v x y s t r L0 L1 L2 u hv hx hy (by omega) (by omega) (by omega) hs ht hr hb) fun _ _ h => shut0 h, fun u v x y hv hx hy => Calls.mono (Rr.clamp_bad g h k v x y s t r L0 L1 L2 u hv hx hy (by omega) (by omega) (by omega) hs ht hr hb) fun _ _ h => shut0 h, by simp, .inl (by decide)⟩
  · simp only [Bool.and_eq_true, decide_eq_true_eq] at hb
    obtain ⟨⟨⟨⟨a1, a2⟩, a3⟩, ⟨⟨b1, b2⟩, b3⟩⟩, ⟨⟨c1, c2⟩, c3⟩⟩ := hb
    have d0 := (Dm.okB_iff L0).1 a1
    have d1 := (Dm.okB_iff L1).1 b1
    have d2 := (Dm.okB_iff L2).1 c1
    obtain ⟨s, rfl⟩ : ∃ t : Nat, s = (t : Int) := ⟨s.toNat, by omega⟩
    obtain ⟨t, rfl⟩ : ∃ z : Nat, t = (z : Int) := ⟨t.toNat, by omega⟩
    obtain ⟨r, rfl⟩ : ∃ z : Nat, r = (z : Int) := ⟨r.toNat, by omega⟩
    have z0 := st_len L0 s d0
    have z1 := st_len L1 t d1
    have z2 := st_len L2 r d2
    by_cases k1 : 0 < Dm.cmpD h (Dm.num L1) t k (Dm.num L2) r
    · exact ⟨false, [], 0, 3, fun u v x y hv hx hy => Calls.mono (Rq.clamp_out g h k v x y s t r L0 L1 L2 u hv hx hy (by omega) (by omega) (by omega) d0 d1 d2 (by omega) (by omega) (by omega) k1) fun _ _ h => shut0 h, fun u v x y hv hx hy => Calls.mono (Rr.clamp_out g h k v x y s t r L0 L1 L2 u hv hx hy (by omega) (by omega) (by omega) d0 d1 d2 (by omega) (by omega) (by omega) k1) fun _ _ h => shut0 h, by simp, .inl (by decide)⟩
    · by_cases k2 : Dm.cmpD g (Dm.num L0) s h (Dm.num L1) t < 0
      · exact ⟨_, _, _, 0, fun u v x y hv hx hy => Calls.mono (Rq.clamp_low g h k v x y s t r L0 L1 L2 u hv hx hy (by omega) (by omega) (by omega) d0 d1 d2 (by omega) (by omega) (by omega) k1 k2) fun _ _ h => shut (by omega) h, fun u v x y hv hx hy => Calls.mono (Rr.clamp_low g h k v x y s t r L0 L1 L2 u hv hx hy (by omega) (by omega) (by omega) d0 d1 d2 (by omega) (by omega) (by omega) k1 k2) fun _ _ h => shut (by omega) h, by omega, .inr ⟨rfl, clamp_again h (Dm.num L1) t h t L1 k r L2 (by omega) (by omega) (by omega) d1 d2 (by omega) (by omega) (by omega) k1 (by rw [Ep.cmpD_self]; decide) k1⟩⟩
      · by_cases k3 : 0 < Dm.cmpD g (Dm.num L0) s k (Dm.num L2) r
        · exact ⟨_, _, _, 0, fun u v x y hv hx hy => Calls.mono (Rq.clamp_high g h k v x y s t r L0 L1 L2 u hv hx hy (by omega) (by omega) (by omega) d0 d1 d2 (by omega) (by omega) (by omega) k1 k2 k3) fun _ _ h => shut (by omega) h, fun u v x y hv hx hy => Calls.mono (Rr.clamp_high g h k v x y s t r L0 L1 L2 u hv hx hy (by omega) (by omega) (by omega) d0 d1 d2 (by omega) (by omega) (by omega) k1 k2 k3) fun _ _ h => shut (by omega) h, by omega, .inr ⟨rfl, clamp_again k (Dm.num L2) r h t L1 k r L2 (by omega) (by omega) (by omega) d1 d2 (by omega) (by omega) (by omega) k1 (by rw [Ep.cmpD_anti h (Dm.num L1) t k (Dm.num L2) r]; omega) (by rw [Ep.cmpD_self]; decide)⟩⟩
        · exact ⟨_, _, _, 0, fun u v x y hv hx hy => Calls.mono (Rq.clamp_mid g h k v x y s t r L0 L1 L2 u hv hx hy (by omega) (by omega) (by omega) d0 d1 d2 (by omega) (by omega) (by omega) k1 k2 k3) fun _ _ h => shut (by omega) h, fun u v x y hv hx hy => Calls.mono (Rr.clamp_mid g h k v x y s t r L0 L1 L2 u hv hx hy (by omega) (by omega) (by omega) d0 d1 d2 (by omega) (by omega) (by omega) k1 k2 k3) fun _ _ h => shut (by omega) h, by omega, .inr ⟨rfl, clamp_again g (Dm.num L0) s h t L1 k r L2 (by omega) (by omega) (by omega) d1 d2 (by omega) (by omega) (by omega) k1 k2 k3⟩⟩
theorem cmp_sh (g h : Bool) (s t : Nat) (L N : List Int) (hl : L.length < 10000) (hl2 : N.length < 10000) (hx : Dm.okD L) (hy : Dm.okD N) (hs : s ≤ 1000) (ht : t ≤ 1000) (u : World) (a b : Option Addr) (p q c d : Nat) (hp : L.length = p) (hq : N.length = q) (h1 : Lst u (.slice a p c) L) (h2 : Lst u (.slice b q d) N) :
    Calls Try.prog 21 #[.agg #[.bool g, .slice a p c, .int .i64 s], .agg #[.bool h, .slice b q d, .int .i64 t]] u fun e w' => e = .returned (.int .i64 (Dm.cmpD g (Dm.num L) s h (Dm.num N) t)) ∧ Q u w' :=
  Er.compare_any g h _ _ s t L N u h1 h2 hl hl2 hx hy hs ht
theorem live6 : ∀ (u : World) (v : Value), Lst u v [2, 5] → Calls Try.prog 13 #[.agg #[.bool true, v, .int .i64 1], .int .i64 0, .int .i64 6] u fun e w' => ∃ a c, e = .returned (.tuple #[.agg #[.bool true, .slice a 1 c, .int .i64 0], .int .i64 0]) ∧ LF w' u.heap.size (.slice a 1 c) [2] ∧ Q u w' := by
  have h := to_prog true 1 0 6 [2, 5] (by decide) (fun d hd => by simp at hd; omega) (by omega) (by omega) (by omega)
  have e : Rm.rk true (Dm.st (Dm.num [2, 5]) 1).1 (Dm.st (Dm.num [2, 5]) 1).2 0 6 = 2 ∧ Dm.dg 2 = [2] := by decide +kernel
  unfold R3 at h
  rw [e.1, e.2] at h
  exact h
theorem live5 : ∀ (u : World) (v : Value), Lst u v [2, 5] → Calls Try.prog 13 #[.agg #[.bool true, v, .int .i64 1], .int .i64 0, .int .i64 5] u fun e w' => ∃ a c, e = .returned (.tuple #[.agg #[.bool true, .slice a 1 c, .int .i64 0], .int .i64 0]) ∧ LF w' u.heap.size (.slice a 1 c) [3] ∧ Q u w' := by
  have h := to_prog true 1 0 5 [2, 5] (by decide) (fun d hd => by simp at hd; omega) (by omega) (by omega) (by omega)
  have e : Rm.rk true (Dm.st (Dm.num [2, 5]) 1).1 (Dm.st (Dm.num [2, 5]) 1).2 0 5 = 3 ∧ Dm.dg 3 = [3] := by decide +kernel
  unfold R3 at h
  rw [e.1, e.2] at h
  exact h
theorem live_same (u : World) (x y : Value) (L : List Int) (h1 : Lst u x L) (h2 : Lst u y L) (hl : L.length < 1000) : Calls Try.prog 25 #[x, y] u fun e w' => e = .returned (.bool true) ∧ Q u w' := by
  have e := Ur.same_any x y L L u h1 h2 (by omega) (by omega)
  simp only [decide_true] at e
  exact e
set_option maxHeartbeats 1600000 in
theorem lives_any (w : World) : Calls Try.prog 18 #[] w fun e w' => e = .returned (.bool true) ∧ Q w w' := by
  have T6 := Lib.hid live6
  have T5 := Lib.hid live5
  have SM := Lib.hid live_same
  go_enter Try.func18, Try.ntmps18
  have h0 : Lst (w.alloc (.cells #[.int .i64 2, .int .i64 5] 3)) (.slice (some ⟨w.heap.size, 0, none⟩) 2 2) [2, 5] := Lst.made w [2, 5] 2 rfl (by unfold maxLen; omega)
  have Ld := Lib.hid (h0.q ((Q.refl _).alloc (.cells #[.bool true, .slice (some ⟨w.heap.size, 0, none⟩) 2 2, .int .i64 1] 27)))
  have Bd := Lib.hid (heap_alloc2_new w (.cells #[.int .i64 2, .int .i64 5] 3) (.cells #[.bool true, .slice (some ⟨w.heap.size, 0, none⟩) 2 2, .int .i64 1] 27))
  have Q0 := Lib.hid (((Q.refl w).alloc (.cells #[.int .i64 2, .int .i64 5] 3)).alloc (.cells #[.bool true, .slice (some ⟨w.heap.size, 0, none⟩) 2 2, .int .i64 1] 27))
  clear h0
  obtain ⟨k_d0, k_d1, k_d2, _, _, _⟩ := Er.block_cells Bd.out
  go_wp2_with fail
  refine (T6.out _ _ Ld.out).mono ?_
  rintro e z1 ⟨a1, c1, rfl, hx, hq⟩
  clear k_d0 k_d1 k_d2
  have L1_d := Lib.hid (Lst.q Ld.out hq)
  clear Ld
  have B1_d := Lib.hid ((Q.block hq (lt_of_block Bd.out)).trans Bd.out)
  clear Bd
  have Q1 := Lib.hid (Q.trans Q0.out hq)
  clear Q0
  have L1_A := Lib.hid hx.lst
  clear hx
  clear hq
  have hq := (Q.refl z1).alloc (.cells #[.bool true, .slice a1 1 c1, .int .i64 0] 27)
  have hb := heap_alloc_new z1 (.cells #[.bool true, .slice a1 1 c1, .int .i64 0] 27)
  have L2_d := Lib.hid (Lst.q L1_d.out hq)
  clear L1_d
  have L2_A := Lib.hid (Lst.q L1_A.out hq)
  clear L1_A
  have B2_d := Lib.hid ((Q.block hq (lt_of_block B1_d.out)).trans B1_d.out)
  clear B1_d
  have Q2 := Lib.hid (Q.trans Q1.out hq)
  clear Q1
  have B2_a := Lib.hid hb
  clear hb hq
  obtain ⟨k_d0, k_d1, k_d2, _, _, _⟩ := Er.block_cells B2_d.out
  obtain ⟨k_a0, k_a1, k_a2, _, _, _⟩ := Er.block_cells B2_a.out
  go_wp2_with fail
  refine (T5.out _ _ L2_d.out).mono ?_
  rintro e z3 ⟨a2, c2, rfl, hx, hq⟩
  clear k_d0 k_d1 k_d2 k_a0 k_a1 k_a2
  have L3_d := Lib.hid (Lst.q L2_d.out hq)
  clear L2_d
  have L3_A := Lib.hid (Lst.q L2_A.out hq)
  clear L2_A
  have B3_d := Lib.hid ((Q.block hq (lt_of_block B2_d.out)).trans B2_d.out)
  clear B2_d
  have B3_a := Lib.hid ((Q.block hq (lt_of_block B2_a.out)).trans B2_a.out)
  clear B2_a
  have Q3 := Lib.hid (Q.trans Q2.out hq)
  clear Q2
  have L3_B := Lib.hid hx.lst
  clear hx
  clear hq
  have hq := (Q.refl z3).alloc (.cells #[.bool true, .slice a2 1 c2, .int .i64 0] 27)
  have hb := heap_alloc_new z3 (.cells #[.bool true, .slice a2 1 c2, .int .i64 0] 27)
  have L4_d := Lib.hid (Lst.q L3_d.out hq)
  clear L3_d
  have L4_A := Lib.hid (Lst.q L3_A.out hq)
  clear L3_A
  have L4_B := Lib.hid (Lst.q L3_B.out hq)
  clear L3_B
  have B4_d := Lib.hid ((Q.block hq (lt_of_block B3_d.out)).trans B3_d.out)
  clear B3_d
  have B4_a := Lib.hid ((Q.block hq (lt_of_block B3_a.out)).trans B3_a.out)
  clear B3_a
  have Q4 := Lib.hid (Q.trans Q3.out hq)
  clear Q3
  have B4_b := Lib.hid hb
  clear hb hq
  have hq := (Q.refl (z3.alloc (.cells #[.bool true, .slice a2 1 c2, .int .i64 0] 27))).alloc (.cells #[.int .i64 2] 3)
  have hn : Lst ((z3.alloc (.cells #[.bool true, .slice a2 1 c2, .int .i64 0] 27)).alloc (.cells #[.int .i64 2] 3)) _ [2] := Lst.made (z3.alloc (.cells #[.bool true, .slice a2 1 c2, .int .i64 0] 27)) [2] 1 rfl (by unfold maxLen; omega)
  try rw [World.size_alloc] at hn
  obtain ⟨k_d0, k_d1, k_d2, _, _, _⟩ := Er.block_cells B4_d.out
  obtain ⟨k_a0, k_a1, k_a2, _, _, _⟩ := Er.block_cells B4_a.out
  obtain ⟨k_b0, k_b1, k_b2, _, _, _⟩ := Er.block_cells B4_b.out
  have L6_d := Lib.hid (Lst.q L4_d.out hq)
  clear L4_d
  have L6_A := Lib.hid (Lst.q L4_A.out hq)
  clear L4_A
  have L6_B := Lib.hid (Lst.q L4_B.out hq)
  clear L4_B
  have B6_d := Lib.hid ((Q.block hq (lt_of_block B4_d.out)).trans B4_d.out)
  clear B4_d
  have B6_a := Lib.hid ((Q.block hq (lt_of_block B4_a.out)).trans B4_a.out)
  clear B4_a
  have B6_b := Lib.hid ((Q.block hq (lt_of_block B4_b.out)).trans B4_b.out)
  clear B4_b
  have Q6 := Lib.hid (Q.trans Q4.out hq)
  clear Q4
  have LN := Lib.hid hn
  clear hq hn
  go_wp2_with fail
  refine (SM.out _ _ _ [2] L6_A.out LN.out (by decide)).mono ?_
  rintro e xA ⟨rfl, hq⟩
  clear LN k_d0 k_d1 k_d2 k_a0 k_a1 k_a2 k_b0 k_b1 k_b2
  have L7_d := Lib.hid (Lst.q L6_d.out hq)
  clear L6_d
  have L7_A := Lib.hid (Lst.q L6_A.out hq)
  clear L6_A
  have L7_B := Lib.hid (Lst.q L6_B.out hq)
  clear L6_B
  have B7_d := Lib.hid ((Q.block hq (lt_of_block B6_d.out)).trans B6_d.out)
  clear B6_d
  have B7_a := Lib.hid ((Q.block hq (lt_of_block B6_a.out)).trans B6_a.out)
  clear B6_a
  have B7_b := Lib.hid ((Q.block hq (lt_of_block B6_b.out)).trans B6_b.out)
  clear B6_b
  have Q7 := Lib.hid (Q.trans Q6.out hq)
  clear Q6
  clear hq
  have hq := (Q.refl xA).alloc (.cells #[.int .i64 3] 3)
  have hn : Lst (xA.alloc (.cells #[.int .i64 3] 3)) _ [3] := Lst.made xA [3] 1 rfl (by unfold maxLen; omega)
  try rw [World.size_alloc] at hn
  obtain ⟨k_d0, k_d1, k_d2, _, _, _⟩ := Er.block_cells B7_d.out
  obtain ⟨k_a0, k_a1, k_a2, _, _, _⟩ := Er.block_cells B7_a.out
  obtain ⟨k_b0, k_b1, k_b2, _, _, _⟩ := Er.block_cells B7_b.out
  have L9_d := Lib.hid (Lst.q L7_d.out hq)
  clear L7_d
  have L9_A := Lib.hid (Lst.q L7_A.out hq)
  clear L7_A
  have L9_B := Lib.hid (Lst.q L7_B.out hq)
  clear L7_B
  have B9_d := Lib.hid ((Q.block hq (lt_of_block B7_d.out)).trans B7_d.out)
  clear B7_d
  have B9_a := Lib.hid ((Q.block hq (lt_of_block B7_a.out)).trans B7_a.out)
  clear B7_a
  have B9_b := Lib.hid ((Q.block hq (lt_of_block B7_b.out)).trans B7_b.out)
  clear B7_b
  have Q9 := Lib.hid (Q.trans Q7.out hq)
  clear Q7
  have LN := Lib.hid hn
  clear hq hn
  go_wp2_with fail
  refine (SM.out _ _ _ [3] L9_B.out LN.out (by decide)).mono ?_
  rintro e xB ⟨rfl, hq⟩
  clear LN k_d0 k_d1 k_d2 k_a0 k_a1 k_a2 k_b0 k_b1 k_b2
  have L10_d := Lib.hid (Lst.q L9_d.out hq)
  clear L9_d
  have L10_A := Lib.hid (Lst.q L9_A.out hq)
  clear L9_A
  have L10_B := Lib.hid (Lst.q L9_B.out hq)
  clear L9_B
  have B10_d := Lib.hid ((Q.block hq (lt_of_block B9_d.out)).trans B9_d.out)
  clear B9_d
  have B10_a := Lib.hid ((Q.block hq (lt_of_block B9_a.out)).trans B9_a.out)
  clear B9_a
  have B10_b := Lib.hid ((Q.block hq (lt_of_block B9_b.out)).trans B9_b.out)
  clear B9_b
  have Q10 := Lib.hid (Q.trans Q9.out hq)
  clear Q9
  clear hq
  obtain ⟨k_d0, k_d1, k_d2, _, _, _⟩ := Er.block_cells B10_d.out
  obtain ⟨k_a0, k_a1, k_a2, _, _, _⟩ := Er.block_cells B10_a.out
  obtain ⟨k_b0, k_b1, k_b2, _, _, _⟩ := Er.block_cells B10_b.out
  go_wp2_with fail
  go_ret
  exact ⟨rfl, Q10.out⟩
end Rl
end Go.Proofs.Ytebcgpoemppljaa
