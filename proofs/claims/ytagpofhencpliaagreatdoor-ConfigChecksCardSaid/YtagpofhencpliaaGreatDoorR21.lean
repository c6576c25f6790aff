/- Decimals as numbers with their signs, mathematics: which is greater is an order; both together; what is added is taken away again. (and more) -/
import Derived.Test.YtagpofhencpliaaGreatDoorR00
import Derived.Test.YtagpofhencpliaaGreatDoorR19
import Derived.Test.YtagpofhencpliaaGreatDoorR02
import Derived.Test.YtagpofhencpliaaGreatDoorRows
import Derived.Test.YtagpofhencpliaaGreatDoorR14
import Derived.Test.YtagpofhencpliaaGreatDoorR10
import Derived.Test.YtagpofhencpliaaGreatDoorR13
import Derived.Test.YtagpofhencpliaaGreatDoorR09
import Derived.Test.YtagpofhencpliaaGreatDoorR05
import Derived.Test.YtagpofhencpliaaGreatDoorR08
import Derived.Test.YtagpofhencpliaaGreatDoorR03
import Derived.Deep.CutRange
import Derived.Deep.CutBlock
import Derived.Deep.DeepCutAuto
import Derived.Deep.QuietTactic
import Derived.Deep.RegionWith
import Derived.Deep.RegionHeld3
import Derived.BigQuiet
import Derived.Laws.ResultCell
set_option linter.unusedVariables false
set_option linter.unusedSimpArgs false
namespace Go.Proofs.YtagpofhencpliaaGreatDoor
open Go.RowKit
namespace Ep
def sv (g : Bool) (M : Nat) : Int := if g = true then -(M : Int) else (M : Int)
theorem cmpD_at (g : Bool) (A sa : Nat) (h : Bool) (B sb n : Nat) (ha : sa ≤ n) (hb : sb ≤ n) : Dm.cmpD g A sa h B sb = Dm.cmpZ (sv g (A * 10 ^ (n - sa))) (sv h (B * 10 ^ (n - sb))) := by
  have hc := Dm.cmpS_at A sa B sb n ha hb
  have h1 : Dm.cg g A = Dm.cg g (A * 10 ^ (n - sa)) := by
    unfold Dm.cg
    have hp : 0 < 10 ^ (n - sa) := Nat.pow_pos (by omega)
    by_cases h0 : A = 0
    · subst h0; rw [Nat.zero_mul]
    · rw [if_neg h0, if_neg (by have := Nat.mul_pos (Nat.pos_of_ne_zero h0) hp; omega)]
  have h2 : Dm.cg h B = Dm.cg h (B * 10 ^ (n - sb)) := by
    unfold Dm.cg
    have hp : 0 < 10 ^ (n - sb) := Nat.pow_pos (by omega)
    by_cases h0 : B = 0
    · subst h0; rw [Nat.zero_mul]
    · rw [if_neg h0, if_neg (by have := Nat.mul_pos (Nat.pos_of_ne_zero h0) hp; omega)]
  unfold Dm.cmpD
  rw [← hc, h1, h2]
  generalize A * 10 ^ (n - sa) = a
  generalize B * 10 ^ (n - sb) = b
  unfold Dm.cg sv Dm.cmpZ
  cases g <;> cases h <;> by_cases ha : a = 0 <;> by_cases hb : b = 0 <;> simp [ha, hb] <;> (repeat' split) <;> omega
theorem cmpD_anti (g : Bool) (A sa : Nat) (h : Bool) (B sb : Nat) : Dm.cmpD h B sb g A sa = - Dm.cmpD g A sa h B sb := by
  rw [cmpD_at g A sa h B sb (max sa sb) (by omega) (by omega), cmpD_at h B sb g A sa (max sa sb) (by omega) (by omega)]
  exact Dm.cmpZ_neg _ _
end Ep
end Go.Proofs.YtagpofhencpliaaGreatDoor
namespace Go.Proofs.YtagpofhencpliaaGreatDoor
open Go.RowKit
namespace Rm
open Ep (sv cmpD_at)
theorem st_last (M s : Nat) (h : (Dm.st M s).2 ≠ 0) : (Dm.st M s).1 % 10 ≠ 0 := by
  induction s generalizing M with
  | zero =>
    have := Dm.st_le M 0
    omega
  | succ s ih =>
    by_cases h0 : M % 10 = 0
    · rw [Dm.st_on M s h0] at h ⊢
      exact ih _ h
    · rw [Dm.st_end M s h0]; exact h0
def lo (A sa n : Nat) : Nat := if sa ≤ n then A * 10 ^ (n - sa) else A / 10 ^ (sa - n)
def rs (A sa n : Nat) : Nat := if sa ≤ n then 0 else A % 10 ^ (sa - n)
def un (sa n : Nat) : Nat := 10 ^ (sa - n)
def up (g : Bool) (K r B : Nat) (m : Int) : Bool :=
  if m = 1 then true else if m = 2 then g else if m = 3 then !g else if m = 4 then decide (0 < Dm.cmpZ (r : Int) ((B - r : Nat) : Int)) else if m = 5 then decide (0 ≤ Dm.cmpZ (r : Int) ((B - r : Nat) : Int)) else if m = 6 then decide (0 < Dm.cmpZ (r : Int) ((B - r : Nat) : Int)) || (decide (Dm.cmpZ (r : Int) ((B - r : Nat) : Int) = 0) && decide (K % 2 = 1)) else false
def rk (g : Bool) (A sa n : Nat) (m : Int) : Nat := if sa ≤ n then lo A sa n else if up g (lo A sa n) (rs A sa n) (un sa n) m = true then lo A sa n + 1 else lo A sa n
theorem rs_pos {A sa n : Nat} (h : n < sa) (hA : A % 10 ≠ 0) : 0 < rs A sa n := by
  unfold rs
  rw [if_neg (by omega)]
  obtain ⟨k, hk⟩ : ∃ k, sa - n = k + 1 := ⟨sa - n - 1, by omega⟩
  rw [hk]
  by_cases h0 : A % 10 ^ (k + 1) = 0
  · exfalso
    have h1 : 10 ∣ 10 ^ (k + 1) := ⟨10 ^ k, by rw [Nat.pow_succ, Nat.mul_comm]⟩
    have h2 : 10 ∣ A := Nat.dvd_trans h1 (Nat.dvd_of_mod_eq_zero h0)
    exact hA (Nat.mod_eq_zero_of_dvd h2)
  · omega
theorem rs_lt {A sa n : Nat} (h : n < sa) : rs A sa n < un sa n := by
  unfold rs un
  rw [if_neg (by omega)]
  exact Nat.mod_lt _ (Nat.pow_pos (by omega))
theorem lo_rs {A sa n : Nat} (h : n < sa) : lo A sa n * un sa n + rs A sa n = A := by
  unfold lo rs un
  rw [if_neg (by omega), if_neg (by omega), Nat.mul_comm]
  exact Nat.div_add_mod _ _
theorem at_scale {A sa n N : Nat} (h : n < sa) (hN : sa ≤ N) : lo A sa n * 10 ^ (N - n) + rs A sa n * 10 ^ (N - sa) = A * 10 ^ (N - sa) ∧ 10 ^ (N - n) = un sa n * 10 ^ (N - sa) := by
  have h1 : 10 ^ (N - n) = un sa n * 10 ^ (N - sa) := by
    unfold un
    rw [← Nat.pow_add, show sa - n + (N - sa) = N - n from by omega]
  refine ⟨?_, h1⟩
  have h2 := lo_rs (A := A) h
  rw [h1, ← Nat.mul_assoc, ← Nat.add_mul, h2]
theorem at_exact {A sa n N : Nat} (h : sa ≤ n) (hN : n ≤ N) : lo A sa n * 10 ^ (N - n) = A * 10 ^ (N - sa) := by
  unfold lo
  rw [if_pos h, Nat.mul_assoc, ← Nat.pow_add, show n - sa + (N - n) = N - sa from by omega]
theorem st_scale (M s N : Nat) (h : s ≤ N) : (Dm.st M s).1 * 10 ^ (N - (Dm.st M s).2) = M * 10 ^ (N - s) := by
  have h1 := Dm.st_num M s
  have h2 := Dm.st_le M s
  calc (Dm.st M s).1 * 10 ^ (N - (Dm.st M s).2) = (Dm.st M s).1 * (10 ^ (s - (Dm.st M s).2) * 10 ^ (N - s)) := by rw [← Nat.pow_add, show s - (Dm.st M s).2 + (N - s) = N - (Dm.st M s).2 from by omega]
    _ = M * 10 ^ (N - s) := by rw [← Nat.mul_assoc, h1]
theorem cmpZ_scale (x y p : Nat) (hp : 0 < p) : Dm.cmpZ ((x * p : Nat) : Int) ((y * p : Nat) : Int) = Dm.cmpZ (x : Int) (y : Int) := Dm.cmpZ_mul x y p hp
theorem num_cut (l : List Int) (h : Dm.okD l) (k : Nat) : Dm.num (Dm.shl l (-(k : Int))) = Dm.num l / 10 ^ k ∧ Dm.okD (Dm.shl l (-(k : Int))) := by
  have e : Dm.shl l (-(k : Int)) = l.take (l.length - k) := by
    unfold Dm.shl
    rw [show (-(k : Int)).toNat = 0 from by omega, List.replicate_zero, List.append_nil]
    congr 1
    omega
  rw [e]
  refine ⟨?_, Dm.okD_take h _⟩
  have h1 := Dm.num_append (l.take (l.length - k)) (l.drop (l.length - k))
  rw [List.take_append_drop] at h1
  have h2 := Dm.num_lt _ (Dm.okD_drop h (l.length - k))
  have h3 : (l.drop (l.length - k)).length = min k l.length := by rw [List.length_drop]; omega
  rw [h3] at h1 h2
  by_cases hk : k ≤ l.length
  · rw [show min k l.length = k from by omega] at h1 h2
    rw [h1]
    have hp : 0 < 10 ^ k := Nat.pow_pos (by omega)
    rw [Nat.mul_comm, Nat.mul_add_div hp, Nat.div_eq_of_lt h2, Nat.add_zero]
  · have h4 := Dm.num_lt l h
    have h5 : 10 ^ l.length ≤ 10 ^ k := Nat.pow_le_pow_right (by omega) (by omega)
    rw [show l.length - k = 0 from by omega, List.take_zero, Nat.div_eq_of_lt (by omega)]
    rfl
end Rm
end Go.Proofs.YtagpofhencpliaaGreatDoor
namespace Go.Proofs.YtagpofhencpliaaGreatDoor
namespace Km
structure De where
  g : Bool
  m : Nat
  s : Nat
def tr (d : De) : De := ⟨Dm.cg d.g d.m, (Dm.st d.m d.s).1, (Dm.st d.m d.s).2⟩
def cmp (a b : De) : Int := Dm.cmpD a.g a.m a.s b.g b.m b.s
def clp (x lo hi : De) : De := if cmp x lo < 0 then tr lo else if 0 < cmp x hi then tr hi else tr x
def rnd (x : De) (n : Nat) (k : Int) : De := ⟨Dm.cg x.g (Rm.rk x.g (Dm.st x.m x.s).1 (Dm.st x.m x.s).2 n k), Rm.rk x.g (Dm.st x.m x.s).1 (Dm.st x.m x.s).2 n k, n⟩
def val (lo hi : De) (n : Nat) (k : Int) (x : De) : De := clp (rnd x n k) lo hi
def tms (d : De) (k : Int) : De := ⟨Dm.cg (if k < 0 then !d.g else d.g) (d.m * k.natAbs), (Dm.st (d.m * k.natAbs) d.s).1, (Dm.st (d.m * k.natAbs) d.s).2⟩
def adN (a b : De) : Nat := Dm.adM a.g (a.m * 10 ^ (max a.s b.s - a.s)) b.g (b.m * 10 ^ (max a.s b.s - b.s))
def add (a b : De) : De := ⟨Dm.cg (Dm.adG a.g (a.m * 10 ^ (max a.s b.s - a.s)) b.g (b.m * 10 ^ (max a.s b.s - b.s))) (adN a b), (Dm.st (adN a b) (max a.s b.s)).1, (Dm.st (adN a b) (max a.s b.s)).2⟩
def mov (lo hi st : De) (n : Nat) (m : Int) (x : De) (k : Int) : De := val lo hi n m (add x (tms st k))
def ah (L : List Int) (s : Nat) : Nat := (Dm.dg (Dm.num ((List.replicate (s - L.length) 0 ++ L).take (L.length - s)))).length
def fit (ic sc : Int) (M s : Nat) : Bool := decide ((ah (Dm.dg (Dm.st M s).1) (Dm.st M s).2 : Int) ≤ ic) && decide (((Dm.st M s).2 : Int) ≤ sc)
theorem bhd_len (L : List Int) (s : Nat) : ((List.replicate (s - L.length) 0 ++ L).drop (L.length - s)).length = s := by
  rw [List.length_drop, List.length_append, List.length_replicate]
  omega
end Km
end Go.Proofs.YtagpofhencpliaaGreatDoor
namespace Go.Proofs.YtagpofhencpliaaGreatDoor
open Go.RowKit
namespace Rr
open Er (dv cellV LF LF.of LF.nil LF.mono LF.q LF.put LF.shape LF.lst block_cells some_cells block_set wrapI SD SD.q SD.put SD.start SA SA.start SA.q SA.put ret_dv ret_dv2 trim_sh)
def S1 (W : World) (b : Nat) (g : Bool) (v : Value) (s : Int) (u : World) : Prop := u.cell? ⟨b, 0, none⟩ = some (.bool g) ∧ (u.cell? ⟨b, 1, none⟩ = some v ∧ (u.cell? ⟨b, 2, none⟩ = some (.int .i64 s) ∧ (Q W u)))
theorem S1.here {W u : World} {b : Nat} {g : Bool} {v : Value} {s : Int} (k : S1 W b g v s u) : Q W u := k.2.2.2
def S2 (W : World) (b1 : Nat) (g1 : Bool) (v1 : Value) (s1 : Int) (b2 : Nat) (g2 : Bool) (v2 : Value) (s2 : Int) (u : World) : Prop := u.cell? ⟨b1, 0, none⟩ = some (.bool g1) ∧ (u.cell? ⟨b1, 1, none⟩ = some v1 ∧ (u.cell? ⟨b1, 2, none⟩ = some (.int .i64 s1) ∧ (u.cell? ⟨b2, 0, none⟩ = some (.bool g2) ∧ (u.cell? ⟨b2, 1, none⟩ = some v2 ∧ (u.cell? ⟨b2, 2, none⟩ = some (.int .i64 s2) ∧ (Q W u))))))
theorem S2.here {W u : World} {b1 b2 : Nat} {g1 g2 : Bool} {v1 v2 : Value} {s1 s2 : Int} (k : S2 W b1 g1 v1 s1 b2 g2 v2 s2 u) : Q W u := k.2.2.2.2.2.2
def T2 (f : FuncId) (g : Bool) (s : Int) (L : List Int) (h : Bool) (t : Int) (N : List Int) (gr : Bool) (Z : List Int) (sr er : Int) : Prop :=
  ∀ u v x, Lst u v L → Lst u x N → Calls Tryz.prog f #[.agg #[.bool g, v, .int .i64 s], .agg #[.bool h, x, .int .i64 t]] u fun e w' => ∃ a c, e = .returned (.tuple #[.agg #[.bool gr, .slice a Z.length c, .int .i64 sr], .int .i64 er]) ∧ LF w' u.heap.size (.slice a Z.length c) Z ∧ Q u w'
def T1 (f : FuncId) (g : Bool) (s k : Int) (L : List Int) (gr : Bool) (Z : List Int) (sr er : Int) : Prop :=
  ∀ u v, Lst u v L → Calls Tryz.prog f #[.agg #[.bool g, v, .int .i64 s], .int .i64 k] u fun e w' => ∃ a c, e = .returned (.tuple #[.agg #[.bool gr, .slice a Z.length c, .int .i64 sr], .int .i64 er]) ∧ LF w' u.heap.size (.slice a Z.length c) Z ∧ Q u w'
def T0 (f : FuncId) (g : Bool) (s k : Int) (L : List Int) (gr : Bool) (Z : List Int) (sr : Int) : Prop :=
  ∀ u v, Lst u v L → Calls Tryz.prog f #[.agg #[.bool g, v, .int .i64 s], .int .i64 k] u fun e w' => ∃ a c, e = .returned (.agg #[.bool gr, .slice a Z.length c, .int .i64 sr]) ∧ LF w' u.heap.size (.slice a Z.length c) Z ∧ Q u w'
def TM (f : FuncId) (g : Bool) (s : Int) (L : List Int) (r : Bool) : Prop :=
  ∀ u v, Lst u v L → Calls Tryz.prog f #[.agg #[.bool g, v, .int .i64 s]] u fun e w' => e = .returned (.bool r) ∧ Q u w'
end Rr
end Go.Proofs.YtagpofhencpliaaGreatDoor
namespace Go.Proofs.YtagpofhencpliaaGreatDoor
open Go.RowKit
namespace Rm
open Ep (sv cmpD_at)
def rr (g : Bool) (X P : Nat) (m : Int) : Nat := if X % P = 0 then X / P else if up g (X / P) (X % P) P m = true then X / P + 1 else X / P
theorem up_scale (g : Bool) (K r B p : Nat) (m : Int) (hp : 0 < p) : up g K (r * p) (B * p) m = up g K r B m := by
  unfold up
  rw [show B * p - r * p = (B - r) * p from (Nat.sub_mul _ _ _).symm, cmpZ_scale _ _ _ hp]
theorem rk_at (g : Bool) (M s n N : Nat) (m : Int) (h1 : n ≤ N) (h2 : s ≤ N) : rk g (Dm.st M s).1 (Dm.st M s).2 n m = rr g (M * 10 ^ (N - s)) (10 ^ (N - n)) m := by
  have e := st_scale M s N h2
  have hl := st_last M s
  have hz := Dm.st_le M s
  rw [← e]
  generalize (Dm.st M s).1 = A at *
  generalize (Dm.st M s).2 = sa at *
  have hP : 0 < 10 ^ (N - n) := Nat.pow_pos (by omega)
  by_cases h : sa ≤ n
  · have h3 := at_exact (A := A) (N := N) h h1
    unfold rk rr
    rw [if_pos h, ← h3, Nat.mul_mod_left, if_pos rfl, Nat.mul_div_cancel _ hP]
  · have h3 := (at_scale (A := A) (sa := sa) (n := n) (N := N) (by omega) (by omega)).1
    have h4 := (at_scale (A := A) (sa := sa) (n := n) (N := N) (by omega) (by omega)).2
    have h5 := rs_pos (A := A) (sa := sa) (n := n) (by omega) (hl (by omega))
    have h6 := rs_lt (A := A) (sa := sa) (n := n) (by omega)
    have hp : 0 < 10 ^ (N - sa) := Nat.pow_pos (by omega)
    unfold rk rr
    rw [if_neg h, ← h3]
    generalize lo A sa n = K at *
    generalize rs A sa n = r at *
    generalize un sa n = B at *
    generalize 10 ^ (N - sa) = p at *
    generalize 10 ^ (N - n) = P at *
    have h7 : r * p < P := by rw [h4]; exact Nat.mul_lt_mul_of_pos_right h6 hp
    have h8 : 0 < r * p := Nat.mul_pos h5 hp
    have h9 : (K * P + r * p) % P = r * p := by rw [Nat.mul_comm, Nat.mul_add_mod, Nat.mod_eq_of_lt h7]
    have h10 : (K * P + r * p) / P = K := by rw [Nat.mul_comm, Nat.mul_add_div hP, Nat.div_eq_of_lt h7, Nat.add_zero]
    rw [h9, h10, if_neg (Nat.ne_of_gt h8), h4, up_scale _ _ _ _ _ _ hp]
def gap (a b : Nat) : Nat := if a ≤ b then b - a else a - b
theorem cmpZ_le {x y : Int} : Dm.cmpZ x y ≤ 0 ↔ x ≤ y := by
  unfold Dm.cmpZ
  split
  · constructor <;> intro <;> omega
  · split
    · constructor <;> intro <;> omega
    · constructor <;> intro <;> omega
theorem cmpZ_lt {x y : Int} : Dm.cmpZ x y < 0 ↔ x < y := by
  unfold Dm.cmpZ
  split
  · constructor <;> intro <;> omega
  · split
    · constructor <;> intro <;> omega
    · constructor <;> intro <;> omega
def nms : List ByteArray := [⟨#[100, 111, 119, 110]⟩, ⟨#[117, 112]⟩, ⟨#[102, 108, 111, 111, 114]⟩, ⟨#[99, 101, 105, 108]⟩, ⟨#[104, 97, 108, 102, 100, 111, 119, 110]⟩, ⟨#[104, 97, 108, 102, 117, 112]⟩, ⟨#[104, 97, 108, 102, 101, 118, 101, 110]⟩]
def nm (k : Int) : ByteArray := if 0 ≤ k then nms.getD k.toNat ⟨#[]⟩ else ⟨#[]⟩
def fnd (s : ByteArray) : Nat → Int
  | 0 => -1
  | i + 1 => if nms.getD i ⟨#[]⟩ = s then (i : Int) else fnd s i
def wn (s : ByteArray) : Int := fnd s 7
theorem wn_nm (m : Nat) (h : m < 7) : wn (nms.getD m ⟨#[]⟩) = m := by
  rcases (show m = 0 ∨ m = 1 ∨ m = 2 ∨ m = 3 ∨ m = 4 ∨ m = 5 ∨ m = 6 from by omega) with rfl | rfl | rfl | rfl | rfl | rfl | rfl <;> decide +kernel
theorem nm_in (k : Nat) : nm (k : Int) = nms.getD k ⟨#[]⟩ := by
  unfold nm
  rw [if_pos (by omega), Int.toNat_natCast]
theorem nm_out (k : Int) (h : k < 0 ∨ 7 ≤ k) : nm k = ⟨#[]⟩ := by
  unfold nm
  split
  · rw [List.getD_eq_getElem?_getD, List.getElem?_eq_none (show nms.length ≤ k.toNat from by show 7 ≤ k.toNat; omega)]
    rfl
  · rfl
theorem nm_ne (k : Nat) (h : k < 7) : (nms.getD k ⟨#[]⟩).toList.isEmpty = false := by
  rcases (show k = 0 ∨ k = 1 ∨ k = 2 ∨ k = 3 ∨ k = 4 ∨ k = 5 ∨ k = 6 from by omega) with rfl | rfl | rfl | rfl | rfl | rfl | rfl <;> decide +kernel
end Rm
end Go.Proofs.YtagpofhencpliaaGreatDoor
