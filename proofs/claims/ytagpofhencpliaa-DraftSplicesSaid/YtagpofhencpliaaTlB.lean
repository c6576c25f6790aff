/- A number's draft, whatever the number: handed back, or refused; and its number is the number's. -/
import Derived.Test.YtagpofhencpliaaRows
import Derived.Test.YtagpofhencpliaaTmM
import Derived.Test.YtagpofhencpliaaTmC
import Derived.Test.YtagpofhencpliaaTmD
import Derived.Test.YtagpofhencpliaaTmG
import Derived.Test.YtagpofhencpliaaTrE
import Derived.Test.YtagpofhencpliaaDecM
import Derived.Test.YtagpofhencpliaaDecR
import Derived.Test.YtagpofhencpliaaDecS
import Derived.Test.YtagpofhencpliaaDecC
import Derived.Test.YtagpofhencpliaaInts
import Derived.Test.YtagpofhencpliaaSto
import Derived.Test.YtagpofhencpliaaBlk
import Derived.Test.YtagpofhencpliaaUtfM
import Derived.Test.YtagpofhencpliaaDigM
import Derived.Test.YtagpofhencpliaaDigR
import Derived.Deep.QuietTactic
import Derived.Deep.DeepCutAuto
set_option maxRecDepth 100000
namespace Go.Proofs.Ytagpofhencpliaa
open Go.RowKit
namespace Tm
open Dm
theorem st1_le (M s : Nat) : (st M s).1 ≤ M := by
  have h2 := st_num M s
  have h3 := Nat.le_mul_of_pos_right (st M s).1 (Nat.pow_pos (n := s - (st M s).2) (show 0 < 10 from by omega))
  omega
theorem fr_hi (g : Bool) (L : List Int) (s p q : Nat) (hL : okD L) : (frD g L s p q).i.length ≤ p + L.length + 1 ∧ (frD g L s p q).f.length ≤ s + q := by
  have h1 := dg_len_le _ _ (st1_le (num L) s)
  have h2 := dg_len L hL
  have h3 := st_le (num L) s
  have h6 := frF_len (dg (st (num L) s).1) (st (num L) s).2 q
  have hD := okD_dg (st (num L) s).1
  unfold frD frI
  dsimp only
  generalize dg (st (num L) s).1 = D at *
  generalize (st (num L) s).2 = S at *
  have h4 : (dg (num ((pad D S).take (D.length - S)))).length ≤ D.length := by
    have := dg_len ((pad D S).take (D.length - S)) (okD_take (pad_ok D S hD) _)
    rw [List.length_take] at this
    omega
  have h5 := (fI_len (dg (num ((pad D S).take (D.length - S)))) p S q).2.1
  exact ⟨by omega, by omega⟩
theorem cmp_st (g : Bool) (M s : Nat) : cmpD (cg g M) (st M s).1 (st M s).2 g M s = 0 := by
  have h1 : cg (cg g M) (st M s).1 = cg g M := by rw [cg_st, cg_cg]
  have h2 : cmpS (st M s).1 (st M s).2 M s = 0 := by
    rw [← cmpS_st, st_trim]
    unfold cmpS
    exact cmpZ_eq rfl
  unfold cmpD
  rw [h1, if_pos rfl, h2]
  split <;> rfl
theorem fr_cmp (g : Bool) (L : List Int) (s p q : Nat) : cmpD (cg (frD g L s p q).g (num ((frD g L s p q).i ++ (frD g L s p q).f))) (num (dg (st (num ((frD g L s p q).i ++ (frD g L s p q).f)) (frD g L s p q).f.length).1)) (st (num ((frD g L s p q).i ++ (frD g L s p q).f)) (frD g L s p q).f.length).2 g (num L) s = 0 := by
  rw [(fr_dec g L s p q).1, (fr_dec g L s p q).2, num_dg]
  exact cmp_st g (num L) s
theorem fr_zl (g : Bool) (L : List Int) (s p q : Nat) (hL : okD L) : (dg (st (num ((frD g L s p q).i ++ (frD g L s p q).f)) (frD g L s p q).f.length).1).length ≤ L.length ∧ (st (num ((frD g L s p q).i ++ (frD g L s p q).f)) (frD g L s p q).f.length).2 ≤ s := by
  rw [(fr_dec g L s p q).1]
  have h1 := dg_len_le _ _ (st1_le (num L) s)
  have h2 := dg_len L hL
  exact ⟨by omega, st_le _ _⟩
theorem frR_bd (g : Bool) (L : List Int) (s whole rest : Int) (hl : L.length ≤ 1000) : (frR g L s whole rest).i.length ≤ 3000 ∧ (frR g L s whole rest).f.length ≤ 3000 := by
  unfold frR
  split
  · next h =>
    unfold frC at h
    split at h
    · next h1 =>
      split at h
      · exact absurd h (by omega)
      · next h2 =>
        simp only [Bool.and_eq_true, decide_eq_true_eq] at h1
        have := fr_hi g L s.toNat whole.toNat rest.toNat ((okB_iff L).1 h1.1.1)
        omega
    · exact absurd h (by omega)
  · exact ⟨by unfold T0; simp, by unfold T0; simp⟩
theorem spR_bd (d : T) (i j : Int) (A : List Int) : (spR d i j A).i.length ≤ (ats d).length + (ats d).length + A.length ∧ (spR d i j A).f.length ≤ (ats d).length + (ats d).length + A.length := by
  have hs : (spl d i j A).length ≤ (ats d).length + (ats d).length + A.length := by
    unfold spl
    rw [List.length_append, List.length_append, List.length_take, List.length_drop]
    omega
  unfold spR
  split
  · have h1 := ahd_le (spl d i j A)
    have h2 : (bhd (spl d i j A)).length ≤ (spl d i j A).length := by rw [bhd_eq, List.length_drop]; omega
    exact ⟨Nat.le_trans h1 hs, Nat.le_trans h2 hs⟩
  · exact ⟨by unfold T0; simp, by unfold T0; simp⟩
end Tm
open Tm
theorem Tp.from_any (g : Bool) (a : Option Addr) (n c : Nat) (s whole rest : Int) (L : List Int) (w : World) (hv : Lst w (.slice a n c) L) (k1 : L.length = n) (l1 : n ≤ 1000) (hs : -9223372036854775808 ≤ s ∧ s ≤ 9223372036854775807) :
    Calls Try.prog 33 #[.agg #[.bool g, .slice a n c, .int .i64 s], .int .i64 whole, .int .i64 rest] w fun e w' => ∃ x, e = .returned (.tuple #[x, .int .i64 (frC L s whole rest)]) ∧ LD w' (w.heap.size + 2) x (frR g L s whole rest) ∧ Q w w' := by
  by_cases h : (Dm.okB L && decide (0 ≤ s) && decide (s ≤ 1000)) = false ∨ whole < 0 ∨ 64 < whole ∨ rest < 0 ∨ 64 < rest
  · exact Tp.from_bad g a n c s whole rest L w hv k1 l1 hs h
  · have h1 : (Dm.okB L && decide (0 ≤ s) && decide (s ≤ 1000)) = true := by
      cases he : (Dm.okB L && decide (0 ≤ s) && decide (s ≤ 1000)) with
      | false => exact absurd (.inl he) h
      | true => rfl
    simp only [Bool.and_eq_true, decide_eq_true_eq] at h1
    obtain ⟨s', rfl⟩ : ∃ t : Nat, s = t := ⟨s.toNat, by omega⟩
    obtain ⟨p, rfl⟩ : ∃ t : Nat, whole = t := ⟨whole.toNat, by omega⟩
    obtain ⟨q, rfl⟩ : ∃ t : Nat, rest = t := ⟨rest.toNat, by omega⟩
    exact Tp.from_ok g a n c s' p q L w hv k1 l1 ((Dm.okB_iff L).1 h1.1.1) (by omega) (by omega) (by omega)
theorem Tr.from_any (g : Bool) (a : Option Addr) (n c : Nat) (s whole rest : Int) (L : List Int) (w : World) (hv : Lst w (.slice a n c) L) (k1 : L.length = n) (l1 : n ≤ 1000) (hs : -9223372036854775808 ≤ s ∧ s ≤ 9223372036854775807) :
    Calls Try.prog 34 #[.agg #[.bool g, .slice a n c, .int .i64 s], .int .i64 whole, .int .i64 rest] w fun e w' => ∃ x, e = .returned (.tuple #[x, .int .i64 (frC L s whole rest)]) ∧ LD w' (w.heap.size + 2) x (frR g L s whole rest) ∧ Q w w' := by
  by_cases h : (Dm.okB L && decide (0 ≤ s) && decide (s ≤ 1000)) = false ∨ whole < 0 ∨ 64 < whole ∨ rest < 0 ∨ 64 < rest
  · exact Tr.from_bad g a n c s whole rest L w hv k1 l1 hs h
  · have h1 : (Dm.okB L && decide (0 ≤ s) && decide (s ≤ 1000)) = true := by
      cases he : (Dm.okB L && decide (0 ≤ s) && decide (s ≤ 1000)) with
      | false => exact absurd (.inl he) h
      | true => rfl
    simp only [Bool.and_eq_true, decide_eq_true_eq] at h1
    obtain ⟨s', rfl⟩ : ∃ t : Nat, s = t := ⟨s.toNat, by omega⟩
    obtain ⟨p, rfl⟩ : ∃ t : Nat, whole = t := ⟨whole.toNat, by omega⟩
    obtain ⟨q, rfl⟩ : ∃ t : Nat, rest = t := ⟨rest.toNat, by omega⟩
    exact Tr.from_ok g a n c s' p q L w hv k1 l1 ((Dm.okB_iff L).1 h1.1.1) (by omega) (by omega) (by omega)
end Go.Proofs.Ytagpofhencpliaa
