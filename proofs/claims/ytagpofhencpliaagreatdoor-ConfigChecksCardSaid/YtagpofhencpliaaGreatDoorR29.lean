/- The document's own config: values refused, and numbers some steps farther. (and more) -/
import Derived.Test.YtagpofhencpliaaGreatDoorR00
import Derived.Test.YtagpofhencpliaaGreatDoorR04
import Derived.Test.YtagpofhencpliaaGreatDoorR22
import Derived.Test.YtagpofhencpliaaGreatDoorR21
import Derived.Test.YtagpofhencpliaaGreatDoorR28
import Derived.Test.YtagpofhencpliaaGreatDoorR19
import Derived.Test.YtagpofhencpliaaGreatDoorR14
import Derived.Test.YtagpofhencpliaaGreatDoorR02
import Derived.Test.YtagpofhencpliaaGreatDoorR10
import Derived.Test.YtagpofhencpliaaGreatDoorR13
import Derived.Test.YtagpofhencpliaaGreatDoorR09
import Derived.Test.YtagpofhencpliaaGreatDoorR05
import Derived.Test.YtagpofhencpliaaGreatDoorR08
import Derived.Test.YtagpofhencpliaaGreatDoorR03
import Derived.Test.YtagpofhencpliaaGreatDoorRows
import Derived.Deep.Cut
import Derived.Deep.QuietTactic
import Derived.Deep.RegionWith
import Derived.Deep.RegionHeld3
import Derived.BigQuiet
import Derived.Laws.ResultCell
import Derived.Deep.CutRange
import Derived.Deep.CutBlock
import Derived.Deep.DeepCutAuto
set_option linter.unusedVariables false
set_option linter.unusedSimpArgs false
namespace Go.Proofs.YtagpofhencpliaaGreatDoor
open Go.RowKit
namespace Kr
open Er (dv LF LF.of LF.nil LF.mono LF.q LF.put LF.shape LF.lst)
theorem ad_len2 (g h : Bool) (s t n : Nat) (L N : List Int) (hx : Dm.okD L) (hy : Dm.okD N) (hl : L.length < 500) (hl2 : N.length < 500) (hn : n ≤ 1000) : (Dm.dg (Dm.st (Dm.adM g (Dm.num L * 10 ^ (n - s)) h (Dm.num N * 10 ^ (n - t))) n).1).length < 1900 := by
  have a := Dm.num_lt L hx
  have b := Dm.num_lt N hy
  have c := Dm.ad_le g (Dm.num L * 10 ^ (n - s)) h (Dm.num N * 10 ^ (n - t))
  generalize Dm.adM g (Dm.num L * 10 ^ (n - s)) h (Dm.num N * 10 ^ (n - t)) = M at *
  have one : ∀ (K : List Int) (r : Nat), Dm.num K < 10 ^ K.length → K.length < 500 → Dm.num K * 10 ^ (n - r) < 10 ^ 1500 := by
    intro K r h1 h2
    have e0 : 0 < 10 ^ (n - r) := Nat.pow_pos (by omega)
    calc Dm.num K * 10 ^ (n - r) < 10 ^ K.length * 10 ^ (n - r) := Nat.mul_lt_mul_of_pos_right h1 e0
      _ = 10 ^ (K.length + (n - r)) := (Nat.pow_add _ _ _).symm
      _ ≤ 10 ^ 1500 := Nat.pow_le_pow_right (by omega) (by omega)
  obtain ⟨k, hk⟩ : ∃ k, k = 1500 := ⟨_, rfl⟩
  rw [← hk] at one
  have d1 := one L s a hl
  have d2 := one N t b hl2
  have hM : M < 10 ^ (k + 1) := by rw [Nat.pow_succ]; omega
  have hle := st_fst_le M n
  have := Dm.dg_len_lt (Dm.st M n).1 (k + 1) (Nat.lt_of_le_of_lt hle hM)
  omega
theorem tms_len (s : Nat) (k : Int) (L : List Int) (hd : Dm.okD L) (hk : -1000 ≤ k ∧ k ≤ 1000) : (Dm.dg (Dm.st (Dm.num L * k.natAbs) s).1).length ≤ L.length + 4 := by
  have h1 : Dm.num L * k.natAbs < 10 ^ (L.length + 4) := by
    have h1 := Dm.num_lt L hd
    have h2 : Dm.num L * k.natAbs < 10 ^ L.length * 10 ^ 4 := by
      have h3 : k.natAbs ≤ 1000 := by omega
      calc Dm.num L * k.natAbs ≤ Dm.num L * 1000 := Nat.mul_le_mul_left _ h3
        _ < 10 ^ L.length * 10 ^ 4 := by omega
    rwa [← Nat.pow_add] at h2
  exact Dm.dg_len_lt _ _ (Nat.lt_of_le_of_lt (st_fst_le _ _) h1)
end Kr
end Go.Proofs.YtagpofhencpliaaGreatDoor
