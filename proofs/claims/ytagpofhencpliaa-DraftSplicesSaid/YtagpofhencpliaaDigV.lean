/- What package digit's Trim and Compare, and the library's Reverse, come to, by a walk through each. -/
import Derived.Test.YtagpofhencpliaaRows
import Derived.Test.YtagpofhencpliaaDigL
import Derived.Test.YtagpofhencpliaaInts
import Derived.Test.YtagpofhencpliaaSto
import Derived.Test.YtagpofhencpliaaDigW
import Derived.Deep.QuietTactic
import Derived.Deep.RegionWith
import Derived.BigQuiet
set_option linter.unusedVariables false
set_option linter.unusedSimpArgs false
namespace Go.Proofs.Ytagpofhencpliaa
open Go.RowKit
namespace Dw

set_option maxHeartbeats 800000 in
theorem trim_any (v : Value) (xs : List Int) (w : World) (hv : Lst w v xs) (hl : xs.length < 1099511627776) :
    Calls Try.prog 44 #[v] w fun e w' => ∃ u, e = .returned u ∧ Own w' w.heap.size u (Dm.trimL xs) ∧ Q w w' := by
  have hz := fun w h => zeros_any v xs w h hl
  have hzl := Dm.zer_le xs
  have htd := Dm.trim_drop xs
  have htl := Dm.trim_len xs
  generalize Dm.zer xs = z at *
  obtain ⟨n, hn⟩ : ∃ n, n = xs.length := ⟨_, rfl⟩
  rw [← hn] at hl hzl htl
  have HZ := Lib.hid hz
  have HV := Lib.hid hv
  have hol := Own.nil w w.heap.size
  by_cases hlt : z < n
  · obtain ⟨g, off, cap, rfl, hg, hnc, hcm, _⟩ := hv.cellOf (n := n) (k := z) hn.symm hlt
    have hd := hv.drop hn.symm hlt
    rw [← htd] at hd
    have hzn : (z : Int) ≤ (n : Int) := by omega
    have hzc : (z : Int) ≤ (cap : Int) := by omega
    have hne : ¬ (cap = z) := by omega
    have hne2 : ¬ (cap - z = 0) := by omega
    have hwl : ([] : List Int).length + (Dm.trimL xs).length < 1099511627776 := by rw [htl]; show 0 + (n - z) < _; omega
    have HD := Lib.hid hd
    have HW := Lib.hid hwl
    unfold maxLen at hcm
    clear hv hz hd htd htl hn hwl
    go_enter Try.func44, Try.ntmps44
    go_wp2_with fail
    refine (HZ.out _ HV.out).mono ?_
    rintro e w1 ⟨rfl, rfl⟩
    go_wp2_with (at_builtin; refine push_list hol HD.out rfl _ _ rfl (by rfl) (by rfl) HW.out (Nat.le_refl _) ?_)
    intro u w2 hu hg2 hat2
    go_wp2_with fail
    go_ret
    exact ⟨_, rfl, hu, (Q.refl w).grown hg2 (fun k hk => by cases hk)⟩
  · have hze : z = n := by omega
    subst hze
    obtain ⟨ad, cap, rfl, hnc, hcm⟩ := hv.form0 hn.symm
    have hzc : (z : Int) ≤ (cap : Int) := by omega
    have HE : Hid (Dm.trimL xs = []) := Lib.hid (by rw [htd]; exact List.drop_eq_nil_of_le (by omega))
    rw [HE.out]
    unfold maxLen at hcm
    have hnil : ∀ (a : Option Addr) (c : Nat), c ≤ 9223372036854775807 → (a = none → c = 0) → Lst w (.slice a 0 c) [] := fun a c h1 h2 => .nil w a c h1 h2
    have hnn : ad = none → cap = 0 := by
      intro h
      rcases hv with ⟨rfl, _, _, hv2, _, hn2⟩ | ⟨_, _, _, hv2, _⟩
      · cases hv2; exact hn2 h
      · cases hv2; cases h
    have HN := Lib.hid hnn
    clear hv hz htd htl hn hnn
    by_cases hcz : cap = z
    · subst hcz
      cases ad
      all_goals
        go_enter Try.func44, Try.ntmps44
        go_wp2_with fail
        refine (HZ.out _ HV.out).mono ?_
        rintro e w1 ⟨rfl, rfl⟩
        go_wp2_with (at_builtin; refine push_list hol (hnil _ 0 (by omega) (fun _ => rfl)) rfl _ _ rfl (by rfl) (by rfl) (by show 0 + 0 < 1099511627776; omega) (Nat.le_refl _) ?_)
        intro u w2 hu hg2 hat2
        go_wp2_with fail
        go_ret
        exact ⟨_, rfl, hu, (Q.refl w).grown hg2 (fun k hk => by cases hk)⟩
    · have hne2 : ¬ (cap - z = 0) := by omega
      cases ad with
      | none => exact absurd (HN.out rfl) (by omega)
      | some ad =>
        have hX := hnil (some (ad.add z)) (cap - z) (by omega) (fun h => by cases h)
        go_enter Try.func44, Try.ntmps44
        go_wp2_with fail
        refine (HZ.out _ HV.out).mono ?_
        rintro e w1 ⟨rfl, rfl⟩
        go_wp2_with (at_builtin; refine push_list hol hX rfl _ _ rfl (by rfl) (by rfl) (by show 0 + 0 < 1099511627776; omega) (Nat.le_refl _) ?_)
        intro u w2 hu hg2 hat2
        go_wp2_with fail
        go_ret
        exact ⟨_, rfl, hu, (Q.refl w).grown hg2 (fun k hk => by cases hk)⟩

end Dw
end Go.Proofs.Ytagpofhencpliaa
