/- What the library's Reverse comes to, which writes in place, by a walk through it. -/
import Derived.Test.YtebcgpoemppljaaRows
import Derived.Test.YtebcgpoemppljaaDigL
import Derived.Test.YtebcgpoemppljaaInts
import Derived.Test.YtebcgpoemppljaaSto
import Derived.Test.YtebcgpoemppljaaDigW
import Derived.Deep.QuietTactic
import Derived.Deep.RegionWith
import Derived.BigQuiet
set_option linter.unusedVariables false
set_option linter.unusedSimpArgs false
namespace Go.Proofs.Ytebcgpoemppljaa
open Go.RowKit
namespace Dw

set_option maxHeartbeats 1600000 in
theorem reverse_any (v : Value) (xs : List Int) (w : World) (B : Nat) (hv : Own w B v xs) (hl : xs.length < 1099511627776) :
    Calls Try.prog 70 #[v] w fun e w' => e = .returned (.tuple #[]) ∧ Own w' B v xs.reverse ∧ Below B w w' := by
  by_cases h0 : xs.length = 0
  · have hx0 : xs = [] := List.eq_nil_of_length_eq_zero h0
    subst hx0
    obtain ⟨a, c, rfl⟩ := hv.shape
    have HV := Lib.hid hv
    clear hv h0 hl
    go_enter Try.func70, Try.ntmps70
    go_wp2
    refine wp_loop_rounds 1 ?_
    rw [rounds_succ]
    go_wp2
    go_end0
    exact ⟨rfl, HV.out, Below.refl _ _⟩
  · obtain ⟨n, hn⟩ : ∃ n, n = xs.length := ⟨_, rfl⟩
    obtain ⟨g, cap, rfl, hg, hgw, hnc, hcm⟩ := hv.head hn.symm (by omega)
    have HST := Lib.hid (fun zs k m (h : Dm.RV xs k zs) (hm : m + 1 + k = n) => h.step (hm.trans hn))
    have HDN := Lib.hid (fun zs k (h : Dm.RV xs k zs) (h1 : n ≤ 2 * k + 1) (h2 : 2 * k ≤ n) => h.done (by omega) (by omega))
    have HLN := Lib.hid (fun zs k (h : Dm.RV xs k zs) => (h.1.trans hn.symm : zs.length = n))
    have HV := Lib.hid hv
    have HS := Lib.hid (Dm.RV.start xs)
    unfold maxLen at hcm
    rw [← hn] at hl h0
    clear hv hn
    go_enter Try.func70, Try.ntmps70
    go_wp2_with fail
    go_loopw [2, 3] (fun u t wr => ∃ (k : Nat) (zs : List Int), u = .int .i64 k ∧ t = .int .i64 ((n : Int) - 1 - k) ∧ 2 * k ≤ n ∧ Own wr B (.slice (some ⟨g, 0, none⟩) n cap) zs ∧ Dm.RV xs k zs ∧ Below B w wr) (fun u _ _ => n - (intOf u).toNat)
    case atStart => exact ⟨0, xs, rfl, by go_num, by omega, HV.out, HS.out, Below.refl _ _⟩
    case round =>
      obtain ⟨k, zs, rfl, rfl, hk, ho, hrv, hbl⟩ := hrel
      have hzl := HLN.out zs k hrv
      by_cases hlt : 2 * k + 1 < n
      · obtain ⟨m, hm⟩ : ∃ m : Nat, m + 1 + k = n := ⟨n - 1 - k, by omega⟩
        have hmI : (n : Int) - 1 - (k : Int) = (m : Int) := by omega
        have hst := HST.out zs k m hrv hm (by omega)
        have c1 := ho.cellAt hzl (k := k) (by omega)
        have c2 := ho.cellAt hzl (k := m) (by omega)
        have f1 := ho.freeAt hzl k
        have f2 := ho.freeAt hzl m
        have o2 := fun y z => (ho.stored hzl k y).stored (by rw [List.length_set]; exact hzl) m z
        generalize zs.getD k 0 = y at *
        generalize zs.getD m 0 = z at *
        have HO2 := Lib.hid (o2 z y)
        have HST2 := Lib.hid hst
        have HB := Lib.hid (fun a b => (hbl.setCell (p := ⟨g, k, none⟩) hg a).setCell (p := ⟨g, m, none⟩) hg b)
        have hkn : k < n := by omega
        have hmn : m < n := by omega
        have hkm : k < m := by omega
        clear hst o2 ho hrv hbl hzl
        rw [hmI]
        go_wp2_with fail
        go_region
        all_goals go_wp2
        exact ⟨⟨k + 1, _, by go_num, by rw [show (m : Int) - 1 = (n : Int) - 1 - ((k + 1 : Nat) : Int) from by omega], by omega, HO2.out.q ((Q.refl _).drew), HST2.out, (HB.out _ _).drew⟩, by simp [intOf]; omega⟩
      · have hd := HDN.out zs k hrv (by omega) hk
        rw [hd] at ho
        have HO := Lib.hid ho
        have HB := Lib.hid hbl
        have hge : ¬ (k : Int) < (n : Int) - 1 - (k : Int) := by omega
        clear hd ho hbl hrv hzl
        go_wp2_with fail
        go_end0
        exact ⟨rfl, HO.out, HB.out⟩end Dw
end Go.Proofs.Ytebcgpoemppljaa
