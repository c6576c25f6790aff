/- What package digit's Shift, Text and Parse come to, by a walk through each. -/
import Derived.Test.YtebcgpoemppljaaRows
import Derived.Test.YtebcgpoemppljaaDigL
import Derived.Test.YtebcgpoemppljaaInts
import Derived.Test.YtebcgpoemppljaaSto
import Derived.Test.YtebcgpoemppljaaStoB
import Derived.Test.YtebcgpoemppljaaDigW
import Derived.Test.YtebcgpoemppljaaDigT
import Derived.Deep.QuietTactic
import Derived.Deep.RegionWith
import Derived.BigQuiet
set_option linter.unusedVariables false
set_option linter.unusedSimpArgs false
namespace Go.Proofs.Ytebcgpoemppljaa
open Go.RowKit
namespace Dw

set_option maxHeartbeats 800000 in
theorem shift_bad (va : Value) (xs : List Int) (k : Int) (w : World) (hv : Lst w va xs) (hl : xs.length < 1099511627776) (hb : Dm.okB xs = false) :
    Calls Try.prog 50 #[va, .int .i64 k] w fun e w' => e = .returned (.tuple #[.slice none 0 0, .int .i64 1]) ∧ w = w' := by
  have h := may_any va xs w hv hl
  rw [hb] at h
  have H := Lib.hid h
  clear h hb hv
  go_enter Try.func50, Try.ntmps50
  go_wp2_with fail
  refine H.out.mono ?_
  rintro e w1 ⟨rfl, rfl⟩
  go_wp2_with fail
  go_ret2
  exact ⟨rfl, rfl⟩
set_option maxHeartbeats 800000 in
theorem shift_range (va : Value) (xs : List Int) (k : Int) (w : World) (hv : Lst w va xs) (hl : xs.length < 1099511627776) (hb : Dm.okB xs = true) (hk : k < -1000 ∨ 1000 < k) :
    Calls Try.prog 50 #[va, .int .i64 k] w fun e w' => e = .returned (.tuple #[.slice none 0 0, .int .i64 3]) ∧ w = w' := by
  have h := may_any va xs w hv hl
  rw [hb] at h
  have H := Lib.hid h
  clear h hb hv
  rcases (show k < -1000 ∨ (¬ k < -1000 ∧ 1000 < k) from by omega) with h1 | ⟨h1, h2⟩
  · clear hk
    go_enter Try.func50, Try.ntmps50
    go_wp2_with fail
    refine H.out.mono ?_
    rintro e w1 ⟨rfl, rfl⟩
    go_wp2_with fail
    go_ret2
    exact ⟨rfl, rfl⟩
  · clear hk
    go_enter Try.func50, Try.ntmps50
    go_wp2_with fail
    refine H.out.mono ?_
    rintro e w1 ⟨rfl, rfl⟩
    go_wp2_with fail
    go_ret2
    exact ⟨rfl, rfl⟩
set_option maxHeartbeats 1600000 in
theorem shift_at (va : Value) (xs : List Int) (k : Int) (w : World) (hv : Lst w va xs) (hl : xs.length < 1000000) (hb : Dm.okB xs = true) (hk : -1000 ≤ k ∧ k ≤ 1000) :
    Calls Try.prog 50 #[va, .int .i64 k] w fun e w' => ∃ u, e = .returned (.tuple #[u, .int .i64 0]) ∧ Lst w' u (Dm.shl xs k) ∧ New w.heap.size u ∧ Q w w' := by
  have h := may_any va xs w hv (by omega)
  rw [hb] at h
  have H := Lib.hid h
  have hsm := Dm.shl_make xs k
  obtain ⟨n, hn⟩ : ∃ n, n = xs.length := ⟨_, rfl⟩
  obtain ⟨a, c, rfl, hnc, hcm⟩ := hv.form0 hn.symm
  have HV := Lib.hid (fun w' (q : Q w w') => hv.q q)
  rw [← hn] at hl hsm
  obtain ⟨m, hm⟩ : ∃ m, m = ((n : Int) + k).toNat := ⟨_, rfl⟩
  rw [← hm] at hsm
  have HSM := Lib.hid hsm
  have HNL := Lib.hid hn
  unfold maxLen at hcm
  obtain ⟨hk1, hk2⟩ := hk
  clear h hb hv hn hsm
  have hml : m < 1099511627776 := by omega
  rcases (show (0 ≤ (n : Int) + k ∧ (n : Int) + k = (m : Int)) ∨ ((n : Int) + k < 0 ∧ m = 0) from by omega) with ⟨h0, h1⟩ | ⟨h0, h1⟩
  · clear hm
    go_enter Try.func50, Try.ntmps50
    go_wp2_with fail
    refine H.out.mono ?_
    rintro e w1 ⟨rfl, rfl⟩
    go_wp2_with (at_make; refine make_ints rfl _ _ rfl m _ (by rfl) (by rfl) (by first | rfl | omega) hml (Nat.le_refl _) ?_)
    intro w2 ho2 hq2 hsz2
    have HQ2 := Lib.hid hq2
    have HO2 := Lib.hid ho2
    clear ho2 hq2 hsz2
    go_wp2_with (refine copy_ints HO2.out List.length_replicate (HV.out _ HQ2.out) rfl _ _ rfl (by rfl) (by rfl) ?_)
    intro w3 v3 ho3 hb3
    rw [← HNL.out, ← HSM.out] at ho3
    have HO3 := Lib.hid ho3.lst
    have HNW := Lib.hid (New.own ho3)
    have HB3 := Lib.hid hb3
    clear ho3 hb3
    go_wp2_with fail
    go_ret2
    exact ⟨_, rfl, HO3.out, HNW.out, Below.trans HQ2.out HB3.out⟩
  · subst h1
    clear hm
    go_enter Try.func50, Try.ntmps50
    go_wp2_with fail
    refine H.out.mono ?_
    rintro e w1 ⟨rfl, rfl⟩
    go_wp2_with (at_make; refine make_ints rfl _ _ rfl 0 _ (by rfl) (by rfl) (by first | rfl | omega) (by omega) (Nat.le_refl _) ?_)
    intro w2 ho2 hq2 hsz2
    have HQ2 := Lib.hid hq2
    have HO2 := Lib.hid ho2
    clear ho2 hq2 hsz2
    have HE := Lib.hid (show Dm.shl xs k = [] from by rw [HSM.out]; simp)
    go_wp2_with (refine copy_ints HO2.out rfl (HV.out _ HQ2.out) rfl _ _ rfl (by rfl) (by rfl) ?_)
    intro w3 v3 ho3 hb3
    have HO3 := Lib.hid ho3.lst
    have HNW := Lib.hid (New.own ho3)
    have HB3 := Lib.hid hb3
    clear ho3 hb3
    go_wp2_with fail
    go_ret2
    exact ⟨_, rfl, by rw [HE.out]; simpa using HO3.out, HNW.out, Below.trans HQ2.out HB3.out⟩
theorem shift_any (va : Value) (xs : List Int) (k : Int) (w : World) (hv : Lst w va xs) (hl : xs.length < 1000000) (hb : Dm.okB xs = true) (hk : -1000 ≤ k ∧ k ≤ 1000) :
    Calls Try.prog 50 #[va, .int .i64 k] w fun e w' => ∃ u, e = .returned (.tuple #[u, .int .i64 0]) ∧ Lst w' u (Dm.shl xs k) ∧ Q w w' := by
  refine (shift_at va xs k w hv hl hb hk).mono ?_
  rintro e w' ⟨u, h1, h2, _, h3⟩
  exact ⟨u, h1, h2, h3⟩
end Dw
end Go.Proofs.Ytebcgpoemppljaa
