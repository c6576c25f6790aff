/- What the document's own Times, Align and Add of decimals refuse. -/
import Derived.Test.YtebcgpoemppljaaRows
import Derived.Test.YtebcgpoemppljaaDigL
import Derived.Test.YtebcgpoemppljaaDecM
import Derived.Test.YtebcgpoemppljaaInts
import Derived.Test.YtebcgpoemppljaaSto
import Derived.Test.YtebcgpoemppljaaDigR
import Derived.Test.YtebcgpoemppljaaDigS
import Derived.Test.YtebcgpoemppljaaDigO
import Derived.Test.YtebcgpoemppljaaDecR
import Derived.Test.YtebcgpoemppljaaDecS
import Derived.Test.YtebcgpoemppljaaDecC
import Derived.Test.YtebcgpoemppljaaDecA
import Derived.Deep.QuietTactic
import Derived.Deep.RegionWith
import Derived.Deep.RegionHeld3
import Derived.BigQuiet
set_option linter.unusedVariables false
set_option linter.unusedSimpArgs false
namespace Go.Proofs.Ytebcgpoemppljaa
open Go.RowKit
namespace Er

set_option maxHeartbeats 1600000 in
theorem times_bad (g : Bool) (v : Value) (s k : Int) (L : List Int) (w : World) (hv : Lst w v L) (hl : L.length < 1000000) (hs : -9223372036854775808 ≤ s ∧ s ≤ 9223372036854775807) (hb : (Dm.okB L && decide (0 ≤ s) && decide (s ≤ 1000)) = false) :
    Calls Try.prog 24 #[dv g v s, .int .i64 k] w fun e w' => e = .returned (.tuple #[dv false (.slice none 0 0) 0, .int .i64 1]) ∧ Q w w' := by
  obtain ⟨a, c, rfl⟩ := hv.shape
  have M := Lib.hid (fun u (h : SD w g (.slice a L.length c) s u) => (by
    have e := may_any g (.slice a L.length c) s L u (hv.q h.2.2.2.2.2.2.2.2.2.2.2) (by omega) hs
    rw [hb] at e
    refine e.mono ?_
    rintro e w' ⟨rfl, hq⟩
    exact ⟨rfl, h.q hq⟩ : Calls Try.prog 36 #[.agg #[.bool g, .slice a L.length c, .int .i64 s]] u fun e w' => e = .returned (.bool false) ∧ SD w g (.slice a L.length c) s w'))
  have HS := Lib.hid (SD.start w g (.slice a L.length c) s)
  have PUT := Lib.hid (fun u (h : SD w g (.slice a L.length c) s u) x y z => h.put x y z)
  generalize L.length = n at *
  clear hv hb
  go_enter Try.func24, Try.ntmps24
  unfold dv
  go_wp2_with fail
  refine (M.out _ HS.out).mono ?_
  rintro e w1 ⟨rfl, hS⟩
  have hfin := PUT.out w1 hS (.bool false) (.slice none 0 0) (.int .i64 0)
  have HF := Lib.hid hfin.2
  have hqf : Q w _ := hfin.1.2.2.2.2.2.2.2.2.2.2.2
  have HQ := Lib.hid hqf
  unfold SD at hS
  obtain ⟨a0, a1, a2, b0, b1, b2, b3, b4, b5, _, _, _⟩ := hS
  clear hfin hqf
  go_wp2_with fail
  exact ret_dv2 rfl rfl rfl HF.out rfl ⟨rfl, HQ.out⟩

set_option maxHeartbeats 1600000 in
theorem align_bad (g : Bool) (v : Value) (s k : Int) (L : List Int) (w : World) (hv : Lst w v L) (hl : L.length < 1000000) (hs : -9223372036854775808 ≤ s ∧ s ≤ 9223372036854775807) (hb : (Dm.okB L && decide (0 ≤ s) && decide (s ≤ 1000)) = false) :
    Calls Try.prog 39 #[dv g v s, .int .i64 k] w fun e w' => e = .returned (.tuple #[dv false (.slice none 0 0) 0, .int .i64 1]) ∧ Q w w' := by
  obtain ⟨a, c, rfl⟩ := hv.shape
  have M := Lib.hid (fun u (h : SD w g (.slice a L.length c) s u) => (by
    have e := may_any g (.slice a L.length c) s L u (hv.q h.2.2.2.2.2.2.2.2.2.2.2) (by omega) hs
    rw [hb] at e
    refine e.mono ?_
    rintro e w' ⟨rfl, hq⟩
    exact ⟨rfl, h.q hq⟩ : Calls Try.prog 36 #[.agg #[.bool g, .slice a L.length c, .int .i64 s]] u fun e w' => e = .returned (.bool false) ∧ SD w g (.slice a L.length c) s w'))
  have HS := Lib.hid (SD.start w g (.slice a L.length c) s)
  have PUT := Lib.hid (fun u (h : SD w g (.slice a L.length c) s u) x y z => h.put x y z)
  generalize L.length = n at *
  clear hv hb
  go_enter Try.func39, Try.ntmps39
  unfold dv
  go_wp2_with fail
  refine (M.out _ HS.out).mono ?_
  rintro e w1 ⟨rfl, hS⟩
  have hfin := PUT.out w1 hS (.bool false) (.slice none 0 0) (.int .i64 0)
  have HF := Lib.hid hfin.2
  have hqf : Q w _ := hfin.1.2.2.2.2.2.2.2.2.2.2.2
  have HQ := Lib.hid hqf
  unfold SD at hS
  obtain ⟨a0, a1, a2, b0, b1, b2, b3, b4, b5, _, _, _⟩ := hS
  clear hfin hqf
  go_wp2_with fail
  exact ret_dv2 rfl rfl rfl HF.out rfl ⟨rfl, HQ.out⟩

set_option maxHeartbeats 1600000 in
theorem times_far (g : Bool) (v : Value) (s k : Int) (L : List Int) (w : World) (hv : Lst w v L) (hl : L.length < 1000000) (hs : -9223372036854775808 ≤ s ∧ s ≤ 9223372036854775807) (hb : (Dm.okB L && decide (0 ≤ s) && decide (s ≤ 1000)) = true) (hk : k < -1000 ∨ 1000 < k) :
    Calls Try.prog 24 #[dv g v s, .int .i64 k] w fun e w' => e = .returned (.tuple #[dv false (.slice none 0 0) 0, .int .i64 3]) ∧ Q w w' := by
  obtain ⟨a, c, rfl⟩ := hv.shape
  have M := Lib.hid (fun u (h : SD w g (.slice a L.length c) s u) => (by
    have e := may_any g (.slice a L.length c) s L u (hv.q h.2.2.2.2.2.2.2.2.2.2.2) (by omega) hs
    rw [hb] at e
    refine e.mono ?_
    rintro e w' ⟨rfl, hq⟩
    exact ⟨rfl, h.q hq⟩ : Calls Try.prog 36 #[.agg #[.bool g, .slice a L.length c, .int .i64 s]] u fun e w' => e = .returned (.bool true) ∧ SD w g (.slice a L.length c) s w'))
  have HS := Lib.hid (SD.start w g (.slice a L.length c) s)
  have PUT := Lib.hid (fun u (h : SD w g (.slice a L.length c) s u) x y z => h.put x y z)
  generalize L.length = n at *
  clear hv hb
  go_enter Try.func24, Try.ntmps24
  unfold dv
  go_wp2_with fail
  refine (M.out _ HS.out).mono ?_
  rintro e w1 ⟨rfl, hS⟩
  have hfin := PUT.out w1 hS (.bool false) (.slice none 0 0) (.int .i64 0)
  have HF := Lib.hid hfin.2
  have hqf : Q w _ := hfin.1.2.2.2.2.2.2.2.2.2.2.2
  have HQ := Lib.hid hqf
  unfold SD at hS
  obtain ⟨a0, a1, a2, b0, b1, b2, b3, b4, b5, _, _, _⟩ := hS
  clear hfin hqf
  rcases hk with hk | hk
  · go_wp2_with fail
    exact ret_dv2 rfl rfl rfl HF.out rfl ⟨rfl, HQ.out⟩
  · have hk2 : ¬ k < -1000 := by omega
    have hk3 : -1000 ≤ k := by omega
    go_wp2_with fail
    exact ret_dv2 rfl rfl rfl HF.out rfl ⟨rfl, HQ.out⟩

set_option maxHeartbeats 3200000 in
theorem add_bad (g h : Bool) (va vb : Value) (s t : Int) (xs ys : List Int) (w : World) (hv : Lst w va xs) (hu : Lst w vb ys) (hl : xs.length < 1000000) (hl2 : ys.length < 1000000) (hs : -9223372036854775808 ≤ s ∧ s ≤ 9223372036854775807) (ht : -9223372036854775808 ≤ t ∧ t ≤ 9223372036854775807)
    (hb : (Dm.okB xs && decide (0 ≤ s) && decide (s ≤ 1000)) = false ∨ (Dm.okB ys && decide (0 ≤ t) && decide (t ≤ 1000)) = false) :
    Calls Try.prog 22 #[dv g va s, dv h vb t] w fun e w' => e = .returned (.tuple #[dv false (.slice none 0 0) 0, .int .i64 1]) ∧ Q w w' := by
  obtain ⟨a, c, rfl⟩ := hv.shape
  obtain ⟨b, d, rfl⟩ := hu.shape
  have M1 := Lib.hid (fun u (q : Q w u) => (may_any g (.slice a xs.length c) s xs u (hv.q q) (by omega) hs : Calls Try.prog 36 #[.agg #[.bool g, .slice a xs.length c, .int .i64 s]] u fun e w' => e = .returned (.bool (Dm.okB xs && decide (0 ≤ s) && decide (s ≤ 1000))) ∧ Q u w'))
  have M2 := Lib.hid (fun u (q : Q w u) => (may_any h (.slice b ys.length d) t ys u (hu.q q) (by omega) ht : Calls Try.prog 36 #[.agg #[.bool h, .slice b ys.length d, .int .i64 t]] u fun e w' => e = .returned (.bool (Dm.okB ys && decide (0 ≤ t) && decide (t ≤ 1000))) ∧ Q u w'))
  have HS := Lib.hid (SE.start w g (.slice a xs.length c) s h (.slice b ys.length d) t)
  have PUT := Lib.hid (fun u (k : SE w g (.slice a xs.length c) s h (.slice b ys.length d) t u) x y z => k.put x y z)
  have SQ := Lib.hid (fun u u' (k : SE w g (.slice a xs.length c) s h (.slice b ys.length d) t u) (q : Q u u') => k.q q)
  generalize (Dm.okB xs && decide (0 ≤ s) && decide (s ≤ 1000)) = r1 at *
  generalize (Dm.okB ys && decide (0 ≤ t) && decide (t ≤ 1000)) = r2 at *
  generalize xs.length = n at *
  generalize ys.length = m at *
  clear hv hu
  have hr : (r1 = false ∧ r2 = false) ∨ (r1 = false ∧ r2 = true) ∨ (r1 = true ∧ r2 = false) := by cases r1 <;> cases r2 <;> simp at hb ⊢
  clear hb
  rcases hr with ⟨rfl, rfl⟩ | ⟨rfl, rfl⟩ | ⟨rfl, rfl⟩
  all_goals
    go_enter Try.func22, Try.ntmps22
    unfold dv
    go_wp2_with fail
    refine (M1.out _ HS.out.2.2.2.2.2.2.2.2.2.2.2.2.2.2.2).mono ?_
    rintro e z1 ⟨rfl, hq⟩
    have HS1 := Lib.hid (SQ.out _ _ HS.out hq)
    have hS := HS1.out
    unfold SE at hS
    obtain ⟨a0, a1, a2, b0, b1, b2, _⟩ := hS
    clear hq
    go_wp2_with fail
    refine (M2.out _ HS1.out.2.2.2.2.2.2.2.2.2.2.2.2.2.2.2).mono ?_
    rintro e z2 ⟨rfl, hq⟩
    have HS2 := Lib.hid (SQ.out _ _ HS1.out hq)
    have hS := HS2.out
    have hfin := PUT.out z2 hS (.bool false) (.slice none 0 0) (.int .i64 0)
    have hqf : Q w _ := hfin.1.2.2.2.2.2.2.2.2.2.2.2.2.2.2.2
    have HF := Lib.hid hfin.2
    have HQ := Lib.hid hqf
    clear hq a0 a1 a2 b0 b1 b2 hfin hqf
    unfold SE at hS
    obtain ⟨a0, a1, a2, b0, b1, b2, c0, c1, c2, c3, c4, c5, _⟩ := hS
    go_wp2_with fail
    exact ret_dv2 rfl rfl rfl HF.out rfl ⟨rfl, HQ.out⟩
end Er
end Go.Proofs.Ytebcgpoemppljaa
