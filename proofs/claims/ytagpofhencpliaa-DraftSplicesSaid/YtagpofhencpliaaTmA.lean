/- What package draft's small functions come to, by a walk through each: May, Same, Fits, areAtoms, cut, own, noughts at the end, noughts, outside, the separator's atom. A draft by value: .agg of a sign, a list, the separator, a list. -/
import Derived.Test.YtagpofhencpliaaRows
import Derived.Test.YtagpofhencpliaaTmM
import Derived.Test.YtagpofhencpliaaTmS
import Derived.Test.YtagpofhencpliaaInts
import Derived.Test.YtagpofhencpliaaSto
import Derived.Test.YtagpofhencpliaaBlk
import Derived.Test.YtagpofhencpliaaDigW
import Derived.Deep.QuietTactic
import Derived.Deep.RegionWith
import Derived.BigQuiet
import Derived.Laws.ResultCell
set_option linter.unusedVariables false
set_option linter.unusedSimpArgs false
namespace Go.Proofs.Ytagpofhencpliaa
open Go.RowKit
theorem Lst.recap {w : World} {a : Option Addr} {n c : Nat} {zs : List Int} (h : Lst w (.slice a n c) zs) (d : Nat) (h0 : 0 < n) (hd : n ≤ d) (hm : d ≤ maxLen) : Lst w (.slice a n d) zs := by
  rcases h with ⟨rfl, _, _, hv, _⟩ | ⟨g, off, cap, hv, hg, h1, h2, hc⟩
  · cases hv; omega
  · cases hv
    exact .inr ⟨g, off, d, rfl, hg, hd, hm, hc⟩
namespace Tm
def same (a b : T) : Bool := a.g == b.g && a.s == b.s && decide (a.i = b.i) && decide (a.f = b.f)
theorem same_iff (a b : T) : same a b = true ↔ a = b := by
  cases a; cases b
  simp only [same, Bool.and_eq_true, beq_iff_eq, decide_eq_true_eq, T.mk.injEq]
  constructor
  · rintro ⟨⟨⟨h1, h2⟩, h3⟩, h4⟩; exact ⟨h1, h3, h2, h4⟩
  · rintro ⟨h1, h2, h3, h4⟩; exact ⟨⟨⟨h1, h3⟩, h2⟩, h4⟩
end Tm
namespace Tp
theorem infoP : (Try.prog.info? 30).map (·.size) = some 4 := by kernel_rfl

set_option maxHeartbeats 1600000 in
theorem may_any (g s : Bool) (vi vf : Value) (I F : List Int) (w : World) (hi : Lst w vi I) (hf : Lst w vf F) (l1 : I.length < 1000000) (l2 : F.length < 1000000) :
    Calls Try.prog 12 #[.agg #[.bool g, vi, .bool s, vf]] w fun e w' => e = .returned (.bool (Tm.may ⟨g, I, s, F⟩)) ∧ Q w w' := by
  obtain ⟨a1, c1, rfl⟩ := hi.shape
  obtain ⟨a2, c2, rfl⟩ := hf.shape
  have H1 := Lib.hid (fun u (q : Q w u) => Dw.may_any _ I u (hi.q q) (by omega))
  have H2 := Lib.hid (fun u (q : Q w u) => Dw.may_any _ F u (hf.q q) (by omega))
  have HR := Lib.hid (show Tm.may ⟨g, I, s, F⟩ = (Dm.okB I && Dm.okB F && (s || decide (F.length = 0))) from by unfold Tm.may; dsimp only; cases F <;> simp)
  rw [HR.out]
  have HQ := Lib.hid (show Q w (w.alloc (.cells #[.bool g, .slice a1 I.length c1, .bool s, .slice a2 F.length c2] 30)) from (Q.refl w).alloc _)
  clear HR
  generalize I.length = n1 at *
  generalize F.length = n2 at *
  generalize Dm.okB I = r1 at *
  generalize Dm.okB F = r2 at *
  clear hi hf l1
  go_enter Try.func12, Try.ntmps12
  go_wp2_with fail
  refine (H1.out _ HQ.out).mono ?_
  rintro e w1 ⟨rfl, rfl⟩
  cases r1
  · go_wp2_with fail
    go_ret
    exact ⟨rfl, HQ.out⟩
  · go_wp2_with fail
    refine (H2.out _ HQ.out).mono ?_
    rintro e w1 ⟨rfl, rfl⟩
    cases r2
    · go_wp2_with fail
      go_ret
      exact ⟨rfl, HQ.out⟩
    · cases s
      · by_cases h0 : n2 = 0
        · subst h0
          go_wp2_with fail
          go_ret
          exact ⟨rfl, HQ.out⟩
        · have e0 : ((n2 : Int) == 0) = false := by rw [beq_eq_false_iff_ne]; omega
          have HD := Lib.hid (decide_eq_false h0)
          go_wp2_with fail
          go_ret
          rw [HD.out]
          exact ⟨rfl, HQ.out⟩
      · go_wp2_with fail
        go_ret
        exact ⟨rfl, HQ.out⟩

set_option maxHeartbeats 1600000 in
theorem same_any (g s h t : Bool) (vi vf ui uf : Value) (I F J G : List Int) (w : World) (hi : Lst w vi I) (hf : Lst w vf F) (ki : Lst w ui J) (kf : Lst w uf G) (l1 : I.length < 1000000) (l2 : F.length < 1000000) (l3 : J.length < 1000000) (l4 : G.length < 1000000) :
    Calls Try.prog 36 #[.agg #[.bool g, vi, .bool s, vf], .agg #[.bool h, ui, .bool t, uf]] w fun e w' => e = .returned (.bool (Tm.same ⟨g, I, s, F⟩ ⟨h, J, t, G⟩)) ∧ Q w w' := by
  obtain ⟨a1, c1, rfl⟩ := hi.shape
  obtain ⟨a2, c2, rfl⟩ := hf.shape
  obtain ⟨b1, d1, rfl⟩ := ki.shape
  obtain ⟨b2, d2, rfl⟩ := kf.shape
  have H1 := Lib.hid (fun u (q : Q w u) => Ts.equal_any _ _ I J u (hi.q q) (ki.q q) (by omega) (by omega))
  have H2 := Lib.hid (fun u (q : Q w u) => Ts.equal_any _ _ F G u (hf.q q) (kf.q q) (by omega) (by omega))
  unfold Tm.same
  dsimp only
  generalize I.length = n1 at *
  generalize F.length = n2 at *
  generalize J.length = m1 at *
  generalize G.length = m2 at *
  generalize decide (I = J) = r1 at *
  generalize decide (F = G) = r2 at *
  clear hi hf ki kf l1 l2 l3 l4
  have hq := (((Q.refl w).alloc (.cells #[.bool g, .slice a1 n1 c1, .bool s, .slice a2 n2 c2] 30)).alloc (.cells #[.bool h, .slice b1 m1 d1, .bool t, .slice b2 m2 d2] 30))
  have HB := Lib.hid (show Bk ((w.alloc (.cells #[.bool g, .slice a1 n1 c1, .bool s, .slice a2 n2 c2] 30)).alloc (.cells #[.bool h, .slice b1 m1 d1, .bool t, .slice b2 m2 d2] 30)) w.heap.size 30 [.bool g, .slice a1 n1 c1, .bool s, .slice a2 n2 c2] from heap_alloc2_old _ _ _)
  have HC := Lib.hid (show Bk ((w.alloc (.cells #[.bool g, .slice a1 n1 c1, .bool s, .slice a2 n2 c2] 30)).alloc (.cells #[.bool h, .slice b1 m1 d1, .bool t, .slice b2 m2 d2] 30)) (w.heap.size + 1) 30 [.bool h, .slice b1 m1 d1, .bool t, .slice b2 m2 d2] from heap_alloc2_new _ _ _)
  have HQ := Lib.hid hq
  clear hq
  by_cases hg : g = h
  · subst hg
    by_cases hs : s = t
    · subst hs
      go_enter Try.func36, Try.ntmps36
      go_wp2_with fail
      refine (H1.out _ HQ.out).mono ?_
      rintro e w1 ⟨rfl, hq⟩
      have x3 := (HB.out.q hq).cell 3 rfl
      have y3 := (HC.out.q hq).cell 3 rfl
      cases r1
      · go_wp2_with fail
        go_ret
        exact ⟨by simp, HQ.out.trans hq⟩
      · go_wp2_with fail
        refine (H2.out _ (HQ.out.trans hq)).mono ?_
        rintro e w2 ⟨rfl, hq2⟩
        cases r2
        · go_wp2_with fail
          go_ret
          exact ⟨by simp, (HQ.out.trans hq).trans hq2⟩
        · go_wp2_with fail
          go_ret
          exact ⟨by simp, (HQ.out.trans hq).trans hq2⟩
    · have e1 : (s == t) = false := beq_eq_false_iff_ne.2 hs
      go_enter Try.func36, Try.ntmps36
      go_wp2_with fail
      go_ret
      exact ⟨retB (by rw [e1]; simp), HQ.out⟩
  · have e1 : (g == h) = false := beq_eq_false_iff_ne.2 hg
    go_enter Try.func36, Try.ntmps36
    go_wp2_with fail
    go_ret
    exact ⟨retB (by rw [e1]; rfl), HQ.out⟩

theorem fits_any (g s : Bool) (a1 a2 : Option Addr) (n1 n2 c1 c2 : Nat) (x y : Int) (w : World) :
    Calls Try.prog 18 #[.agg #[.bool g, .slice a1 n1 c1, .bool s, .slice a2 n2 c2], .int .i64 x, .int .i64 y] w fun e w' => e = .returned (.bool (decide ((n1 : Int) ≤ x) && decide ((n2 : Int) ≤ y))) ∧ Q w w' := by
  have HQ := Lib.hid (show Q w (w.alloc (.cells #[.bool g, .slice a1 n1 c1, .bool s, .slice a2 n2 c2] 30)) from (Q.refl w).alloc _)
  by_cases h1 : (n1 : Int) ≤ x
  · by_cases h2 : (n2 : Int) ≤ y
    · have HR := Lib.hid (show (decide ((n1 : Int) ≤ x) && decide ((n2 : Int) ≤ y)) = true from by rw [decide_eq_true h1, decide_eq_true h2]; rfl)
      rw [HR.out]
      go_enter Try.func18, Try.ntmps18
      go_wp2_with fail
      go_ret
      exact ⟨rfl, HQ.out⟩
    · have HR := Lib.hid (show (decide ((n1 : Int) ≤ x) && decide ((n2 : Int) ≤ y)) = false from by rw [decide_eq_false h2, Bool.and_false])
      rw [HR.out]
      go_enter Try.func18, Try.ntmps18
      go_wp2_with fail
      go_ret
      exact ⟨retB (by first | rfl | (simp; done) | (simp; omega)), HQ.out⟩
  · have HR := Lib.hid (show (decide ((n1 : Int) ≤ x) && decide ((n2 : Int) ≤ y)) = false from by rw [decide_eq_false h1, Bool.false_and])
    rw [HR.out]
    go_enter Try.func18, Try.ntmps18
    go_wp2_with fail
    go_ret
    exact ⟨retB (by first | rfl | (simp; done) | (simp; omega)), HQ.out⟩

set_option maxHeartbeats 800000 in
theorem areAtoms_any (v : Value) (xs : List Int) (w : World) (hv : Lst w v xs) (hl : xs.length < 1099511627776) :
    Calls Try.prog 48 #[v] w fun e w' => e = .returned (.bool (Tm.okA xs)) ∧ w = w' := by
  obtain ⟨a, c, rfl⟩ := hv.shape
  obtain ⟨n, hn⟩ : ∃ n, n = xs.length := ⟨_, rfl⟩
  obtain ⟨r, hr⟩ : ∃ r, r = Tm.okA xs := ⟨_, rfl⟩
  rw [← hr]
  have HB := Lib.hid (Tm.okA_bad xs)
  have HO := Lib.hid (Tm.okA_on xs)
  have HE := Lib.hid (Tm.okA_end xs)
  have HR := Lib.hid hr
  rw [← hn] at hv hl HB HO HE ⊢
  have HV := Lib.hid (fun k h => hv.cellOf (n := n) (k := k) hn.symm h)
  clear hv hn hr
  go_enter Try.func48, Try.ntmps48
  go_wp2_with fail
  go_loop [7] (fun i => ∃ k : Nat, i = .int .i64 k ∧ k ≤ n ∧ Tm.okA (xs.drop k) = r) (fun i => n - (intOf i).toNat)
  case atStart => exact ⟨0, rfl, by omega, by rw [HR.out]; rfl⟩
  case round =>
    obtain ⟨k, rfl, hk, hc⟩ := hrel
    have HC := Lib.hid hc
    clear hc
    by_cases hlt : k < n
    · obtain ⟨g, off, cap, hvv, hg, _, _, c1⟩ := HV.out k hlt
      cases hvv
      have hb := HB.out k hlt
      have ho := HO.out k hlt
      obtain ⟨y, hy⟩ : ∃ y, y = xs.getD k 0 := ⟨_, rfl⟩
      rw [← hy] at c1 hb ho
      clear hy
      by_cases hy0 : y < 0
      · have HF : Hid (r = false) := Lib.hid (by rw [← HC.out]; exact hb (by omega))
        clear hb ho
        go_wp2_with fail
        go_ret
        rw [HF.out]
        exact ⟨rfl, rfl⟩
      · by_cases hy1 : 10 < y
        · have HF : Hid (r = false) := Lib.hid (by rw [← HC.out]; exact hb (by omega))
          clear hb ho
          go_wp2_with fail
          go_ret
          rw [HF.out]
          exact ⟨rfl, rfl⟩
        · have HN := Lib.hid ((ho (by omega)).symm.trans HC.out)
          have h3 : ¬ y > 10 := by omega
          have h4 : y ≤ 10 := by omega
          have h5 : 0 ≤ y := by omega
          clear hb ho
          go_wp2_with fail
          exact ⟨⟨k + 1, by go_num, by omega, HN.out⟩, by simp [intOf]; omega⟩
    · have HF : Hid (r = true) := Lib.hid (by rw [← HC.out]; exact HE.out k (by omega))
      go_wp2_with fail
      go_ret
      rw [HF.out]
      exact ⟨rfl, rfl⟩

set_option maxHeartbeats 800000 in
/-- What stands from i up to j: no copy, and no room behind it. -/
theorem cut_any (v : Value) (xs : List Int) (i j : Nat) (w : World) (hv : Lst w v xs) (hij : i ≤ j) (hj : j ≤ xs.length) :
    Calls Try.prog 42 #[v, .int .i64 i, .int .i64 j] w fun e w' => ∃ a, e = .returned (.slice a (j - i) (j - i)) ∧ Lst w (.slice a (j - i) (j - i)) ((xs.drop i).take (j - i)) ∧ w = w' := by
  obtain ⟨n, hn⟩ : ∃ n, n = xs.length := ⟨_, rfl⟩
  by_cases hlt : i = j
  · subst hlt
    have HZ := Lib.hid (show (xs.drop i).take (i - i) = [] from by simp)
    obtain ⟨a, c, rfl, hc1, hc2⟩ := hv.form0 hn.symm
    have hpc : (i : Int) ≤ (c : Int) := by omega
    unfold maxLen at hc2
    rw [HZ.out, Nat.sub_self]
    clear hv hn HZ hj
    go_enter Try.func42, Try.ntmps42
    cases a
    all_goals
      go_wp2_with fail
      go_ret
      exact ⟨_, rfl, .nil _ _ _ (by unfold maxLen; omega) (fun _ => rfl), rfl⟩
  · obtain ⟨g, off, cap, rfl, hg, hcp, hcm, _⟩ := hv.cellOf hn.symm (k := i) (by omega)
    have hd := hv.drop hn.symm (k := i) (by omega)
    have ht := hd.take (j - i) (by rw [List.length_drop]; omega)
    have hr := ht.recap (j - i) (by omega) (Nat.le_refl _) (by omega)
    have HR := Lib.hid hr
    have hpc : (j : Int) ≤ (cap : Int) := by omega
    have hpi : (i : Int) ≤ (j : Int) := by omega
    have hne : ¬ (j = i) := by omega
    have hne2 : ¬ (j - i = 0) := by omega
    unfold maxLen at hcm
    clear hv hd ht hr hj hn
    go_enter Try.func42, Try.ntmps42
    go_wp2_with fail
    go_ret
    exact ⟨_, rfl, HR.out, rfl⟩

theorem own_any (v : Value) (xs : List Int) (w : World) (hv : Lst w v xs) (hl : xs.length < 1000000) :
    Calls Try.prog 65 #[v] w fun e w' => ∃ u, e = .returned u ∧ Own w' w.heap.size u xs ∧ Q w w' := by
  obtain ⟨n, hn⟩ : ∃ n, n = xs.length := ⟨_, rfl⟩
  obtain ⟨a, c, rfl, _, _⟩ := hv.form0 hn.symm
  have HV := Lib.hid hv
  have hol := Own.nil w w.heap.size
  have HW := Lib.hid (show ([] : List Int).length + xs.length < 1099511627776 from by show 0 + _ < _; omega)
  clear hv hl hn
  go_enter Try.func65, Try.ntmps65
  go_wp2_with (at_builtin; refine push_list hol HV.out rfl _ _ rfl (by rfl) (by rfl) HW.out (Nat.le_refl _) ?_)
  intro u w2 hu hg2 hat2
  have HU := Lib.hid hu
  have HQ := Lib.hid ((Q.refl w).grown hg2 (fun k h => by cases h))
  clear hu hg2 hat2
  go_wp2_with fail
  go_ret
  exact ⟨_, rfl, HU.out, HQ.out⟩

set_option maxHeartbeats 800000 in
theorem zeb_any (v : Value) (xs : List Int) (w : World) (hv : Lst w v xs) (hl : xs.length < 1099511627776) :
    Calls Try.prog 43 #[v] w fun e w' => e = .returned (.int .i64 (Tm.zeb xs)) ∧ w = w' := by
  obtain ⟨a, c, rfl⟩ := hv.shape
  obtain ⟨n, hn⟩ : ∃ n, n = xs.length := ⟨_, rfl⟩
  have HS := Lib.hid (Tm.zeb_step xs)
  have HH := Lib.hid (Tm.zeb_hit xs)
  have hz := Tm.zeb_le xs
  generalize Tm.zeb xs = z at *
  rw [← hn] at hv hl HS HH hz ⊢
  have HV := Lib.hid (fun k h => hv.cellOf (n := n) (k := k) hn.symm h)
  clear hv hn
  go_enter Try.func43, Try.ntmps43
  go_wp2_with fail
  go_loop [3] (fun i => ∃ k : Nat, i = .int .i64 k ∧ k ≤ n ∧ k ≤ z) (fun i => n - (intOf i).toNat)
  case atStart => exact ⟨0, rfl, by omega, by omega⟩
  case round =>
    obtain ⟨k, rfl, hk, hkz⟩ := hrel
    by_cases hlt : k < n
    · obtain ⟨m, hm⟩ : ∃ m, m = n - 1 - k := ⟨_, rfl⟩
      obtain ⟨g, off, cap, hvv, hg, _, _, c1⟩ := HV.out m (by omega)
      cases hvv
      have hs := HS.out k hkz hlt
      have hh := HH.out k hkz hlt
      rw [← hm] at hs hh
      obtain ⟨y, hy⟩ : ∃ y, y = xs.getD m 0 := ⟨_, rfl⟩
      rw [← hy] at c1 hs hh
      clear hy
      have hme : (n : Int) - 1 - (k : Int) = (m : Int) := by omega
      have hmn : m < n := by omega
      have HM := Lib.hid hm
      clear hm
      by_cases hy0 : y = 0
      · have h1 := hs hy0
        have e1 : (y == 0) = true := by rw [hy0]; rfl
        clear hs hh hy0
        go_wp2_with fail
        exact ⟨⟨k + 1, by go_num, by omega, h1⟩, by simp [intOf]; omega⟩
      · have HZ := Lib.hid (hh hy0)
        have e1 : (y == 0) = false := beq_eq_false_iff_ne.2 hy0
        clear hs hh hy0
        go_wp2_with fail
        go_ret
        rw [HZ.out]
        exact ⟨rfl, rfl⟩
    · have HZ : Hid (z = k) := Lib.hid (by omega)
      go_wp2_with fail
      go_ret
      rw [HZ.out]
      exact ⟨rfl, rfl⟩

theorem noughts_any (n : Int) (w : World) (hn : -1000000 ≤ n ∧ n ≤ 1000000) :
    Calls Try.prog 55 #[.int .i64 n] w fun e w' => ∃ u, e = .returned u ∧ Own w' w.heap.size u (List.replicate n.toNat 0) ∧ Q w w' := by
  by_cases h0 : n < 0
  · have HZ := Lib.hid (show n.toNat = 0 from by omega)
    rw [HZ.out]
    have h1 : n ≤ 0 := by omega
    have h2 : ¬ 0 < n := by omega
    have h3 : ¬ 0 ≤ n := by omega
    have hx1 : max n 0 = 0 := by omega
    go_enter Try.func55, Try.ntmps55
    go_wp2_with (at_make; refine make_ints rfl _ _ rfl 0 _ (by rfl) (by rfl) rfl (by omega) (Nat.le_refl _) ?_)
    intro w2 ho2 hq2 hsz2
    have HO := Lib.hid ho2
    have HQ := Lib.hid hq2
    clear ho2 hq2
    go_wp2_with fail
    go_ret
    exact ⟨_, rfl, HO.out, HQ.out⟩
  · obtain ⟨x, rfl⟩ : ∃ x : Nat, n = x := ⟨n.toNat, by omega⟩
    rw [Int.toNat_natCast]
    have h1 : ¬ ((x : Int) < 0) := by omega
    have h3 : 0 ≤ (x : Int) := by omega
    have hx1 : max (x : Int) 0 = (x : Int) := by omega
    go_enter Try.func55, Try.ntmps55
    go_wp2_with (at_make; refine make_ints rfl _ _ rfl x _ (by rfl) (by rfl) rfl (by omega) (Nat.le_refl _) ?_)
    intro w2 ho2 hq2 hsz2
    have HO := Lib.hid ho2
    have HQ := Lib.hid hq2
    clear ho2 hq2
    go_wp2_with fail
    go_ret
    exact ⟨_, rfl, HO.out, HQ.out⟩

theorem outside_any (n : Int) (w : World) : Calls Try.prog 52 #[.int .i64 n] w fun e w' => e = .returned (.bool (decide (n < 0 ∨ 64 < n))) ∧ w = w' := by
  by_cases h1 : n < 0
  · have HR := Lib.hid (decide_eq_true (show n < 0 ∨ 64 < n from .inl h1))
    rw [HR.out]
    go_enter Try.func52, Try.ntmps52
    go_wp2_with fail
    go_ret
    exact ⟨rfl, rfl⟩
  · by_cases h2 : 64 < n
    · have HR := Lib.hid (decide_eq_true (show n < 0 ∨ 64 < n from .inr h2))
      rw [HR.out]
      go_enter Try.func52, Try.ntmps52
      go_wp2_with fail
      go_ret
      exact ⟨retB (by first | rfl | (simp; done) | (simp; omega)), rfl⟩
    · have HR := Lib.hid (decide_eq_false (show ¬ (n < 0 ∨ 64 < n) from by omega))
      rw [HR.out]
      go_enter Try.func52, Try.ntmps52
      go_wp2_with fail
      go_ret
      exact ⟨retB (by first | rfl | (simp; done) | (simp; omega)), rfl⟩

theorem separator_any (g s : Bool) (a1 a2 : Option Addr) (n1 n2 c1 c2 : Nat) (w : World) :
    Calls Try.prog 41 #[.agg #[.bool g, .slice a1 n1 c1, .bool s, .slice a2 n2 c2]] w fun e w' => ∃ a c, e = .returned (.slice a (Tm.sep s).length c) ∧ Lst w' (.slice a (Tm.sep s).length c) (Tm.sep s) ∧ Q w w' := by
  have HQ := Lib.hid (show Q w (w.alloc (.cells #[.bool g, .slice a1 n1 c1, .bool s, .slice a2 n2 c2] 30)) from (Q.refl w).alloc _)
  cases s
  · go_enter Try.func41, Try.ntmps41
    go_wp2_with fail
    go_ret
    exact ⟨none, 0, rfl, Lst.nil _ none 0 (by unfold maxLen; omega) (fun _ => rfl), HQ.out⟩
  · have hl := Lst.made (w.alloc (.cells #[.bool g, .slice a1 n1 c1, .bool true, .slice a2 n2 c2] 30)) [10] 1 rfl (by unfold maxLen; omega)
    rw [World.size_alloc] at hl
    have HL := Lib.hid hl
    clear hl
    go_enter Try.func41, Try.ntmps41
    go_wp2_with fail
    go_ret
    exact ⟨_, _, rfl, HL.out, HQ.out.alloc _⟩
end Tp
end Go.Proofs.Ytagpofhencpliaa
