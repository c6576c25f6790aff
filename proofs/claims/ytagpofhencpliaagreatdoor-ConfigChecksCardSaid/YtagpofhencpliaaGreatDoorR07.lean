/- What package digit's Trim and Compare, and the library's Reverse, come to, by a walk through each. (and more) -/
import Derived.Test.YtagpofhencpliaaGreatDoorR00
import Derived.Test.YtagpofhencpliaaGreatDoorR02
import Derived.Test.YtagpofhencpliaaGreatDoorR04
import Derived.Test.YtagpofhencpliaaGreatDoorR03
import Derived.Test.YtagpofhencpliaaGreatDoorRows
import Derived.Deep.QuietTactic
import Derived.Deep.RegionWith
import Derived.BigQuiet
set_option linter.unusedVariables false
set_option linter.unusedSimpArgs false
namespace Go.Proofs.YtagpofhencpliaaGreatDoor
open Go.RowKit
namespace Dw
set_option maxHeartbeats 800000 in
theorem trim_any (v : Value) (xs : List Int) (w : World) (hv : Lst w v xs) (hl : xs.length < 1099511627776) :
    Calls Tryz.prog 67 #[v] w fun e w' => ∃ u, e = .returned u ∧ Own w' w.heap.size u (Dm.trimL xs) ∧ Q w w' := by
  have hz := fun w h => zeros_any v xs w h hl
  have hzl := Dm.zer_le xs
  have htd := Dm.trim_drop xs
  have htl := Dm.trim_len xs
  generalize Dm.zer xs = z at *
  obtain ⟨n, hn⟩ : ∃ n, n = xs.length := ⟨_, rfl⟩
  rw [← hn] at hl hzl htl
  have HZ := Lib.hid hz
  have HV := Lib.hid hv
  have hol := Own.nil w w.heap.size
  by_cases hlt : z < n
  · obtain ⟨g, off, cap, rfl, hg, hnc, hcm, _⟩ := hv.cellOf (n := n) (k := z) hn.symm hlt
    have hd := hv.drop hn.symm hlt
    rw [← htd] at hd
    have hzn : (z : Int) ≤ (n : Int) := by omega
    have hzc : (z : Int) ≤ (cap : Int) := by omega
    have hne : ¬ (cap = z) := by omega
    have hne2 : ¬ (cap - z = 0) := by omega
    have hwl : ([] : List Int).length + (Dm.trimL xs).length < 1099511627776 := by rw [htl]; show 0 + (n - z) < _; omega
    have HD := Lib.hid hd
    have HW := Lib.hid hwl
    unfold maxLen at hcm
    clear hv hz hd htd htl hn hwl
    go_enter Tryz.func67, Tryz.ntmps67
    go_wp2_with fail
    refine (HZ.out _ HV.out).mono ?_
    rintro e w1 ⟨rfl, rfl⟩
    go_wp2_with (at_builtin; refine push_list hol HD.out rfl _ _ rfl (by rfl) (by rfl) HW.out (Nat.le_refl _) ?_)
    intro u w2 hu hg2 hat2
    go_wp2_with fail
    go_ret
    exact ⟨_, rfl, hu, (Q.refl w).grown hg2 (fun k hk => by cases hk)⟩
  · have hze : z = n := by omega
    subst hze
    obtain ⟨ad, cap, rfl, hnc, hcm⟩ := hv.form0 hn.symm
    have hzc : (z : Int) ≤ (cap : Int) := by omega
    have HE : Hid (Dm.trimL xs = []) := Lib.hid (by rw [htd]; exact List.drop_eq_nil_of_le (by omega))
    rw [HE.out]
    unfold maxLen at hcm
    have hnil : ∀ (a : Option Addr) (c : Nat), c ≤ 9223372036854775807 → (a = none → c = 0) → Lst w (.slice a 0 c) [] := fun a c h1 h2 => .nil w a c h1 h2
    have hnn : ad = none → cap = 0 := by
      intro h
      rcases hv with ⟨rfl, _, _, hv2, _, hn2⟩ | ⟨_, _, _, hv2, _⟩
      · cases hv2; exact hn2 h
      · cases hv2; cases h
    have HN := Lib.hid hnn
    clear hv hz htd htl hn hnn
    by_cases hcz : cap = z
    · subst hcz
      cases ad
      all_goals
        go_enter Tryz.func67, Tryz.ntmps67
        go_wp2_with fail
        refine (HZ.out _ HV.out).mono ?_
        rintro e w1 ⟨rfl, rfl⟩
        go_wp2_with (at_builtin; refine push_list hol (hnil _ 0 (by omega) (fun _ => rfl)) rfl _ _ rfl (by rfl) (by rfl) (by show 0 + 0 < 1099511627776; omega) (Nat.le_refl _) ?_)
        intro u w2 hu hg2 hat2
        go_wp2_with fail
        go_ret
        exact ⟨_, rfl, hu, (Q.refl w).grown hg2 (fun k hk => by cases hk)⟩
    · have hne2 : ¬ (cap - z = 0) := by omega
      cases ad with
      | none => exact absurd (HN.out rfl) (by omega)
      | some ad =>
        have hX := hnil (some (ad.add z)) (cap - z) (by omega) (fun h => by cases h)
        go_enter Tryz.func67, Tryz.ntmps67
        go_wp2_with fail
        refine (HZ.out _ HV.out).mono ?_
        rintro e w1 ⟨rfl, rfl⟩
        go_wp2_with (at_builtin; refine push_list hol hX rfl _ _ rfl (by rfl) (by rfl) (by show 0 + 0 < 1099511627776; omega) (Nat.le_refl _) ?_)
        intro u w2 hu hg2 hat2
        go_wp2_with fail
        go_ret
        exact ⟨_, rfl, hu, (Q.refl w).grown hg2 (fun k hk => by cases hk)⟩
set_option maxHeartbeats 1600000 in
theorem compare_any (va vb : Value) (xs ys : List Int) (w : World) (hv : Lst w va xs) (hu : Lst w vb ys) (hl : xs.length < 1099511627776) (hl2 : ys.length < 1099511627776) (hx : Dm.okD xs) (hy : Dm.okD ys) :
    Calls Tryz.prog 51 #[va, vb] w fun e w' => e = .returned (.int .i64 (Dm.cmpZ (Dm.num xs) (Dm.num ys))) ∧ Q w w' := by
  have hz := fun w h => zeros_any va xs w h hl
  have hzl := Dm.zer_le xs
  have htd := Dm.trim_drop xs
  have htl := Dm.trim_len xs
  have hz2 := fun w h => zeros_any vb ys w h hl2
  have hzl2 := Dm.zer_le ys
  have htd2 := Dm.trim_drop ys
  have htl2 := Dm.trim_len ys
  have HLT := Lib.hid (Dm.cmp_len_lt xs ys hx hy)
  have HGT := Lib.hid (Dm.cmp_len_gt xs ys hx hy)
  have HEQ := Lib.hid (Dm.cmp_len_eq xs ys hx hy)
  have HL1 := Lib.hid (show ∀ k, (xs.drop k).length < 1099511627776 from fun k => by rw [List.length_drop]; omega)
  have HL2 := Lib.hid (show ∀ k, (ys.drop k).length < 1099511627776 from fun k => by rw [List.length_drop]; omega)
  generalize Dm.cmpZ (Dm.num xs) (Dm.num ys) = r at *
  generalize Dm.zer xs = z at *
  generalize Dm.zer ys = y at *
  rw [htl, htl2] at HLT HGT HEQ
  rw [htd, htd2] at HEQ
  obtain ⟨n, hn⟩ : ∃ n, n = xs.length := ⟨_, rfl⟩
  obtain ⟨m, hm⟩ : ∃ m, m = ys.length := ⟨_, rfl⟩
  rw [← hn] at hl hzl htl HLT HGT HEQ
  rw [← hm] at hl2 hzl2 htl2 HLT HGT HEQ
  have HZ := Lib.hid hz
  have HZ2 := Lib.hid hz2
  have HV := Lib.hid (fun k => hv.q ((Q.refl w).drewN k))
  have HU := Lib.hid (fun k => hu.q ((Q.refl w).drewN k))
  have HC := Lib.hid cmp_any
  have HS := Lib.hid scmp_any
  clear hz hz2 htd htd2 htl htl2 hx hy
  obtain ⟨a, c, rfl, hnc, hcm⟩ := hv.form0 hn.symm
  obtain ⟨b, d, rfl, hnd, hdm⟩ := hu.form0 hm.symm
  have h1 := hv.rest hn.symm hzl
  have h2 := hu.rest hm.symm hzl2
  unfold maxLen at hcm hdm
  clear hv hu hn hm
  have hzc : (z : Int) ≤ (c : Int) := by omega
  have hyd : (y : Int) ≤ (d : Int) := by omega
  rcases h1 with ⟨g, off, rfl, hlt1, hp1, hq1, hr⟩ | ⟨rfl, rfl, he⟩ | ⟨ad, rfl, rfl, hlt1, hq1, he⟩
  · rcases h2 with ⟨g2, off2, rfl, hlt2, hp2, hq2, hr2⟩ | ⟨rfl, rfl, he2⟩ | ⟨ad2, rfl, rfl, hlt2, hq2, he2⟩
    · have ha1 : ¬ (c = z) := by omega
      have hb1 : ¬ (c - z = 0) := by omega
      have hc1 : (z : Int) ≤ (n : Int) := by omega
      have HR := Lib.hid hr
      clear hr
      have ha2 : ¬ (d = y) := by omega
      have hb2 : ¬ (d - y = 0) := by omega
      have hc2 : (y : Int) ≤ (m : Int) := by omega
      have HR2 := Lib.hid hr2
      clear hr2
      rcases Nat.lt_trichotomy (n - z) (m - y) with h | h | h
      · have HF := Lib.hid (HLT.out (by omega))
        have hcc := HC.out ((n - z : Nat) : Int) ((m - y : Nat) : Int)
        rw [Dm.cmpZ_lt (by omega)] at hcc
        have HCC := Lib.hid hcc
        clear hcc
        go_enter Tryz.func51, Tryz.ntmps51
        go_wp2_with fail
        go_quiet (first | (go_at_call_of 69 (Value.slice (some ⟨g, off, none⟩) n c); exact Calls.quiet_of_same ((HZ.out _ (HV.out _)).mono fun _ _ h => ⟨h.1, h.2.symm⟩)) | (go_at_call_of 69 (Value.slice (some ⟨g2, off2, none⟩) m d); exact Calls.quiet_of_same ((HZ2.out _ (HU.out _)).mono fun _ _ h => ⟨h.1, h.2.symm⟩)))
        go_wp2_with fail
        refine (HCC.out _).mono ?_
        rintro e w1 ⟨rfl, rfl⟩
        go_wp2_with fail
        go_ret
        rw [HF.out]
        exact ⟨rfl, (Q.refl w).drewN _⟩
      · have HF := Lib.hid (HEQ.out (by omega))
        have hcc := HC.out ((n - z : Nat) : Int) ((m - y : Nat) : Int)
        rw [Dm.cmpZ_eq (by omega)] at hcc
        have HCC := Lib.hid hcc
        clear hcc h
        go_enter Tryz.func51, Tryz.ntmps51
        go_wp2_with fail
        go_quiet (first | (go_at_call_of 69 (Value.slice (some ⟨g, off, none⟩) n c); exact Calls.quiet_of_same ((HZ.out _ (HV.out _)).mono fun _ _ h => ⟨h.1, h.2.symm⟩)) | (go_at_call_of 69 (Value.slice (some ⟨g2, off2, none⟩) m d); exact Calls.quiet_of_same ((HZ2.out _ (HU.out _)).mono fun _ _ h => ⟨h.1, h.2.symm⟩)))
        go_wp2_with fail
        refine (HCC.out _).mono ?_
        rintro e w1 ⟨rfl, rfl⟩
        go_wp2_with fail
        refine (HS.out _ _ _ _ _ (HR.out.q ((Q.refl w).drewN _)) (HR2.out.q ((Q.refl w).drewN _)) (HL1.out _) (HL2.out _)).mono ?_
        rintro e w1 ⟨rfl, rfl⟩
        go_wp2_with fail
        go_ret
        rw [HF.out]
        exact ⟨rfl, (Q.refl w).drewN _⟩
      · have HF := Lib.hid (HGT.out (by omega))
        have hcc := HC.out ((n - z : Nat) : Int) ((m - y : Nat) : Int)
        rw [Dm.cmpZ_gt (by omega)] at hcc
        have HCC := Lib.hid hcc
        clear hcc
        go_enter Tryz.func51, Tryz.ntmps51
        go_wp2_with fail
        go_quiet (first | (go_at_call_of 69 (Value.slice (some ⟨g, off, none⟩) n c); exact Calls.quiet_of_same ((HZ.out _ (HV.out _)).mono fun _ _ h => ⟨h.1, h.2.symm⟩)) | (go_at_call_of 69 (Value.slice (some ⟨g2, off2, none⟩) m d); exact Calls.quiet_of_same ((HZ2.out _ (HU.out _)).mono fun _ _ h => ⟨h.1, h.2.symm⟩)))
        go_wp2_with fail
        refine (HCC.out _).mono ?_
        rintro e w1 ⟨rfl, rfl⟩
        go_wp2_with fail
        go_ret
        rw [HF.out]
        exact ⟨rfl, (Q.refl w).drewN _⟩
    · cases b with
      | none =>
        have ha1 : ¬ (c = z) := by omega
        have hb1 : ¬ (c - z = 0) := by omega
        have hc1 : (z : Int) ≤ (n : Int) := by omega
        have HR := Lib.hid hr
        clear hr
        rw [he2] at HEQ
        have HF := Lib.hid (HGT.out (by omega))
        have hcc := HC.out ((n - z : Nat) : Int) 0
        rw [Dm.cmpZ_gt (by omega)] at hcc
        have HCC := Lib.hid hcc
        clear hcc
        go_enter Tryz.func51, Tryz.ntmps51
        go_wp2_with fail
        go_quiet (first | (go_at_call_of 69 (Value.slice (some ⟨g, off, none⟩) n c); exact Calls.quiet_of_same ((HZ.out _ (HV.out _)).mono fun _ _ h => ⟨h.1, h.2.symm⟩)) | (go_at_call_of 69 (Value.slice none d d); exact Calls.quiet_of_same ((HZ2.out _ (HU.out _)).mono fun _ _ h => ⟨h.1, h.2.symm⟩)))
        go_wp2_with fail
        refine (HCC.out _).mono ?_
        rintro e w1 ⟨rfl, rfl⟩
        go_wp2_with fail
        go_ret
        rw [HF.out]
        exact ⟨rfl, (Q.refl w).drewN _⟩
      | some ad2 =>
        have ha1 : ¬ (c = z) := by omega
        have hb1 : ¬ (c - z = 0) := by omega
        have hc1 : (z : Int) ≤ (n : Int) := by omega
        have HR := Lib.hid hr
        clear hr
        rw [he2] at HEQ
        have HF := Lib.hid (HGT.out (by omega))
        have hcc := HC.out ((n - z : Nat) : Int) 0
        rw [Dm.cmpZ_gt (by omega)] at hcc
        have HCC := Lib.hid hcc
        clear hcc
        go_enter Tryz.func51, Tryz.ntmps51
        go_wp2_with fail
        go_quiet (first | (go_at_call_of 69 (Value.slice (some ⟨g, off, none⟩) n c); exact Calls.quiet_of_same ((HZ.out _ (HV.out _)).mono fun _ _ h => ⟨h.1, h.2.symm⟩)) | (go_at_call_of 69 (Value.slice (some ad2) d d); exact Calls.quiet_of_same ((HZ2.out _ (HU.out _)).mono fun _ _ h => ⟨h.1, h.2.symm⟩)))
        go_wp2_with fail
        refine (HCC.out _).mono ?_
        rintro e w1 ⟨rfl, rfl⟩
        go_wp2_with fail
        go_ret
        rw [HF.out]
        exact ⟨rfl, (Q.refl w).drewN _⟩
    · have ha1 : ¬ (c = z) := by omega
      have hb1 : ¬ (c - z = 0) := by omega
      have hc1 : (z : Int) ≤ (n : Int) := by omega
      have HR := Lib.hid hr
      clear hr
      have hb2 : ¬ (d - y = 0) := by omega
      have ha2 : ¬ (d = y) := by omega
      rw [he2] at HEQ
      have HF := Lib.hid (HGT.out (by omega))
      have hcc := HC.out ((n - z : Nat) : Int) 0
      rw [Dm.cmpZ_gt (by omega)] at hcc
      have HCC := Lib.hid hcc
      clear hcc
      go_enter Tryz.func51, Tryz.ntmps51
      go_wp2_with fail
      go_quiet (first | (go_at_call_of 69 (Value.slice (some ⟨g, off, none⟩) n c); exact Calls.quiet_of_same ((HZ.out _ (HV.out _)).mono fun _ _ h => ⟨h.1, h.2.symm⟩)) | (go_at_call_of 69 (Value.slice (some ad2) y d); exact Calls.quiet_of_same ((HZ2.out _ (HU.out _)).mono fun _ _ h => ⟨h.1, h.2.symm⟩)))
      go_wp2_with fail
      refine (HCC.out _).mono ?_
      rintro e w1 ⟨rfl, rfl⟩
      go_wp2_with fail
      go_ret
      rw [HF.out]
      exact ⟨rfl, (Q.refl w).drewN _⟩
  · cases a with
    | none =>
      rcases h2 with ⟨g2, off2, rfl, hlt2, hp2, hq2, hr2⟩ | ⟨rfl, rfl, he2⟩ | ⟨ad2, rfl, rfl, hlt2, hq2, he2⟩
      · have ha2 : ¬ (d = y) := by omega
        have hb2 : ¬ (d - y = 0) := by omega
        have hc2 : (y : Int) ≤ (m : Int) := by omega
        have HR2 := Lib.hid hr2
        clear hr2
        rw [he] at HEQ
        have HF := Lib.hid (HLT.out (by omega))
        have hcc := HC.out 0 ((m - y : Nat) : Int)
        rw [Dm.cmpZ_lt (by omega)] at hcc
        have HCC := Lib.hid hcc
        clear hcc
        go_enter Tryz.func51, Tryz.ntmps51
        go_wp2_with fail
        go_quiet (first | (go_at_call_of 69 (Value.slice none c c); exact Calls.quiet_of_same ((HZ.out _ (HV.out _)).mono fun _ _ h => ⟨h.1, h.2.symm⟩)) | (go_at_call_of 69 (Value.slice (some ⟨g2, off2, none⟩) m d); exact Calls.quiet_of_same ((HZ2.out _ (HU.out _)).mono fun _ _ h => ⟨h.1, h.2.symm⟩)))
        go_wp2_with fail
        refine (HCC.out _).mono ?_
        rintro e w1 ⟨rfl, rfl⟩
        go_wp2_with fail
        go_ret
        rw [HF.out]
        exact ⟨rfl, (Q.refl w).drewN _⟩
      · cases b with
        | none =>
          rw [he] at HEQ
          rw [he2] at HEQ
          have HF := Lib.hid (HEQ.out (by omega))
          have hcc := HC.out 0 0
          rw [Dm.cmpZ_eq (by omega)] at hcc
          have HCC := Lib.hid hcc
          clear hcc
          go_enter Tryz.func51, Tryz.ntmps51
          go_wp2_with fail
          go_quiet (first | (go_at_call_of 69 (Value.slice none c c); exact Calls.quiet_of_same ((HZ.out _ (HV.out _)).mono fun _ _ h => ⟨h.1, h.2.symm⟩)) | (go_at_call_of 69 (Value.slice none d d); exact Calls.quiet_of_same ((HZ2.out _ (HU.out _)).mono fun _ _ h => ⟨h.1, h.2.symm⟩)))
          go_wp2_with fail
          refine (HCC.out _).mono ?_
          rintro e w1 ⟨rfl, rfl⟩
          go_wp2_with fail
          refine (HS.out _ _ [] [] _ (.nil _ _ _ (by unfold maxLen; omega) (by first | (intro _; rfl) | (intro h; cases h))) (.nil _ _ _ (by unfold maxLen; omega) (by first | (intro _; rfl) | (intro h; cases h))) (by decide) (by decide)).mono ?_
          rintro e w1 ⟨rfl, rfl⟩
          go_wp2_with fail
          go_ret
          rw [HF.out]
          exact ⟨rfl, (Q.refl w).drewN _⟩
        | some ad2 =>
          rw [he] at HEQ
          rw [he2] at HEQ
          have HF := Lib.hid (HEQ.out (by omega))
          have hcc := HC.out 0 0
          rw [Dm.cmpZ_eq (by omega)] at hcc
          have HCC := Lib.hid hcc
          clear hcc
          go_enter Tryz.func51, Tryz.ntmps51
          go_wp2_with fail
          go_quiet (first | (go_at_call_of 69 (Value.slice none c c); exact Calls.quiet_of_same ((HZ.out _ (HV.out _)).mono fun _ _ h => ⟨h.1, h.2.symm⟩)) | (go_at_call_of 69 (Value.slice (some ad2) d d); exact Calls.quiet_of_same ((HZ2.out _ (HU.out _)).mono fun _ _ h => ⟨h.1, h.2.symm⟩)))
          go_wp2_with fail
          refine (HCC.out _).mono ?_
          rintro e w1 ⟨rfl, rfl⟩
          go_wp2_with fail
          refine (HS.out _ _ [] [] _ (.nil _ _ _ (by unfold maxLen; omega) (by first | (intro _; rfl) | (intro h; cases h))) (.nil _ _ _ (by unfold maxLen; omega) (by first | (intro _; rfl) | (intro h; cases h))) (by decide) (by decide)).mono ?_
          rintro e w1 ⟨rfl, rfl⟩
          go_wp2_with fail
          go_ret
          rw [HF.out]
          exact ⟨rfl, (Q.refl w).drewN _⟩
      · have hb2 : ¬ (d - y = 0) := by omega
        have ha2 : ¬ (d = y) := by omega
        rw [he] at HEQ
        rw [he2] at HEQ
        have HF := Lib.hid (HEQ.out (by omega))
        have hcc := HC.out 0 0
        rw [Dm.cmpZ_eq (by omega)] at hcc
        have HCC := Lib.hid hcc
        clear hcc
        go_enter Tryz.func51, Tryz.ntmps51
        go_wp2_with fail
        go_quiet (first | (go_at_call_of 69 (Value.slice none c c); exact Calls.quiet_of_same ((HZ.out _ (HV.out _)).mono fun _ _ h => ⟨h.1, h.2.symm⟩)) | (go_at_call_of 69 (Value.slice (some ad2) y d); exact Calls.quiet_of_same ((HZ2.out _ (HU.out _)).mono fun _ _ h => ⟨h.1, h.2.symm⟩)))
        go_wp2_with fail
        refine (HCC.out _).mono ?_
        rintro e w1 ⟨rfl, rfl⟩
        go_wp2_with fail
        refine (HS.out _ _ [] [] _ (.nil _ _ _ (by unfold maxLen; omega) (by first | (intro _; rfl) | (intro h; cases h))) (.nil _ _ _ (by unfold maxLen; omega) (by first | (intro _; rfl) | (intro h; cases h))) (by decide) (by decide)).mono ?_
        rintro e w1 ⟨rfl, rfl⟩
        go_wp2_with fail
        go_ret
        rw [HF.out]
        exact ⟨rfl, (Q.refl w).drewN _⟩
    | some ad =>
      rcases h2 with ⟨g2, off2, rfl, hlt2, hp2, hq2, hr2⟩ | ⟨rfl, rfl, he2⟩ | ⟨ad2, rfl, rfl, hlt2, hq2, he2⟩
      · have ha2 : ¬ (d = y) := by omega
        have hb2 : ¬ (d - y = 0) := by omega
        have hc2 : (y : Int) ≤ (m : Int) := by omega
        have HR2 := Lib.hid hr2
        clear hr2
        rw [he] at HEQ
        have HF := Lib.hid (HLT.out (by omega))
        have hcc := HC.out 0 ((m - y : Nat) : Int)
        rw [Dm.cmpZ_lt (by omega)] at hcc
        have HCC := Lib.hid hcc
        clear hcc
        go_enter Tryz.func51, Tryz.ntmps51
        go_wp2_with fail
        go_quiet (first | (go_at_call_of 69 (Value.slice (some ad) c c); exact Calls.quiet_of_same ((HZ.out _ (HV.out _)).mono fun _ _ h => ⟨h.1, h.2.symm⟩)) | (go_at_call_of 69 (Value.slice (some ⟨g2, off2, none⟩) m d); exact Calls.quiet_of_same ((HZ2.out _ (HU.out _)).mono fun _ _ h => ⟨h.1, h.2.symm⟩)))
        go_wp2_with fail
        refine (HCC.out _).mono ?_
        rintro e w1 ⟨rfl, rfl⟩
        go_wp2_with fail
        go_ret
        rw [HF.out]
        exact ⟨rfl, (Q.refl w).drewN _⟩
      · cases b with
        | none =>
          rw [he] at HEQ
          rw [he2] at HEQ
          have HF := Lib.hid (HEQ.out (by omega))
          have hcc := HC.out 0 0
          rw [Dm.cmpZ_eq (by omega)] at hcc
          have HCC := Lib.hid hcc
          clear hcc
          go_enter Tryz.func51, Tryz.ntmps51
          go_wp2_with fail
          go_quiet (first | (go_at_call_of 69 (Value.slice (some ad) c c); exact Calls.quiet_of_same ((HZ.out _ (HV.out _)).mono fun _ _ h => ⟨h.1, h.2.symm⟩)) | (go_at_call_of 69 (Value.slice none d d); exact Calls.quiet_of_same ((HZ2.out _ (HU.out _)).mono fun _ _ h => ⟨h.1, h.2.symm⟩)))
          go_wp2_with fail
          refine (HCC.out _).mono ?_
          rintro e w1 ⟨rfl, rfl⟩
          go_wp2_with fail
          refine (HS.out _ _ [] [] _ (.nil _ _ _ (by unfold maxLen; omega) (by first | (intro _; rfl) | (intro h; cases h))) (.nil _ _ _ (by unfold maxLen; omega) (by first | (intro _; rfl) | (intro h; cases h))) (by decide) (by decide)).mono ?_
          rintro e w1 ⟨rfl, rfl⟩
          go_wp2_with fail
          go_ret
          rw [HF.out]
          exact ⟨rfl, (Q.refl w).drewN _⟩
        | some ad2 =>
          rw [he] at HEQ
          rw [he2] at HEQ
          have HF := Lib.hid (HEQ.out (by omega))
          have hcc := HC.out 0 0
          rw [Dm.cmpZ_eq (by omega)] at hcc
          have HCC := Lib.hid hcc
          clear hcc
          go_enter Tryz.func51, Tryz.ntmps51
          go_wp2_with fail
          go_quiet (first | (go_at_call_of 69 (Value.slice (some ad) c c); exact Calls.quiet_of_same ((HZ.out _ (HV.out _)).mono fun _ _ h => ⟨h.1, h.2.symm⟩)) | (go_at_call_of 69 (Value.slice (some ad2) d d); exact Calls.quiet_of_same ((HZ2.out _ (HU.out _)).mono fun _ _ h => ⟨h.1, h.2.symm⟩)))
          go_wp2_with fail
          refine (HCC.out _).mono ?_
          rintro e w1 ⟨rfl, rfl⟩
          go_wp2_with fail
          refine (HS.out _ _ [] [] _ (.nil _ _ _ (by unfold maxLen; omega) (by first | (intro _; rfl) | (intro h; cases h))) (.nil _ _ _ (by unfold maxLen; omega) (by first | (intro _; rfl) | (intro h; cases h))) (by decide) (by decide)).mono ?_
          rintro e w1 ⟨rfl, rfl⟩
          go_wp2_with fail
          go_ret
          rw [HF.out]
          exact ⟨rfl, (Q.refl w).drewN _⟩
      · have hb2 : ¬ (d - y = 0) := by omega
        have ha2 : ¬ (d = y) := by omega
        rw [he] at HEQ
        rw [he2] at HEQ
        have HF := Lib.hid (HEQ.out (by omega))
        have hcc := HC.out 0 0
        rw [Dm.cmpZ_eq (by omega)] at hcc
        have HCC := Lib.hid hcc
        clear hcc
        go_enter Tryz.func51, Tryz.ntmps51
        go_wp2_with fail
        go_quiet (first | (go_at_call_of 69 (Value.slice (some ad) c c); exact Calls.quiet_of_same ((HZ.out _ (HV.out _)).mono fun _ _ h => ⟨h.1, h.2.symm⟩)) | (go_at_call_of 69 (Value.slice (some ad2) y d); exact Calls.quiet_of_same ((HZ2.out _ (HU.out _)).mono fun _ _ h => ⟨h.1, h.2.symm⟩)))
        go_wp2_with fail
        refine (HCC.out _).mono ?_
        rintro e w1 ⟨rfl, rfl⟩
        go_wp2_with fail
        refine (HS.out _ _ [] [] _ (.nil _ _ _ (by unfold maxLen; omega) (by first | (intro _; rfl) | (intro h; cases h))) (.nil _ _ _ (by unfold maxLen; omega) (by first | (intro _; rfl) | (intro h; cases h))) (by decide) (by decide)).mono ?_
        rintro e w1 ⟨rfl, rfl⟩
        go_wp2_with fail
        go_ret
        rw [HF.out]
        exact ⟨rfl, (Q.refl w).drewN _⟩
  · rcases h2 with ⟨g2, off2, rfl, hlt2, hp2, hq2, hr2⟩ | ⟨rfl, rfl, he2⟩ | ⟨ad2, rfl, rfl, hlt2, hq2, he2⟩
    · have hb1 : ¬ (c - z = 0) := by omega
      have ha1 : ¬ (c = z) := by omega
      have ha2 : ¬ (d = y) := by omega
      have hb2 : ¬ (d - y = 0) := by omega
      have hc2 : (y : Int) ≤ (m : Int) := by omega
      have HR2 := Lib.hid hr2
      clear hr2
      rw [he] at HEQ
      have HF := Lib.hid (HLT.out (by omega))
      have hcc := HC.out 0 ((m - y : Nat) : Int)
      rw [Dm.cmpZ_lt (by omega)] at hcc
      have HCC := Lib.hid hcc
      clear hcc
      go_enter Tryz.func51, Tryz.ntmps51
      go_wp2_with fail
      go_quiet (first | (go_at_call_of 69 (Value.slice (some ad) z c); exact Calls.quiet_of_same ((HZ.out _ (HV.out _)).mono fun _ _ h => ⟨h.1, h.2.symm⟩)) | (go_at_call_of 69 (Value.slice (some ⟨g2, off2, none⟩) m d); exact Calls.quiet_of_same ((HZ2.out _ (HU.out _)).mono fun _ _ h => ⟨h.1, h.2.symm⟩)))
      go_wp2_with fail
      refine (HCC.out _).mono ?_
      rintro e w1 ⟨rfl, rfl⟩
      go_wp2_with fail
      go_ret
      rw [HF.out]
      exact ⟨rfl, (Q.refl w).drewN _⟩
    · cases b with
      | none =>
        have hb1 : ¬ (c - z = 0) := by omega
        have ha1 : ¬ (c = z) := by omega
        rw [he] at HEQ
        rw [he2] at HEQ
        have HF := Lib.hid (HEQ.out (by omega))
        have hcc := HC.out 0 0
        rw [Dm.cmpZ_eq (by omega)] at hcc
        have HCC := Lib.hid hcc
        clear hcc
        go_enter Tryz.func51, Tryz.ntmps51
        go_wp2_with fail
        go_quiet (first | (go_at_call_of 69 (Value.slice (some ad) z c); exact Calls.quiet_of_same ((HZ.out _ (HV.out _)).mono fun _ _ h => ⟨h.1, h.2.symm⟩)) | (go_at_call_of 69 (Value.slice none d d); exact Calls.quiet_of_same ((HZ2.out _ (HU.out _)).mono fun _ _ h => ⟨h.1, h.2.symm⟩)))
        go_wp2_with fail
        refine (HCC.out _).mono ?_
        rintro e w1 ⟨rfl, rfl⟩
        go_wp2_with fail
        refine (HS.out _ _ [] [] _ (.nil _ _ _ (by unfold maxLen; omega) (by first | (intro _; rfl) | (intro h; cases h))) (.nil _ _ _ (by unfold maxLen; omega) (by first | (intro _; rfl) | (intro h; cases h))) (by decide) (by decide)).mono ?_
        rintro e w1 ⟨rfl, rfl⟩
        go_wp2_with fail
        go_ret
        rw [HF.out]
        exact ⟨rfl, (Q.refl w).drewN _⟩
      | some ad2 =>
        have hb1 : ¬ (c - z = 0) := by omega
        have ha1 : ¬ (c = z) := by omega
        rw [he] at HEQ
        rw [he2] at HEQ
        have HF := Lib.hid (HEQ.out (by omega))
        have hcc := HC.out 0 0
        rw [Dm.cmpZ_eq (by omega)] at hcc
        have HCC := Lib.hid hcc
        clear hcc
        go_enter Tryz.func51, Tryz.ntmps51
        go_wp2_with fail
        go_quiet (first | (go_at_call_of 69 (Value.slice (some ad) z c); exact Calls.quiet_of_same ((HZ.out _ (HV.out _)).mono fun _ _ h => ⟨h.1, h.2.symm⟩)) | (go_at_call_of 69 (Value.slice (some ad2) d d); exact Calls.quiet_of_same ((HZ2.out _ (HU.out _)).mono fun _ _ h => ⟨h.1, h.2.symm⟩)))
        go_wp2_with fail
        refine (HCC.out _).mono ?_
        rintro e w1 ⟨rfl, rfl⟩
        go_wp2_with fail
        refine (HS.out _ _ [] [] _ (.nil _ _ _ (by unfold maxLen; omega) (by first | (intro _; rfl) | (intro h; cases h))) (.nil _ _ _ (by unfold maxLen; omega) (by first | (intro _; rfl) | (intro h; cases h))) (by decide) (by decide)).mono ?_
        rintro e w1 ⟨rfl, rfl⟩
        go_wp2_with fail
        go_ret
        rw [HF.out]
        exact ⟨rfl, (Q.refl w).drewN _⟩
    · have hb1 : ¬ (c - z = 0) := by omega
      have ha1 : ¬ (c = z) := by omega
      have hb2 : ¬ (d - y = 0) := by omega
      have ha2 : ¬ (d = y) := by omega
      rw [he] at HEQ
      rw [he2] at HEQ
      have HF := Lib.hid (HEQ.out (by omega))
      have hcc := HC.out 0 0
      rw [Dm.cmpZ_eq (by omega)] at hcc
      have HCC := Lib.hid hcc
      clear hcc
      go_enter Tryz.func51, Tryz.ntmps51
      go_wp2_with fail
      go_quiet (first | (go_at_call_of 69 (Value.slice (some ad) z c); exact Calls.quiet_of_same ((HZ.out _ (HV.out _)).mono fun _ _ h => ⟨h.1, h.2.symm⟩)) | (go_at_call_of 69 (Value.slice (some ad2) y d); exact Calls.quiet_of_same ((HZ2.out _ (HU.out _)).mono fun _ _ h => ⟨h.1, h.2.symm⟩)))
      go_wp2_with fail
      refine (HCC.out _).mono ?_
      rintro e w1 ⟨rfl, rfl⟩
      go_wp2_with fail
      refine (HS.out _ _ [] [] _ (.nil _ _ _ (by unfold maxLen; omega) (by first | (intro _; rfl) | (intro h; cases h))) (.nil _ _ _ (by unfold maxLen; omega) (by first | (intro _; rfl) | (intro h; cases h))) (by decide) (by decide)).mono ?_
      rintro e w1 ⟨rfl, rfl⟩
      go_wp2_with fail
      go_ret
      rw [HF.out]
      exact ⟨rfl, (Q.refl w).drewN _⟩
end Dw
end Go.Proofs.YtagpofhencpliaaGreatDoor
