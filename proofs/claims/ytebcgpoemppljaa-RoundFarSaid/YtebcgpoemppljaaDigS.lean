/- What the document's own Compare, Add, Less and Times of digits come to, by a walk through each. -/
import Derived.Test.YtebcgpoemppljaaRows
import Derived.Test.YtebcgpoemppljaaDigL
import Derived.Test.YtebcgpoemppljaaInts
import Derived.Test.YtebcgpoemppljaaSto
import Derived.Test.YtebcgpoemppljaaDigR
import Derived.Deep.QuietTactic
import Derived.Deep.RegionWith
import Derived.BigQuiet
set_option linter.unusedVariables false
set_option linter.unusedSimpArgs false
namespace Go.Proofs.Ytebcgpoemppljaa
open Go.RowKit
namespace Dr

set_option maxHeartbeats 1600000 in
theorem compare_any (va vb : Value) (xs ys : List Int) (w : World) (hv : Lst w va xs) (hu : Lst w vb ys) (hl : xs.length < 1000000) (hl2 : ys.length < 1000000) (hx : Dm.okD xs) (hy : Dm.okD ys) :
    Calls Try.prog 41 #[va, vb] w fun e w' => e = .returned (.int .i64 (Dm.cmpZ (Dm.num xs) (Dm.num ys))) ∧ Q w w' := by
  have H1 := Lib.hid (trim_any va xs w hv (by omega))
  have H2 := Lib.hid (fun w' (q : Q w w') => trim_any vb ys w' (hu.q q) (by omega))
  have HLT := Lib.hid (Dm.cmp_len_lt xs ys hx hy)
  have HGT := Lib.hid (Dm.cmp_len_gt xs ys hx hy)
  have HEQ := Lib.hid (Dm.cmp_len_eq xs ys hx hy)
  have hp : (Dm.trimL xs).length < 1000000 := by rw [Dm.trim_len]; omega
  have hq : (Dm.trimL ys).length < 1000000 := by rw [Dm.trim_len]; omega
  generalize Dm.cmpZ (Dm.num xs) (Dm.num ys) = r at *
  generalize Dm.trimL xs = X at *
  generalize Dm.trimL ys = Y at *
  have L1 := Lib.hid (Dm.lexC_lt X Y)
  have L2 := Lib.hid (Dm.lexC_gt X Y)
  have L3 := Lib.hid (Dm.lexC_on X Y)
  have L6 := Lib.hid (Dm.lexC_end X Y)
  obtain ⟨p, hpe⟩ : ∃ p, p = X.length := ⟨_, rfl⟩
  obtain ⟨q, hqe⟩ : ∃ q, q = Y.length := ⟨_, rfl⟩
  rw [← hpe] at hp HLT HGT HEQ L1 L2 L3 L6
  rw [← hqe] at hq HLT HGT HEQ L1 L2 L3 L6
  have HPE := Lib.hid hpe
  have HQE := Lib.hid hqe
  clear hv hu hx hy hpe hqe
  go_enter Try.func41, Try.ntmps41
  go_wp2_with fail
  refine H1.out.mono ?_
  rintro e w1 ⟨u1, rfl, ho1, hq1⟩
  obtain ⟨a, c, rfl, hac, _⟩ := ho1.lst.form0 HPE.out.symm
  have HO1 := Lib.hid ho1.lst
  have H2' := Lib.hid (H2.out w1 hq1)
  clear ho1
  go_wp2_with fail
  refine H2'.out.mono ?_
  rintro e w2 ⟨u2, rfl, ho2, hq2⟩
  obtain ⟨b, d, rfl, hbd, _⟩ := ho2.lst.form0 HQE.out.symm
  have HX := Lib.hid (fun k (hk : k < p) => (HO1.out.q hq2).cellOf (n := p) (k := k) HPE.out.symm hk)
  have HY := Lib.hid (fun k (hk : k < q) => ho2.lst.cellOf (n := q) (k := k) HQE.out.symm hk)
  have HQ2 := Lib.hid (hq1.trans hq2)
  clear ho2 hq1 hq2
  rcases Nat.lt_trichotomy p q with h | h | h
  · have HF := Lib.hid (HLT.out h)
    go_wp2_with fail
    go_ret
    rw [HF.out]
    exact ⟨rfl, HQ2.out⟩
  · have HF := Lib.hid (HEQ.out h)
    subst h
    go_wp2_with fail
    go_loopw [7] (fun i wr => ∃ k : Nat, i = .int .i64 k ∧ k ≤ p ∧ Dm.lexC (X.drop k) (Y.drop k) = r ∧ Q w2 wr) (fun i _ => p - (intOf i).toNat)
    case atStart => exact ⟨0, rfl, by omega, HF.out.symm, Q.refl _⟩
    case round =>
      obtain ⟨k, rfl, hk, hc, hq3⟩ := hrel
      have HI := Lib.hid hc
      clear hc
      by_cases hlt : k < p
      · obtain ⟨g, off, cap, hvv, hg, _, _, c1'⟩ := HX.out k hlt
        cases hvv
        obtain ⟨g2, off2, cap2, hvv2, hg2, _, _, c2'⟩ := HY.out k hlt
        cases hvv2
        have c1 := (World.cell?_of_block (w := w2) (hq3.block hg) (a := ⟨g, off + k, none⟩)).trans c1'
        have c2 := (World.cell?_of_block (w := w2) (hq3.block hg2) (a := ⟨g2, off2 + k, none⟩)).trans c2'
        have h1 := L1.out k hlt hlt
        have h2 := L2.out k hlt hlt
        have h3 := L3.out k hlt hlt
        generalize X.getD k 0 = y at *
        generalize Y.getD k 0 = z at *
        have hki : (k : Int) < (p : Int) := by omega
        have HQ3 := Lib.hid (HQ2.out.trans hq3)
        have HQ4 := Lib.hid hq3
        clear c1' c2' hq3
        rcases Int.lt_trichotomy y z with h | h | h
        · have HR := Lib.hid ((h1 h).symm.trans HI.out)
          clear h1 h2 h3
          go_wp2_with fail
          go_quiet (fail)
          go_wp2_with fail
          go_ret
          rw [← HR.out]
          exact ⟨rfl, HQ3.out.drewN _⟩
        · have HR := Lib.hid ((h3 h).symm.trans HI.out)
          subst h
          clear h1 h2 h3
          go_wp2_with fail
          go_quiet (fail)
          go_wp2_with fail
          go_quiet (fail)
          go_wp2_with fail
          exact ⟨⟨k + 1, by go_num, by omega, HR.out, HQ4.out.drewN _⟩, by simp [intOf]; omega⟩
        · have HR := Lib.hid ((h2 h).symm.trans HI.out)
          have hn : ¬ y < z := by omega
          clear h1 h2 h3
          go_wp2_with fail
          go_quiet (fail)
          go_wp2_with fail
          go_quiet (fail)
          go_wp2_with fail
          go_ret
          rw [← HR.out]
          first
            | exact ⟨rfl, HQ3.out.drewN _⟩
            | exact ⟨rfl, (HQ3.out.drewN _).drewN _⟩
      · have HR := Lib.hid ((L6.out k (by omega) (by omega)).symm.trans HI.out)
        have HQ3 := Lib.hid (HQ2.out.trans hq3)
        clear hq3
        go_wp2_with fail
        go_ret
        rw [← HR.out]
        exact ⟨rfl, HQ3.out⟩
  · have HF := Lib.hid (HGT.out h)
    have hn : ¬ p < q := by omega
    go_wp2_with fail
    go_ret
    rw [HF.out]
    exact ⟨rfl, HQ2.out⟩

set_option maxHeartbeats 1600000 in
theorem add_any (va vb : Value) (xs ys : List Int) (w : World) (hv : Lst w va xs) (hu : Lst w vb ys) (hl : xs.length < 1000000) (hl2 : ys.length < 1000000) (hx : Dm.okD xs) (hy : Dm.okD ys) :
    Calls Try.prog 43 #[va, vb] w fun e w' => ∃ u, e = .returned u ∧ Own w' w.heap.size u (Dm.dg (Dm.num xs + Dm.num ys)) ∧ Q w w' := by
  have HA := Lib.hid (fun k w' (q : Q w w') (hk : k < 1000000) => digit_any va xs k w' (hv.q q) (by omega) (by omega))
  have HB := Lib.hid (fun k w' (q : Q w w') (hk : k < 1000000) => digit_any vb ys k w' (hu.q q) (by omega) (by omega))
  have HBX := Lib.hid (Dm.dgt_bd xs hx)
  have HBY := Lib.hid (Dm.dgt_bd ys hy)
  have HSX := Lib.hid (Dm.last_step xs)
  have HSY := Lib.hid (Dm.last_step ys)
  have HZX := Lib.hid (Dm.last_zero xs)
  have HZY := Lib.hid (Dm.last_zero ys)
  have HLX := Lib.hid (Dm.last_all xs)
  have HLY := Lib.hid (Dm.last_all ys)
  have HF := Lib.hid front_any
  have HT := Lib.hid trim_any
  obtain ⟨n, hn⟩ : ∃ n, n = xs.length := ⟨_, rfl⟩
  obtain ⟨m, hm⟩ : ∃ m, m = ys.length := ⟨_, rfl⟩
  obtain ⟨a, c, rfl, hnc, hcm⟩ := hv.form0 hn.symm
  obtain ⟨b, d, rfl, hmd, hdm⟩ := hu.form0 hm.symm
  rw [← hn] at hl HLX
  rw [← hm] at hl2 HLY
  unfold maxLen at hcm hdm
  clear hv hu hn hm hx hy
  go_enter Try.func43, Try.ntmps43
  go_wp2_with fail
  go_loopw [5, 6, 7] (fun u t i wr => ∃ (k v : Nat) (acc : List Int), i = .int .i64 k ∧ t = .int .i64 v ∧ v ≤ 1 ∧ (k ≤ n ∨ k ≤ m) ∧ acc.length = k ∧ Dm.okD acc ∧ Lst wr u acc ∧ Dm.num acc + v * 10 ^ k = Dm.num (Dm.lastN k xs) + Dm.num (Dm.lastN k ys) ∧ Q w wr) (fun _ _ i _ => n + m - (intOf i).toNat)
  case atStart => exact ⟨0, 0, [], rfl, rfl, by omega, by omega, rfl, Dm.okD_nil, .nil _ _ _ (by unfold maxLen; omega) (fun _ => rfl), by rw [HZX.out, HZY.out]; rfl, Q.refl _⟩
  case round =>
    obtain ⟨k, v, acc, rfl, rfl, hv1, hk, hal, hok, hla, hsum, hq⟩ := hrel
    have HAL := Lib.hid hal
    have HOK := Lib.hid hok
    have HLA := Lib.hid hla
    have HSUM := Lib.hid hsum
    have HQ := Lib.hid hq
    clear hal hok hla hsum hq
    by_cases hlt : k < n ∨ k < m
    · have ha := HA.out k wr HQ.out (by omega)
      have hb := HB.out k wr HQ.out (by omega)
      have hbx := HBX.out k
      have hby := HBY.out k
      have hsx := HSX.out k
      have hsy := HSY.out k
      generalize Dm.dgt xs k = x at *
      generalize Dm.dgt ys k = y at *
      obtain ⟨p, rfl⟩ : ∃ p : Nat, x = p := ⟨x.toNat, by omega⟩
      obtain ⟨q, rfl⟩ : ∃ q : Nat, y = q := ⟨y.toNat, by omega⟩
      have GA := Lib.hid ha
      have GB := Lib.hid hb
      obtain ⟨s, hs⟩ : ∃ s : Nat, s = p + q + v := ⟨_, rfl⟩
      have hsI : (p : Int) + (q : Int) + (v : Int) = (s : Int) := by omega
      have hst := Dm.add_step (Dm.num (Dm.lastN k xs)) (Dm.num (Dm.lastN k ys)) (10 ^ k) (Dm.num acc) p q v HSUM.out
      rw [← hs] at hst
      rw [Int.toNat_natCast] at hsx hsy
      rw [← hsx, ← hsy] at hst
      have hs19 : s ≤ 19 := by omega
      have HST := Lib.hid (show Dm.num (((s : Int) % 10) :: acc) + s / 10 * 10 ^ (k + 1) = Dm.num (Dm.lastN (k + 1) xs) + Dm.num (Dm.lastN (k + 1) ys) from by
        rw [Dm.num_cons, HAL.out, show ((s : Int) % 10).toNat = s % 10 from by omega, Nat.pow_succ]; exact hst)
      have HOK2 := Lib.hid (show Dm.okD (((s : Int) % 10) :: acc) from Dm.okD_cons.2 ⟨by omega, HOK.out⟩)
      have HAL2 := Lib.hid (show (((s : Int) % 10) :: acc).length = k + 1 from by rw [List.length_cons, HAL.out])
      have HFF := Lib.hid (fun d u h => HF.out d u acc wr h (by rw [HAL.out]; omega))
      have hpq : 0 ≤ (p : Int) + (q : Int) := by omega
      have hpq2 : (p : Int) + (q : Int) ≤ 18 := by omega
      clear ha hb hbx hby hsx hsy hst hs
      rcases (show (k < n) ∨ (¬ k < n ∧ k < m) from by omega) with h1 | ⟨h1, h2⟩
      all_goals
        clear hlt
        go_wp2_with fail
        refine GA.out.mono ?_
        rintro e w3 ⟨rfl, rfl⟩
        go_wp2_with fail
        refine GB.out.mono ?_
        rintro e w3 ⟨rfl, rfl⟩
        go_wp2_with fail
        refine (HFF.out _ _ HLA.out).mono ?_
        rintro e w3 ⟨u3, rfl, ho3, hq3⟩
        have HO3 := Lib.hid ho3.lst
        have HQ3 := Lib.hid (HQ.out.trans hq3)
        clear ho3 hq3
        go_wp2_with fail
        exact ⟨⟨k + 1, s / 10, _, by go_num, by go_num, by omega, by omega, HAL2.out, HOK2.out, HO3.out, HST.out, HQ3.out⟩, by simp [intOf]; omega⟩
    · have hsum := HSUM.out
      rw [HLX.out k (by omega), HLY.out k (by omega)] at hsum
      have HFF := Lib.hid (fun d u h => HF.out d u acc wr h (by rw [HAL.out]; omega))
      have hok2 : Dm.okD ((v : Int) :: acc) := Dm.okD_cons.2 ⟨by omega, HOK.out⟩
      have htn := Dm.trim_num (l := (v : Int) :: acc) (n := Dm.num xs + Dm.num ys) hok2 (by rw [Dm.num_cons, HAL.out, Int.toNat_natCast]; omega)
      have HTN := Lib.hid htn
      have hll : ((v : Int) :: acc).length < 1099511627776 := by rw [List.length_cons, HAL.out]; omega
      have HLL := Lib.hid hll
      have h1 : ¬ k < n := by omega
      have h2 : ¬ k < m := by omega
      clear hsum hok2 htn hll hlt hk
      go_wp2_with fail
      refine (HFF.out _ _ HLA.out).mono ?_
      rintro e w3 ⟨u3, rfl, ho3, hq3⟩
      have HT3 := Lib.hid (HT.out u3 _ w3 ho3.lst HLL.out)
      have HQ3 := Lib.hid (HQ.out.trans hq3)
      clear ho3 hq3
      go_wp2_with fail
      refine HT3.out.mono ?_
      rintro e w4 ⟨u4, rfl, ho4, hq4⟩
      rw [HTN.out] at ho4
      have HO4 := Lib.hid (ho4.mono HQ3.out.le)
      have HQ4 := Lib.hid (HQ3.out.trans hq4)
      clear ho4 hq4
      go_wp2_with fail
      go_ret
      exact ⟨_, rfl, HO4.out, HQ4.out⟩
set_option maxHeartbeats 1600000 in
theorem less_any (va vb : Value) (xs ys : List Int) (w : World) (hv : Lst w va xs) (hu : Lst w vb ys) (hl : xs.length < 1000000) (hl2 : ys.length < 1000000) (hx : Dm.okD xs) (hy : Dm.okD ys) (hge : Dm.num ys ≤ Dm.num xs) :
    Calls Try.prog 44 #[va, vb] w fun e w' => ∃ u, e = .returned u ∧ Own w' w.heap.size u (Dm.dg (Dm.num xs - Dm.num ys)) ∧ Q w w' := by
  have HA := Lib.hid (fun k w' (q : Q w w') (hk : k < 1000000) => digit_any va xs k w' (hv.q q) (by omega) (by omega))
  have HB := Lib.hid (fun k w' (q : Q w w') (hk : k < 1000000) => digit_any vb ys k w' (hu.q q) (by omega) (by omega))
  have HBX := Lib.hid (Dm.dgt_bd xs hx)
  have HBY := Lib.hid (Dm.dgt_bd ys hy)
  have HSX := Lib.hid (Dm.last_step xs)
  have HSY := Lib.hid (Dm.last_step ys)
  have HZX := Lib.hid (Dm.last_zero xs)
  have HZY := Lib.hid (Dm.last_zero ys)
  have HLX := Lib.hid (Dm.last_all xs)
  have HLY := Lib.hid (Dm.last_all ys)
  have HGE := Lib.hid hge
  have HF := Lib.hid front_any
  have HT := Lib.hid trim_any
  obtain ⟨n, hn⟩ : ∃ n, n = xs.length := ⟨_, rfl⟩
  obtain ⟨m, hm⟩ : ∃ m, m = ys.length := ⟨_, rfl⟩
  obtain ⟨a, c, rfl, hnc, hcm⟩ := hv.form0 hn.symm
  obtain ⟨b, d, rfl, hmd, hdm⟩ := hu.form0 hm.symm
  rw [← hn] at hl HLX
  rw [← hm] at hl2 HLY
  unfold maxLen at hcm hdm
  clear hv hu hn hm hx hy hge
  go_enter Try.func44, Try.ntmps44
  go_wp2_with fail
  go_loopw [5, 6, 7] (fun u t i wr => ∃ (k v : Nat) (acc : List Int), i = .int .i64 k ∧ t = .int .i64 v ∧ v ≤ 1 ∧ (k ≤ n ∨ k ≤ m) ∧ acc.length = k ∧ Dm.okD acc ∧ Lst wr u acc ∧ Dm.num acc + Dm.num (Dm.lastN k ys) = Dm.num (Dm.lastN k xs) + v * 10 ^ k ∧ Q w wr) (fun _ _ i _ => n + m - (intOf i).toNat)
  case atStart => exact ⟨0, 0, [], rfl, rfl, by omega, by omega, rfl, Dm.okD_nil, .nil _ _ _ (by unfold maxLen; omega) (fun _ => rfl), by rw [HZX.out, HZY.out]; rfl, Q.refl _⟩
  case round =>
    obtain ⟨k, v, acc, rfl, rfl, hv1, hk, hal, hok, hla, hsum, hq⟩ := hrel
    have HAL := Lib.hid hal
    have HOK := Lib.hid hok
    have HLA := Lib.hid hla
    have HSUM := Lib.hid hsum
    have HQ := Lib.hid hq
    clear hal hok hla hsum hq
    by_cases hlt : k < n ∨ k < m
    · have ha := HA.out k wr HQ.out (by omega)
      have hb := HB.out k wr HQ.out (by omega)
      have hbx := HBX.out k
      have hby := HBY.out k
      have hsx := HSX.out k
      have hsy := HSY.out k
      generalize Dm.dgt xs k = x at *
      generalize Dm.dgt ys k = y at *
      obtain ⟨p, rfl⟩ : ∃ p : Nat, x = p := ⟨x.toNat, by omega⟩
      obtain ⟨q, rfl⟩ : ∃ q : Nat, y = q := ⟨y.toNat, by omega⟩
      have GA := Lib.hid ha
      have GB := Lib.hid hb
      have hI1 : -10 ≤ (p : Int) - (q : Int) := by omega
      have hI2 : (p : Int) - (q : Int) ≤ 9 := by omega
      have hI3 : (p : Int) - (q : Int) - (v : Int) ≤ 9 := by omega
      have hI4 : -10 ≤ (p : Int) - (q : Int) - (v : Int) := by omega
      have HFF := Lib.hid (fun d u h => HF.out d u acc wr h (by rw [HAL.out]; omega))
      rw [Int.toNat_natCast] at hsx hsy
      have HSX2 := Lib.hid hsx
      have HSY2 := Lib.hid hsy
      have key : ∀ r z : Nat, r + q + v = p + z * 10 → r ≤ 9 → Dm.num (((r : Int)) :: acc) + Dm.num (Dm.lastN (k + 1) ys) = Dm.num (Dm.lastN (k + 1) xs) + z * 10 ^ (k + 1) := by
        intro r z hr hr9
        have hst := Dm.sub_step (Dm.num (Dm.lastN k xs)) (Dm.num (Dm.lastN k ys)) (10 ^ k) (Dm.num acc) p q v r z HSUM.out hr
        rw [Dm.num_cons, HAL.out, Int.toNat_natCast, Nat.pow_succ, HSX2.out, HSY2.out]
        exact hst
      have HOK2 := Lib.hid (fun (r : Nat) (hr : r ≤ 9) => (Dm.okD_cons.2 ⟨by omega, HOK.out⟩ : Dm.okD ((r : Int) :: acc)))
      have HAL2 := Lib.hid (fun (r : Int) => (by rw [List.length_cons, HAL.out] : (r :: acc).length = k + 1))
      have KEY := Lib.hid key
      clear ha hb hsx hsy key
      rcases (show (k < n) ∨ (¬ k < n ∧ k < m) from by omega) with h1 | ⟨h1, h2⟩
      all_goals
        rcases (show (∃ r : Nat, (p : Int) - (q : Int) - (v : Int) = (r : Int) ∧ r ≤ 9) ∨ (∃ r : Nat, (p : Int) - (q : Int) - (v : Int) < 0 ∧ (p : Int) - (q : Int) - (v : Int) + 10 = (r : Int) ∧ r ≤ 9) from by
          by_cases h : (p : Int) - (q : Int) - (v : Int) < 0
          · exact .inr ⟨((p : Int) - (q : Int) - (v : Int) + 10).toNat, h, by omega, by omega⟩
          · exact .inl ⟨((p : Int) - (q : Int) - (v : Int)).toNat, by omega, by omega⟩) with ⟨r, hr, hr9⟩ | ⟨r, hr0, hr, hr9⟩
        · have HST := Lib.hid (KEY.out r 0 (by omega) hr9)
          have HOK3 := Lib.hid (HOK2.out r hr9)
          clear hlt hbx hby
          go_wp2_with fail
          refine GA.out.mono ?_
          rintro e w3 ⟨rfl, rfl⟩
          go_wp2_with fail
          refine GB.out.mono ?_
          rintro e w3 ⟨rfl, rfl⟩
          go_wp2_with fail
          refine (HFF.out _ _ HLA.out).mono ?_
          rintro e w3 ⟨u3, rfl, ho3, hq3⟩
          have HO3 := Lib.hid ho3.lst
          have HQ3 := Lib.hid (HQ.out.trans hq3)
          clear ho3 hq3
          go_wp2_with fail
          exact ⟨⟨k + 1, 0, _, by go_num, by go_num, by omega, by omega, HAL2.out _, HOK3.out, HO3.out, HST.out, HQ3.out⟩, by simp [intOf]; omega⟩
        · have HST := Lib.hid (KEY.out r 1 (by omega) hr9)
          have HOK3 := Lib.hid (HOK2.out r hr9)
          clear hlt hbx hby
          go_wp2_with fail
          refine GA.out.mono ?_
          rintro e w3 ⟨rfl, rfl⟩
          go_wp2_with fail
          refine GB.out.mono ?_
          rintro e w3 ⟨rfl, rfl⟩
          go_wp2_with fail
          refine (HFF.out _ _ HLA.out).mono ?_
          rintro e w3 ⟨u3, rfl, ho3, hq3⟩
          have HO3 := Lib.hid ho3.lst
          have HQ3 := Lib.hid (HQ.out.trans hq3)
          clear ho3 hq3
          go_wp2_with fail
          exact ⟨⟨k + 1, 1, _, by go_num, by go_num, by omega, by omega, HAL2.out _, HOK3.out, HO3.out, HST.out, HQ3.out⟩, by simp [intOf]; omega⟩
    · have hsum := HSUM.out
      rw [HLX.out k (by omega), HLY.out k (by omega)] at hsum
      have hnl := Dm.num_lt acc HOK.out
      rw [HAL.out] at hnl
      have hv0 : Dm.num acc = Dm.num xs - Dm.num ys := by
        have hge := HGE.out
        rcases (show v = 0 ∨ v = 1 from by omega) with rfl | rfl
        · omega
        · omega
      have HTN := Lib.hid (Dm.trim_num (l := acc) (n := Dm.num xs - Dm.num ys) HOK.out hv0)
      have HLL := Lib.hid (show acc.length < 1099511627776 from by rw [HAL.out]; omega)
      have h1 : ¬ k < n := by omega
      have h2 : ¬ k < m := by omega
      clear hsum hnl hv0 hlt hk
      have HT3 := Lib.hid (fun u h => HT.out u acc wr h HLL.out)
      go_wp2_with fail
      refine (HT3.out _ HLA.out).mono ?_
      rintro e w4 ⟨u4, rfl, ho4, hq4⟩
      rw [HTN.out] at ho4
      have HO4 := Lib.hid (ho4.mono HQ.out.le)
      have HQ4 := Lib.hid (HQ.out.trans hq4)
      clear ho4 hq4
      go_wp2_with fail
      go_ret
      exact ⟨_, rfl, HO4.out, HQ4.out⟩

end Dr
end Go.Proofs.Ytebcgpoemppljaa
