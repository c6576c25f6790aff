/- What the document's own Compare, Add, Less and Times of digits come to, by a walk through each. (and more) -/
import Derived.Test.YteljedefbomlgaaR00
import Derived.Test.YteljedefbomlgaaR03
import Derived.Test.YteljedefbomlgaaR01
import Derived.Test.YteljedefbomlgaaRows
import Derived.Test.YteljedefbomlgaaR04
import Derived.Test.YteljedefbomlgaaR02
import Derived.Deep.QuietTactic
import Derived.Deep.RegionWith
import Derived.BigQuiet
set_option linter.unusedVariables false
set_option linter.unusedSimpArgs false
namespace Go.Proofs.Yteljedefbomlgaa
open Go.RowKit
namespace Dr
set_option maxHeartbeats 1600000 in
theorem compare_any (va vb : Value) (xs ys : List Int) (w : World) (hv : Lst w va xs) (hu : Lst w vb ys) (hl : xs.length < 1000000) (hl2 : ys.length < 1000000) (hx : Dm.okD xs) (hy : Dm.okD ys) :
    Calls Try.prog 52 #[va, vb] w fun e w' => e = .returned (.int .i64 (Dm.cmpZ (Dm.num xs) (Dm.num ys))) ∧ Q w w' := by
  have H1 := Lib.hid (trim_any va xs w hv (by omega))
  have H2 := Lib.hid (fun w' (q : Q w w') => trim_any vb ys w' (hu.q q) (by omega))
  have HLT := Lib.hid (Dm.cmp_len_lt xs ys hx hy)
  have HGT := Lib.hid (Dm.cmp_len_gt xs ys hx hy)
  have HEQ := Lib.hid (Dm.cmp_len_eq xs ys hx hy)
  have hp : (Dm.trimL xs).length < 1000000 := by rw [Dm.trim_len]; omega
  have hq : (Dm.trimL ys).length < 1000000 := by rw [Dm.trim_len]; omega
  generalize Dm.cmpZ (Dm.num xs) (Dm.num ys) = r at *
  generalize Dm.trimL xs = X at *
  generalize Dm.trimL ys = Y at *
  have L1 := Lib.hid (Dm.lexC_lt X Y)
  have L2 := Lib.hid (Dm.lexC_gt X Y)
  have L3 := Lib.hid (Dm.lexC_on X Y)
  have L6 := Lib.hid (Dm.lexC_end X Y)
  obtain ⟨p, hpe⟩ : ∃ p, p = X.length := ⟨_, rfl⟩
  obtain ⟨q, hqe⟩ : ∃ q, q = Y.length := ⟨_, rfl⟩
  rw [← hpe] at hp HLT HGT HEQ L1 L2 L3 L6
  rw [← hqe] at hq HLT HGT HEQ L1 L2 L3 L6
  have HPE := Lib.hid hpe
  have HQE := Lib.hid hqe
  clear hv hu hx hy hpe hqe
  go_enter Try.func52, Try.ntmps52
  go_wp2_with fail
  refine H1.out.mono ?_
  rintro e w1 ⟨u1, rfl, ho1, hq1⟩
  obtain ⟨a, c, rfl, hac, _⟩ := ho1.lst.form0 HPE.out.symm
  have HO1 := Lib.hid ho1.lst
  have H2' := Lib.hid (H2.out w1 hq1)
  clear ho1
  go_wp2_with fail
  refine H2'.out.mono ?_
  rintro e w2 ⟨u2, rfl, ho2, hq2⟩
  obtain ⟨b, d, rfl, hbd, _⟩ := ho2.lst.form0 HQE.out.symm
  have HX := Lib.hid (fun k (hk : k < p) => (HO1.out.q hq2).cellOf (n := p) (k := k) HPE.out.symm hk)
  have HY := Lib.hid (fun k (hk : k < q) => ho2.lst.cellOf (n := q) (k := k) HQE.out.symm hk)
  have HQ2 := Lib.hid (hq1.trans hq2)
  clear ho2 hq1 hq2
  rcases Nat.lt_trichotomy p q with h | h | h
  · have HF := Lib.hid (HLT.out h)
    go_wp2_with fail
    go_ret
    rw [HF.out]
    exact ⟨rfl, HQ2.out⟩
  · have HF := Lib.hid (HEQ.out h)
    subst h
    go_wp2_with fail
    go_loopw [7] (fun i wr => ∃ k : Nat, i = .int .i64 k ∧ k ≤ p ∧ Dm.lexC (X.drop k) (Y.drop k) = r ∧ Q w2 wr) (fun i _ => p - (intOf i).toNat)
    case atStart => exact ⟨0, rfl, by omega, HF.out.symm, Q.refl _⟩
    case round =>
      obtain ⟨k, rfl, hk, hc, hq3⟩ := hrel
      have HI := Lib.hid hc
      clear hc
      by_cases hlt : k < p
      · obtain ⟨g, off, cap, hvv, hg, _, _, c1'⟩ := HX.out k hlt
        cases hvv
        obtain ⟨g2, off2, cap2, hvv2, hg2, _, _, c2'⟩ := HY.out k hlt
        cases hvv2
        have c1 := (World.cell?_of_block (w := w2) (hq3.block hg) (a := ⟨g, off + k, none⟩)).trans c1'
        have c2 := (World.cell?_of_block (w := w2) (hq3.block hg2) (a := ⟨g2, off2 + k, none⟩)).trans c2'
        have h1 := L1.out k hlt hlt
        have h2 := L2.out k hlt hlt
        have h3 := L3.out k hlt hlt
        generalize X.getD k 0 = y at *
        generalize Y.getD k 0 = z at *
        have hki : (k : Int) < (p : Int) := by omega
        have HQ3 := Lib.hid (HQ2.out.trans hq3)
        have HQ4 := Lib.hid hq3
        clear c1' c2' hq3
        rcases Int.lt_trichotomy y z with h | h | h
        · have HR := Lib.hid ((h1 h).symm.trans HI.out)
          clear h1 h2 h3
          go_wp2_with fail
          go_quiet (fail)
          go_wp2_with fail
          go_ret
          rw [← HR.out]
          exact ⟨rfl, HQ3.out.drewN _⟩
        · have HR := Lib.hid ((h3 h).symm.trans HI.out)
          subst h
          clear h1 h2 h3
          go_wp2_with fail
          go_quiet (fail)
          go_wp2_with fail
          go_quiet (fail)
          go_wp2_with fail
          exact ⟨⟨k + 1, by go_num, by omega, HR.out, HQ4.out.drewN _⟩, by simp [intOf]; omega⟩
        · have HR := Lib.hid ((h2 h).symm.trans HI.out)
          have hn : ¬ y < z := by omega
          clear h1 h2 h3
          go_wp2_with fail
          go_quiet (fail)
          go_wp2_with fail
          go_quiet (fail)
          go_wp2_with fail
          go_ret
          rw [← HR.out]
          first
            | exact ⟨rfl, HQ3.out.drewN _⟩
            | exact ⟨rfl, (HQ3.out.drewN _).drewN _⟩
      · have HR := Lib.hid ((L6.out k (by omega) (by omega)).symm.trans HI.out)
        have HQ3 := Lib.hid (HQ2.out.trans hq3)
        clear hq3
        go_wp2_with fail
        go_ret
        rw [← HR.out]
        exact ⟨rfl, HQ3.out⟩
  · have HF := Lib.hid (HGT.out h)
    have hn : ¬ p < q := by omega
    go_wp2_with fail
    go_ret
    rw [HF.out]
    exact ⟨rfl, HQ2.out⟩
set_option maxHeartbeats 1600000 in
theorem add_any (va vb : Value) (xs ys : List Int) (w : World) (hv : Lst w va xs) (hu : Lst w vb ys) (hl : xs.length < 1000000) (hl2 : ys.length < 1000000) (hx : Dm.okD xs) (hy : Dm.okD ys) :
    Calls Try.prog 80 #[va, vb] w fun e w' => ∃ u, e = .returned u ∧ Own w' w.heap.size u (Dm.dg (Dm.num xs + Dm.num ys)) ∧ Q w w' := by
  have HA := Lib.hid (fun k w' (q : Q w w') (hk : k < 1000000) => digit_any va xs k w' (hv.q q) (by omega) (by omega))
  have HB := Lib.hid (fun k w' (q : Q w w') (hk : k < 1000000) => digit_any vb ys k w' (hu.q q) (by omega) (by omega))
  have HBX := Lib.hid (Dm.dgt_bd xs hx)
  have HBY := Lib.hid (Dm.dgt_bd ys hy)
  have HSX := Lib.hid (Dm.last_step xs)
  have HSY := Lib.hid (Dm.last_step ys)
  have HZX := Lib.hid (Dm.last_zero xs)
  have HZY := Lib.hid (Dm.last_zero ys)
  have HLX := Lib.hid (Dm.last_all xs)
  have HLY := Lib.hid (Dm.last_all ys)
  have HF := Lib.hid front_any
  have HT := Lib.hid trim_any
  obtain ⟨n, hn⟩ : ∃ n, n = xs.length := ⟨_, rfl⟩
  obtain ⟨m, hm⟩ : ∃ m, m = ys.length := ⟨_, rfl⟩
  obtain ⟨a, c, rfl, hnc, hcm⟩ := hv.form0 hn.symm
  obtain ⟨b, d, rfl, hmd, hdm⟩ := hu.form0 hm.symm
  rw [← hn] at hl HLX
  rw [← hm] at hl2 HLY
  unfold maxLen at hcm hdm
  clear hv hu hn hm hx hy
  go_enter Try.func80, Try.ntmps80
  go_wp2_with fail
  go_loopw [5, 6, 7] (fun u t i wr => ∃ (k v : Nat) (acc : List Int), i = .int .i64 k ∧ t = .int .i64 v ∧ v ≤ 1 ∧ (k ≤ n ∨ k ≤ m) ∧ acc.length = k ∧ Dm.okD acc ∧ Lst wr u acc ∧ Dm.num acc + v * 10 ^ k = Dm.num (Dm.lastN k xs) + Dm.num (Dm.lastN k ys) ∧ Q w wr) (fun _ _ i _ => n + m - (intOf i).toNat)
  case atStart => exact ⟨0, 0, [], rfl, rfl, by omega, by omega, rfl, Dm.okD_nil, .nil _ _ _ (by unfold maxLen; omega) (fun _ => rfl), by rw [HZX.out, HZY.out]; rfl, Q.refl _⟩
  case round =>
    obtain ⟨k, v, acc, rfl, rfl, hv1, hk, hal, hok, hla, hsum, hq⟩ := hrel
    have HAL := Lib.hid hal
    have HOK := Lib.hid hok
    have HLA := Lib.hid hla
    have HSUM := Lib.hid hsum
    have HQ := Lib.hid hq
    clear hal hok hla hsum hq
    by_cases hlt : k < n ∨ k < m
    · have ha := HA.out k wr HQ.out (by omega)
      have hb := HB.out k wr HQ.out (by omega)
      have hbx := HBX.out k
      have hby := HBY.out k
      have hsx := HSX.out k
      have hsy := HSY.out k
      generalize Dm.dgt xs k = x at *
      generalize Dm.dgt ys k = y at *
      obtain ⟨p, rfl⟩ : ∃ p : Nat, x = p := ⟨x.toNat, by omega⟩
      obtain ⟨q, rfl⟩ : ∃ q : Nat, y = q := ⟨y.toNat, by omega⟩
      have GA := Lib.hid ha
      have GB := Lib.hid hb
      obtain ⟨s, hs⟩ : ∃ s : Nat, s = p + q + v := ⟨_, rfl⟩
      have hsI : (p : Int) + (q : Int) + (v : Int) = (s : Int) := by omega
      have hst := Dm.add_step (Dm.num (Dm.lastN k xs)) (Dm.num (Dm.lastN k ys)) (10 ^ k) (Dm.num acc) p q v HSUM.out
      rw [← hs] at hst
      rw [Int.toNat_natCast] at hsx hsy
      rw [← hsx, ← hsy] at hst
      have hs19 : s ≤ 19 := by omega
      have HST := Lib.hid (show Dm.num (((s : Int) % 10) :: acc) + s / 10 * 10 ^ (k + 1) = Dm.num (Dm.lastN (k + 1) xs) + Dm.num (Dm.lastN (k + 1) ys) from by
        rw [Dm.num_cons, HAL.out, show ((s : Int) % 10).toNat = s % 10 from by omega, Nat.pow_succ]; exact hst)
      have HOK2 := Lib.hid (show Dm.okD (((s : Int) % 10) :: acc) from Dm.okD_cons.2 ⟨by omega, HOK.out⟩)
      have HAL2 := Lib.hid (show (((s : Int) % 10) :: acc).length = k + 1 from by rw [List.length_cons, HAL.out])
      have HFF := Lib.hid (fun d u h => HF.out d u acc wr h (by rw [HAL.out]; omega))
      have hpq : 0 ≤ (p : Int) + (q : Int) := by omega
      have hpq2 : (p : Int) + (q : Int) ≤ 18 := by omega
      clear ha hb hbx hby hsx hsy hst hs
      rcases (show (k < n) ∨ (¬ k < n ∧ k < m) from by omega) with h1 | ⟨h1, h2⟩
      all_goals
        clear hlt
        go_wp2_with fail
        refine GA.out.mono ?_
        rintro e w3 ⟨rfl, rfl⟩
        go_wp2_with fail
        refine GB.out.mono ?_
        rintro e w3 ⟨rfl, rfl⟩
        go_wp2_with fail
        refine (HFF.out _ _ HLA.out).mono ?_
        rintro e w3 ⟨u3, rfl, ho3, hq3⟩
        have HO3 := Lib.hid ho3.lst
        have HQ3 := Lib.hid (HQ.out.trans hq3)
        clear ho3 hq3
        go_wp2_with fail
        exact ⟨⟨k + 1, s / 10, _, by go_num, by go_num, by omega, by omega, HAL2.out, HOK2.out, HO3.out, HST.out, HQ3.out⟩, by simp [intOf]; omega⟩
    · have hsum := HSUM.out
      rw [HLX.out k (by omega), HLY.out k (by omega)] at hsum
      have HFF := Lib.hid (fun d u h => HF.out d u acc wr h (by rw [HAL.out]; omega))
      have hok2 : Dm.okD ((v : Int) :: acc) := Dm.okD_cons.2 ⟨by omega, HOK.out⟩
      have htn := Dm.trim_num (l := (v : Int) :: acc) (n := Dm.num xs + Dm.num ys) hok2 (by rw [Dm.num_cons, HAL.out, Int.toNat_natCast]; omega)
      have HTN := Lib.hid htn
      have hll : ((v : Int) :: acc).length < 1099511627776 := by rw [List.length_cons, HAL.out]; omega
      have HLL := Lib.hid hll
      have h1 : ¬ k < n := by omega
      have h2 : ¬ k < m := by omega
      clear hsum hok2 htn hll hlt hk
      go_wp2_with fail
      refine (HFF.out _ _ HLA.out).mono ?_
      rintro e w3 ⟨u3, rfl, ho3, hq3⟩
      have HT3 := Lib.hid (HT.out u3 _ w3 ho3.lst HLL.out)
      have HQ3 := Lib.hid (HQ.out.trans hq3)
      clear ho3 hq3
      go_wp2_with fail
      refine HT3.out.mono ?_
      rintro e w4 ⟨u4, rfl, ho4, hq4⟩
      rw [HTN.out] at ho4
      have HO4 := Lib.hid (ho4.mono HQ3.out.le)
      have HQ4 := Lib.hid (HQ3.out.trans hq4)
      clear ho4 hq4
      go_wp2_with fail
      go_ret
      exact ⟨_, rfl, HO4.out, HQ4.out⟩
set_option maxHeartbeats 1600000 in
theorem less_any (va vb : Value) (xs ys : List Int) (w : World) (hv : Lst w va xs) (hu : Lst w vb ys) (hl : xs.length < 1000000) (hl2 : ys.length < 1000000) (hx : Dm.okD xs) (hy : Dm.okD ys) (hge : Dm.num ys ≤ Dm.num xs) :
    Calls Try.prog 81 #[va, vb] w fun e w' => ∃ u, e = .returned u ∧ Own w' w.heap.size u (Dm.dg (Dm.num xs - Dm.num ys)) ∧ Q w w' := by
  have HA := Lib.hid (fun k w' (q : Q w w') (hk : k < 1000000) => digit_any va xs k w' (hv.q q) (by omega) (by omega))
  have HB := Lib.hid (fun k w' (q : Q w w') (hk : k < 1000000) => digit_any vb ys k w' (hu.q q) (by omega) (by omega))
  have HBX := Lib.hid (Dm.dgt_bd xs hx)
  have HBY := Lib.hid (Dm.dgt_bd ys hy)
  have HSX := Lib.hid (Dm.last_step xs)
  have HSY := Lib.hid (Dm.last_step ys)
  have HZX := Lib.hid (Dm.last_zero xs)
  have HZY := Lib.hid (Dm.last_zero ys)
  have HLX := Lib.hid (Dm.last_all xs)
  have HLY := Lib.hid (Dm.last_all ys)
  have HGE := Lib.hid hge
  have HF := Lib.hid front_any
  have HT := Lib.hid trim_any
  obtain ⟨n, hn⟩ : ∃ n, n = xs.length := ⟨_, rfl⟩
  obtain ⟨m, hm⟩ : ∃ m, m = ys.length := ⟨_, rfl⟩
  obtain ⟨a, c, rfl, hnc, hcm⟩ := hv.form0 hn.symm
  obtain ⟨b, d, rfl, hmd, hdm⟩ := hu.form0 hm.symm
  rw [← hn] at hl HLX
  rw [← hm] at hl2 HLY
  unfold maxLen at hcm hdm
  clear hv hu hn hm hx hy hge
  go_enter Try.func81, Try.ntmps81
  go_wp2_with fail
  go_loopw [5, 6, 7] (fun u t i wr => ∃ (k v : Nat) (acc : List Int), i = .int .i64 k ∧ t = .int .i64 v ∧ v ≤ 1 ∧ (k ≤ n ∨ k ≤ m) ∧ acc.length = k ∧ Dm.okD acc ∧ Lst wr u acc ∧ Dm.num acc + Dm.num (Dm.lastN k ys) = Dm.num (Dm.lastN k xs) + v * 10 ^ k ∧ Q w wr) (fun _ _ i _ => n + m - (intOf i).toNat)
  case atStart => exact ⟨0, 0, [], rfl, rfl, by omega, by omega, rfl, Dm.okD_nil, .nil _ _ _ (by unfold maxLen; omega) (fun _ => rfl), by rw [HZX.out, HZY.out]; rfl, Q.refl _⟩
  case round =>
    obtain ⟨k, v, acc, rfl, rfl, hv1, hk, hal, hok, hla, hsum, hq⟩ := hrel
    have HAL := Lib.hid hal
    have HOK := Lib.hid hok
    have HLA := Lib.hid hla
    have HSUM := Lib.hid hsum
    have HQ := Lib.hid hq
    clear hal hok hla hsum hq
    by_cases hlt : k < n ∨ k < m
    · have ha := HA.out k wr HQ.out (by omega)
      have hb := HB.out k wr HQ.out (by omega)
      have hbx := HBX.out k
      have hby := HBY.out k
      have hsx := HSX.out k
      have hsy := HSY.out k
      generalize Dm.dgt xs k = x at *
      generalize Dm.dgt ys k = y at *
      obtain ⟨p, rfl⟩ : ∃ p : Nat, x = p := ⟨x.toNat, by omega⟩
      obtain ⟨q, rfl⟩ : ∃ q : Nat, y = q := ⟨y.toNat, by omega⟩
      have GA := Lib.hid ha
      have GB := Lib.hid hb
      have hI1 : -10 ≤ (p : Int) - (q : Int) := by omega
      have hI2 : (p : Int) - (q : Int) ≤ 9 := by omega
      have hI3 : (p : Int) - (q : Int) - (v : Int) ≤ 9 := by omega
      have hI4 : -10 ≤ (p : Int) - (q : Int) - (v : Int) := by omega
      have HFF := Lib.hid (fun d u h => HF.out d u acc wr h (by rw [HAL.out]; omega))
      rw [Int.toNat_natCast] at hsx hsy
      have HSX2 := Lib.hid hsx
      have HSY2 := Lib.hid hsy
      have key : ∀ r z : Nat, r + q + v = p + z * 10 → r ≤ 9 → Dm.num (((r : Int)) :: acc) + Dm.num (Dm.lastN (k + 1) ys) = Dm.num (Dm.lastN (k + 1) xs) + z * 10 ^ (k + 1) := by
        intro r z hr hr9
        have hst := Dm.sub_step (Dm.num (Dm.lastN k xs)) (Dm.num (Dm.lastN k ys)) (10 ^ k) (Dm.num acc) p q v r z HSUM.out hr
        rw [Dm.num_cons, HAL.out, Int.toNat_natCast, Nat.pow_succ, HSX2.out, HSY2.out]
        exact hst
      have HOK2 := Lib.hid (fun (r : Nat) (hr : r ≤ 9) => (Dm.okD_cons.2 ⟨by omega, HOK.out⟩ : Dm.okD ((r : Int) :: acc)))
      have HAL2 := Lib.hid (fun (r : Int) => (by rw [List.length_cons, HAL.out] : (r :: acc).length = k + 1))
      have KEY := Lib.hid key
      clear ha hb hsx hsy key
      rcases (show (k < n) ∨ (¬ k < n ∧ k < m) from by omega) with h1 | ⟨h1, h2⟩
      all_goals
        rcases (show (∃ r : Nat, (p : Int) - (q : Int) - (v : Int) = (r : Int) ∧ r ≤ 9) ∨ (∃ r : Nat, (p : Int) - (q : Int) - (v : Int) < 0 ∧ (p : Int) - (q : Int) - (v : Int) + 10 = (r : Int) ∧ r ≤ 9) from by
          by_cases h : (p : Int) - (q : Int) - (v : Int) < 0
          · exact .inr ⟨((p : Int) - (q : Int) - (v : Int) + 10).toNat, h, by omega, by omega⟩
          · exact .inl ⟨((p : Int) - (q : Int) - (v : Int)).toNat, by omega, by omega⟩) with ⟨r, hr, hr9⟩ | ⟨r, hr0, hr, hr9⟩
        · have HST := Lib.hid (KEY.out r 0 (by omega) hr9)
          have HOK3 := Lib.hid (HOK2.out r hr9)
          clear hlt hbx hby
          go_wp2_with fail
          refine GA.out.mono ?_
          rintro e w3 ⟨rfl, rfl⟩
          go_wp2_with fail
          refine GB.out.mono ?_
          rintro e w3 ⟨rfl, rfl⟩
          go_wp2_with fail
          refine (HFF.out _ _ HLA.out).mono ?_
          rintro e w3 ⟨u3, rfl, ho3, hq3⟩
          have HO3 := Lib.hid ho3.lst
          have HQ3 := Lib.hid (HQ.out.trans hq3)
          clear ho3 hq3
          go_wp2_with fail
          exact ⟨⟨k + 1, 0, _, by go_num, by go_num, by omega, by omega, HAL2.out _, HOK3.out, HO3.out, HST.out, HQ3.out⟩, by simp [intOf]; omega⟩
        · have HST := Lib.hid (KEY.out r 1 (by omega) hr9)
          have HOK3 := Lib.hid (HOK2.out r hr9)
          clear hlt hbx hby
          go_wp2_with fail
          refine GA.out.mono ?_
          rintro e w3 ⟨rfl, rfl⟩
          go_wp2_with fail
          refine GB.out.mono ?_
          rintro e w3 ⟨rfl, rfl⟩
          go_wp2_with fail
          refine (HFF.out _ _ HLA.out).mono ?_
          rintro e w3 ⟨u3, rfl, ho3, hq3⟩
          have HO3 := Lib.hid ho3.lst
          have HQ3 := Lib.hid (HQ.out.trans hq3)
          clear ho3 hq3
          go_wp2_with fail
          exact ⟨⟨k + 1, 1, _, by go_num, by go_num, by omega, by omega, HAL2.out _, HOK3.out, HO3.out, HST.out, HQ3.out⟩, by simp [intOf]; omega⟩
    · have hsum := HSUM.out
      rw [HLX.out k (by omega), HLY.out k (by omega)] at hsum
      have hnl := Dm.num_lt acc HOK.out
      rw [HAL.out] at hnl
      have hv0 : Dm.num acc = Dm.num xs - Dm.num ys := by
        have hge := HGE.out
        rcases (show v = 0 ∨ v = 1 from by omega) with rfl | rfl
        · omega
        · omega
      have HTN := Lib.hid (Dm.trim_num (l := acc) (n := Dm.num xs - Dm.num ys) HOK.out hv0)
      have HLL := Lib.hid (show acc.length < 1099511627776 from by rw [HAL.out]; omega)
      have h1 : ¬ k < n := by omega
      have h2 : ¬ k < m := by omega
      clear hsum hnl hv0 hlt hk
      have HT3 := Lib.hid (fun u h => HT.out u acc wr h HLL.out)
      go_wp2_with fail
      refine (HT3.out _ HLA.out).mono ?_
      rintro e w4 ⟨u4, rfl, ho4, hq4⟩
      rw [HTN.out] at ho4
      have HO4 := Lib.hid (ho4.mono HQ.out.le)
      have HQ4 := Lib.hid (HQ.out.trans hq4)
      clear ho4 hq4
      go_wp2_with fail
      go_ret
      exact ⟨_, rfl, HO4.out, HQ4.out⟩
end Dr
end Go.Proofs.Yteljedefbomlgaa
namespace Go.Proofs.Yteljedefbomlgaa
open Go.RowKit
namespace Dw
def New (B : Nat) (u : Value) : Prop := ∀ (ad : Addr) (n c : Nat), u = .slice (some ad) n c → n ≠ 0 → B ≤ ad.block
theorem New.here {B : Nat} {g : Nat} (h : B ≤ g) (o n c : Nat) : New B (.slice (some ⟨g, o, none⟩) n c) := fun ad m d e _ => by cases e; exact h
theorem New.nil (B : Nat) (a : Option Addr) (c : Nat) : New B (.slice a 0 c) := fun ad m d e hm => by cases e; exact absurd rfl hm
theorem New.mono {B C : Nat} {u : Value} (h : New B u) (hC : C ≤ B) : New C u := fun ad n c e hn => Nat.le_trans hC (h ad n c e hn)
theorem New.own {w : World} {B : Nat} {v : Value} {zs : List Int} (h : Own w B v zs) : New B v := by
  intro ad n c e hn
  rcases h.2 with ⟨hv, _⟩ | ⟨g, cap, cur, hv, hg, _⟩
  · rw [hv] at e; cases e
  · rw [hv] at e; cases e; exact hg
set_option maxHeartbeats 3200000 in
theorem settle_at (v : Value) (xs : List Int) (w : World) (B T : Nat) (hv : Own w B v xs) (hB : B ≤ w.heap.size) (hl : xs.length < 549755813888) (hb : ∀ x ∈ xs, -100000 ≤ x ∧ x ≤ 100000) (hT : Dm.lsv xs = (T : Int)) :
    Calls Try.prog 93 #[v] w fun e w' => ∃ u, e = .returned u ∧ Lst w' u (Dm.dg T) ∧ New B u ∧ Below B w w' := by
  have HR := Lib.hid reverse_any
  have HZ := Lib.hid zeros_any
  obtain ⟨n, hn⟩ : ∃ n, n = xs.length := ⟨_, rfl⟩
  obtain ⟨a, c, rfl, hnc, hcm⟩ := hv.lst.form0 hn.symm
  have HV := Lib.hid hv
  have HT := Lib.hid hT
  have HBD := Lib.hid (fun k (hk : k < n) => (by rw [List.getD_eq_getElem?_getD, List.getElem?_eq_getElem (by omega)]; exact hb _ (List.getElem_mem _) : -100000 ≤ xs.getD k 0 ∧ xs.getD k 0 ≤ 100000))
  have HDC := Lib.hid (fun k (hk : k < n) => Dm.drop_cons xs k (by omega))
  have HDN := Lib.hid (show xs.drop n = [] from List.drop_eq_nil_of_le (by omega))
  have HDL := Lib.hid (show ∀ k, (xs.drop k).length = n - k from fun k => by rw [List.length_drop, hn])
  rw [← hn] at hl
  unfold maxLen at hcm
  clear hv hn hT hb
  go_enter Try.func93, Try.ntmps93
  go_wp2_with fail
  go_loopw [3, 8] (fun u t wr => ∃ (k : Nat) (ds : List Int) (rest : Int), u = .int .i64 rest ∧ t = .int .i64 k ∧ k ≤ n ∧ ds.length = k ∧ Dm.okD ds ∧ -100000 ≤ rest ∧ rest ≤ 100000 ∧ Own wr B (.slice a n c) (ds ++ xs.drop k) ∧ Dm.lsv ds + 10 ^ k * (rest + Dm.lsv (xs.drop k)) = (T : Int) ∧ Below B w wr) (fun _ t _ => n - (intOf t).toNat)
  case atStart => exact ⟨0, [], 0, rfl, rfl, by omega, rfl, Dm.okD_nil, by omega, by omega, HV.out, by rw [← HT.out]; simp [Dm.lsv_nil], Below.refl _ _⟩
  case round =>
    obtain ⟨k, ds, rest, rfl, rfl, hk, hdl, hok, hr1, hr2, ho, hsum, hbl⟩ := hrel
    have HSUM := Lib.hid hsum
    have HOK := Lib.hid hok
    have HBL := Lib.hid hbl
    have HO := Lib.hid ho
    have HDSL := Lib.hid hdl
    clear hsum hok hbl ho hdl
    by_cases hlt : k < n
    · have hlen : (ds ++ xs.drop k).length = n := by rw [List.length_append, HDSL.out, HDL.out]; omega
      obtain ⟨g, cap, hvv, hg, hgw, _, _⟩ := HO.out.head hlen (by omega)
      cases hvv
      have c1 := HO.out.cellAt hlen hlt
      have f1 := HO.out.freeAt hlen k
      have hgk : (ds ++ xs.drop k).getD k 0 = xs.getD k 0 := by
        rw [HDC.out k hlt, List.getD_eq_getElem?_getD, List.getElem?_append_right (by rw [HDSL.out]; omega), HDSL.out, Nat.sub_self]; rfl
      rw [hgk] at c1
      have hbd := HBD.out k hlt
      have hdc := HDC.out k hlt
      obtain ⟨x, hx⟩ : ∃ x, x = xs.getD k 0 := ⟨_, rfl⟩
      rw [← hx] at c1 hbd hdc
      have hdc2 := congrArg Dm.lsv hdc
      rw [Dm.lsv_cons] at hdc2
      obtain ⟨r, hr⟩ : ∃ r, rest + x = r := ⟨_, rfl⟩
      have hst := Dm.settle_step (10 ^ k) (Dm.lsv ds) rest x (Dm.lsv (xs.drop (k + 1))) T (by rw [← hdc2]; exact HSUM.out)
      rw [hr] at hst
      obtain ⟨e1, e2, e3⟩ := Dm.tmod10 r
      have e4 := Dm.tdiv10 r
      obtain ⟨t, ht⟩ : ∃ t, r.tmod 10 = t := ⟨_, rfl⟩
      rw [ht] at e1 e2 e3
      obtain ⟨d, hd⟩ : ∃ d, r % 10 = d := ⟨_, rfl⟩
      have hd9 : 0 ≤ d ∧ d ≤ 9 := by omega
      obtain ⟨q, hq⟩ : ∃ q, r / 10 = q := ⟨_, rfl⟩
      have hqb : -100000 ≤ q ∧ q ≤ 100000 := by omega
      rw [hd] at e1 e4 hst
      rw [hq] at e4 hst
      have e5 : (t + 10) % 10 = d := by rw [← e1, Int.tmod_eq_emod_of_nonneg (by omega)]
      have hrb : -200000 ≤ r ∧ r ≤ 200000 := by omega
      have hos := HO.out.stored hlen k d
      rw [HDC.out k hlt, Dm.set_next ds _ k _ d HDSL.out] at hos
      have HOS := Lib.hid hos
      have HST := Lib.hid (show Dm.lsv (ds ++ [d]) + 10 ^ (k + 1) * (q + Dm.lsv (xs.drop (k + 1))) = (T : Int) from by rw [Dm.lsv_snoc, HDSL.out, Int.pow_succ]; exact hst)
      have HOK2 := Lib.hid (Dm.okD_snoc HOK.out hd9)
      have HBL2 := Lib.hid (fun a => HBL.out.setCell (p := ⟨g, k, none⟩) hg a)
      have HD2 := Lib.hid (show (ds ++ [d]).length = k + 1 from by rw [List.length_append, HDSL.out]; rfl)
      obtain ⟨hx1, hx2⟩ := hbd
      obtain ⟨hd1, hd2⟩ := hd9
      obtain ⟨hq1, hq2⟩ := hqb
      obtain ⟨hrb1, hrb2⟩ := hrb
      have hs1 : -200000 ≤ rest + x := by omega
      have hs2 : rest + x ≤ 200000 := by omega
      clear hst hos hlen hgk hdc hdc2 hx hd hq
      go_wp2_with fail
      exact ⟨⟨k + 1, _, _, rfl, by go_num, by omega, HD2.out, HOK2.out, hq1, hq2, HOS.out, HST.out, HBL2.out _⟩, by simp [intOf]; omega⟩
    · have hkn : k = n := by omega
      have hsum := HSUM.out
      have ho := HO.out
      rw [hkn, HDN.out, Dm.lsv_nil, Int.add_zero] at hsum
      rw [hkn, HDN.out, List.append_nil] at ho
      have hdl := HDSL.out
      rw [hkn] at hdl
      rw [← hdl] at hsum
      have hrp := Dm.rest_pos ds HOK.out rest T hsum
      have HSUM2 := Lib.hid hsum
      have HO2 := Lib.hid ho
      have HDL2 := Lib.hid hdl
      clear hsum ho hdl hkn
      go_wp2_with fail
      go_loopw [0, 3] (fun v u wr => ∃ (zs : List Int) (rest : Int), u = .int .i64 rest ∧ 0 ≤ rest ∧ rest ≤ 100000 ∧ Own wr B v zs ∧ Dm.okD zs ∧ Dm.lsv zs + 10 ^ zs.length * rest = (T : Int) ∧ (zs.length : Int) + rest ≤ (n : Int) + 100000 ∧ Below B w wr) (fun _ u _ => (intOf u).toNat)
      case atStart => exact ⟨ds, rest, rfl, hrp, hr2, HO2.out, HOK.out, HSUM2.out, by rw [HDL2.out]; omega, HBL.out⟩
      case round =>
        clear HSUM HOK HBL HO HDSL HSUM2 HO2 HDL2 hr1 hr2 hrp
        obtain ⟨zs, rest, rfl, hr1, hr2, ho, hok, hsum, hln, hbl⟩ := hrel
        have HSUM := Lib.hid hsum
        have HOK := Lib.hid hok
        have HBL := Lib.hid hbl
        clear hsum hok hbl
        by_cases hpos : 0 < rest
        · have hBs : B ≤ wr.heap.size := Nat.le_trans hB HBL.out.size
          have hwl : zs.length < 1099511627776 := by omega
          have HST := Lib.hid (show Dm.lsv (zs ++ [rest % 10]) + 10 ^ (zs ++ [rest % 10]).length * (rest / 10) = (T : Int) from by
            rw [Dm.lsv_snoc, List.length_append, show ([rest % 10] : List Int).length = 1 from rfl, Int.pow_succ]
            exact Dm.over_z (10 ^ zs.length) (Dm.lsv zs) rest T HSUM.out)
          have HOK2 := Lib.hid (Dm.okD_snoc (d := rest % 10) HOK.out (by omega))
          have HLN := Lib.hid (show ((zs ++ [rest % 10]).length : Int) + rest / 10 ≤ (n : Int) + 100000 from by rw [List.length_append, show ([rest % 10] : List Int).length = 1 from rfl]; omega)
          go_wp2_with (at_builtin; refine push_int ho rfl _ _ rfl _ (by rfl) (by rfl) hwl hBs ?_)
          intro v2 w2 ho2 hg2 hat2
          have HB2 := Lib.hid (Below.grown HBL.out hg2 hBs (fun g h => (ho.lt g h).1))
          have HO2 := Lib.hid ho2
          clear hg2 hat2 ho ho2
          go_wp2_with fail
          exact ⟨⟨_, rest / 10, rfl, by omega, by omega, HO2.out, HOK2.out, HST.out, HLN.out, HB2.out⟩, by simp [intOf]; omega⟩
        · have hr0 : rest = 0 := by omega
          subst hr0
          have hset := Dm.settled zs HOK.out T HSUM.out
          obtain ⟨m, hm⟩ : ∃ m, m = zs.length := ⟨_, rfl⟩
          have hml : m < 1099511627776 := by omega
          obtain ⟨ad, cp, rfl, hmc, hcm2⟩ := ho.lst.form0 hm.symm
          have hrl : zs.reverse.length = m := by rw [List.length_reverse, hm]
          have hzl := Dm.zer_le zs.reverse
          rw [hrl] at hzl
          unfold maxLen at hcm2
          have HRV := Lib.hid (fun w h => HR.out (.slice ad m cp) zs w B h (by omega))
          have HZZ := Lib.hid (fun w h => HZ.out (.slice ad m cp) zs.reverse w h (by omega))
          generalize Dm.zer zs.reverse = z at *
          generalize zs.reverse = rs at *
          have HO := Lib.hid ho
          have HSE := Lib.hid hset
          have HRL := Lib.hid hrl
          have hzc : (z : Int) ≤ (cp : Int) := by omega
          clear ho hset hrl hm hln
          go_wp2_with fail
          refine (HRV.out _ HO.out).mono ?_
          rintro e w1 ⟨rfl, ho1, hb1⟩
          have HO1 := Lib.hid ho1
          have HNW := Lib.hid (New.own ho1)
          have HB1 := Lib.hid (HBL.out.trans hb1)
          have hrest := ho1.lst.rest HRL.out hzl
          clear ho1 hb1
          go_wp2_with fail
          refine (HZZ.out _ HO1.out.lst).mono ?_
          rintro e w2 ⟨rfl, rfl⟩
          rcases hrest with ⟨g, off, rfl, hlt2, _, _, hr⟩ | ⟨rfl, rfl, he⟩ | ⟨ad2, rfl, rfl, hlt2, _, he⟩
          · have hne : ¬ (cp = z) := by omega
            have hne2 : ¬ (cp - z = 0) := by omega
            have hzm : (z : Int) ≤ (m : Int) := by omega
            rw [← HSE.out] at hr
            have HR2 := Lib.hid hr
            clear hr
            go_wp2_with fail
            go_ret
            exact ⟨_, rfl, HR2.out, fun ad n c e hn => by cases e; exact HNW.out ⟨g, off, none⟩ _ _ rfl (by omega), HB1.out⟩
          · rw [he] at HSE
            cases ad
            all_goals
              go_wp2_with fail
              go_ret
              exact ⟨_, rfl, by rw [HSE.out]; exact .nil _ _ _ (by unfold maxLen; omega) (fun _ => rfl), New.nil _ _ _, HB1.out⟩
          · rw [he] at HSE
            have hne : ¬ (cp = z) := by omega
            have hne2 : ¬ (cp - z = 0) := by omega
            go_wp2_with fail
            go_ret
            exact ⟨_, rfl, by rw [HSE.out]; exact .nil _ _ _ (by unfold maxLen; omega) (fun h => by cases h), New.nil _ _ _, HB1.out⟩
theorem settle_any (v : Value) (xs : List Int) (w : World) (B T : Nat) (hv : Own w B v xs) (hB : B ≤ w.heap.size) (hl : xs.length < 549755813888) (hb : ∀ x ∈ xs, -100000 ≤ x ∧ x ≤ 100000) (hT : Dm.lsv xs = (T : Int)) :
    Calls Try.prog 93 #[v] w fun e w' => ∃ u, e = .returned u ∧ Lst w' u (Dm.dg T) ∧ Below B w w' := by
  refine (settle_at v xs w B T hv hB hl hb hT).mono ?_
  rintro e w' ⟨u, h1, h2, _, h3⟩
  exact ⟨u, h1, h2, h3⟩
end Dw
end Go.Proofs.Yteljedefbomlgaa
