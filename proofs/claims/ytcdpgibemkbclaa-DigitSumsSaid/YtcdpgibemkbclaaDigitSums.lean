/- DigitSums: of whatever lists (the first 4, the first 20 numbers of each; raw, and made digits), all numbers together are the document's, or refused, in whatever row; no conditions. -/
import Derived.Test.YtcdpgibemkbclaaRows
import Derived.WalkKit
import Derived.ProofKit
import Derived.OpenShut
import Derived.ShutString
import Derived.ChangeOld
import Derived.Below
import Derived.Test.YtcdpgibemkbclaaInts
import Derived.Test.YtcdpgibemkbclaaUtfM
import Derived.Test.YtcdpgibemkbclaaUtfG
import Derived.Test.YtcdpgibemkbclaaUtfR
import Derived.Test.YtcdpgibemkbclaaEls
import Derived.Test.YtcdpgibemkbclaaSto
import Derived.Test.YtcdpgibemkbclaaRowsL
import Derived.Test.YtcdpgibemkbclaaDigM
import Derived.Test.YtcdpgibemkbclaaDigL
import Derived.Test.YtcdpgibemkbclaaDigW
import Derived.Test.YtcdpgibemkbclaaDigR
import Derived.Test.YtcdpgibemkbclaaDigS
import Derived.Test.YtcdpgibemkbclaaDigX
import Derived.Test.YtcdpgibemkbclaaDigY
import Derived.Test.YtcdpgibemkbclaaDigB
import Derived.Test.YtcdpgibemkbclaaDigQ
set_option linter.unusedVariables false
set_option linter.unusedSimpArgs false
namespace Go.Proofs.Ytcdpgibemkbclaa.digitSums
open Go.ChangeShapes Go.WideShapes Go.ChangeAt Go.RowKit
open Go.ChangeMaps (open_string shut_string)

theorem own : ownKnob Try.prog.godebug = none := by kernel_rfl
theorem laidOut : laidOutB Try.prog = true := by kernel_rfl


set_option maxHeartbeats 8000000 in
set_option maxRecDepth 100000 in
theorem walk (w : World) (v0 : Value) (ls0 : List Sl) (w0 : LL w v0 ls0) (b0 : Fits ls0) :
    Calls Try.prog 6 #[v0] w fun e w' => e = .returned (.bool true) ∧ Q w w' := by
  obtain ⟨n, hn⟩ : ∃ n, n = ls0.length := ⟨_, rfl⟩
  obtain ⟨ad0, cp0, rfl, hnc, hcm⟩ := w0.1.form0 hn.symm
  unfold maxLen at hcm
  have hll := w0.1
  have HV := Lib.hid (fun k s (h : ls0[k]? = some s) => hll.cellOf (n := n) hn.symm h)
  have HL := Lib.hid (show ∀ k, k < n → ∃ (sa : Option Addr) (sn sc : Nat) (zs : List Int), ls0[k]? = some ⟨sa, sn, sc, zs⟩ ∧ Lst w (.slice sa sn sc) zs ∧ zs.length = sn ∧ sn ≤ sc ∧ sc ≤ 9223372036854775807 ∧ ∀ m ∈ zs, -9223372036854775808 ≤ m ∧ m ≤ 9223372036854775807 from fun k hk => by
    have hm : ls0[k]'(by omega) ∈ ls0 := List.getElem_mem _
    obtain ⟨h1, h2⟩ := w0.2 _ hm
    obtain ⟨_, _, hv, h3, h4⟩ := h1.form0 h2
    cases hv
    unfold maxLen at h4
    exact ⟨_, _, _, _, List.getElem?_eq_getElem (by omega), h1, h2, h3, by omega, b0 _ hm⟩)
  have LV := Lib.hid Dw.lives_any
  clear hll w0 b0 hn
  go_enter Try.func6, Try.ntmps6
  go_wp2_with fail
  go_loopw [3, 4, 5, 6, 7, 8] (fun u3 u4 u5 u6 u7 u8 wr => ∃ (k S : Nat) (raws owns turns : List Sl), u6 = .bool (Dw.okA raws) ∧ u8 = .int .i64 k ∧ k ≤ n ∧ k ≤ 4 ∧ raws.length = k ∧ owns.length = k ∧ turns.length = k ∧ Dw.sumN owns = S ∧ Dw.sumN turns = S ∧ (Dw.okA raws = true → Dw.sumN raws = S) ∧ S ≤ k * 100000000000000000000 ∧ BT w wr u3 u4 u5 u7 raws owns turns (Dm.dg S)) (fun _ _ _ _ _ i _ => n - (intOf i).toNat)
  case atStart => exact ⟨0, 0, [], [], [], rfl, rfl, by omega, by omega, rfl, rfl, rfl, rfl, rfl, fun _ => rfl, by omega, by rw [Dm.dg_zero]; exact BT.start w⟩
  case round =>
    obtain ⟨k, S, raws, owns, turns, rfl, rfl, hk, hk4, hl3, hl4, hl5, hs4, hs5, hs3, hSb, hbt⟩ := hrel
    have HL3 := Lib.hid hl3
    have HL4 := Lib.hid hl4
    have HL5 := Lib.hid hl5
    have HS4 := Lib.hid hs4
    have HS5 := Lib.hid hs5
    have HS3 := Lib.hid hs3
    have HSB := Lib.hid hSb
    have HBT := Lib.hid hbt
    clear hl3 hl4 hl5 hs4 hs5 hs3 hSb hbt
    by_cases hin : k < n ∧ k < 4
    · obtain ⟨hlt, hlt4⟩ := hin
      obtain ⟨sa, sn, sc, zs, hs, hlst, hzl, hnsc, hscm, hfit⟩ := HL.out k hlt
      obtain ⟨g, off, cap, hvv, hg, _, _, c0⟩ := HV.out k _ hs
      cases hvv
      have c1 : ∀ j, (wr.drewN j).cell? ⟨g, off + k, none⟩ = some (.slice sa sn sc) := fun j => (World.cell?_of_block (w := w) ((HBT.out.q.drewN j).block hg)).trans c0
      replace c0 : wr.cell? ⟨g, off + k, none⟩ = some (.slice sa sn sc) := (World.cell?_of_block (w := w) (HBT.out.q.block hg)).trans c0
      obtain ⟨p, hp⟩ : ∃ p : Nat, p = min sn 20 := ⟨_, rfl⟩
      have hr := hlst.take p (by omega)
      have hrl : (zs.take p).length = p := by rw [List.length_take]; omega
      have hrf : ∀ m ∈ zs.take p, -9223372036854775808 ≤ m ∧ m ≤ 9223372036854775807 := fun m hm => hfit m (List.mem_of_mem_take hm)
      generalize zs.take p = R at *
      have hcase : (sn ≤ 20 ∧ sn = p) ∨ (20 < sn ∧ p = 20) := by omega
      have hp20 : p ≤ 20 := by omega
      have hpsc : p ≤ sc := by omega
      have G := Lib.hid (fun w' (q : Q w w') => Dr.good_any _ R 20 w' (hr.q q) (by omega) (by omega) hrf)
      have M := Lib.hid (fun w' (q : Q w w') => Dr.may_any _ R w' (hr.q q) (by omega))
      have HSOK := Lib.hid (show (⟨sa, p, sc, R⟩ : Sl).ok w ∧ (⟨sa, p, sc, R⟩ : Sl).n ≤ 20 from ⟨⟨hr, hrl⟩, hp20⟩)
      have hXM : (Dm.gdL R 20).length ≤ 20 := by rw [Dm.gdL_len]; omega
      have kX := Dm.gdL_ok R 20
      have HSAME := Lib.hid (show Dm.okB R = true → Dm.num (Dm.gdL R 20) = Dm.num R from fun h => by
        have h1 : R.take 20 = R := List.take_of_length_le (by omega)
        rw [gdL_same R 20 (by rw [h1]; exact (Dm.okB_iff R).1 h), h1])
      generalize Dm.gdL R 20 = X at *
      obtain ⟨x, hx⟩ : ∃ x, x = X.length := ⟨_, rfl⟩
      have hnb := Dm.num_lt X kX
      have hnb2 : Dm.num X < 100000000000000000000 := Nat.lt_of_lt_of_le hnb (Nat.pow_le_pow_right (by omega) hXM)
      have hSb := HSB.out
      have hdl := Dm.dg_len_lt S 40 (by omega)
      have ad := fun va vb w h1 h2 => Dr.add_any va vb (Dm.dg S) X w h1 h2 (by omega) (by omega) (Dm.okD_dg _) kX
      rw [Dm.num_dg] at ad
      have AD := Lib.hid ad
      have HX := Lib.hid hx
      have HKX := Lib.hid (show X.length ≤ 20 ∧ Dm.okD X from ⟨hXM, kX⟩)
      have HSN := Lib.hid (show S + Dm.num X ≤ (k + 1) * 100000000000000000000 from by omega)
      have hl3 : raws.length < 1099511627776 := by rw [HL3.out]; omega
      have hl4 : owns.length < 1099511627776 := by rw [HL4.out]; omega
      have hl5 : ([⟨none, 0, 0, []⟩] : List Sl).length + turns.length < 1099511627776 := by rw [HL5.out]; show 1 + k < _; omega
      have L3 := Lib.hid hl3
      have L4 := Lib.hid hl4
      have L5 := Lib.hid hl5
      have hki : (k : Int) < (n : Int) := by omega
      clear hs hlst hzl hfit hr hrl hrf hXM kX hnb hnb2 hSb hdl ad hx hl3 hl4 hl5 hp
      have hmay : Dw.okA raws = false ∨ Dw.okA raws = true := by cases Dw.okA raws; exact .inl rfl; exact .inr rfl
      rcases hcase with ⟨g1, rfl⟩ | ⟨g1, rfl⟩
      all_goals
        rcases hmay with hm | hm
        · have HNEW := Lib.hid (show ∀ q : Nat, Dw.okA (raws ++ [⟨sa, q, sc, R⟩]) = false from fun q => by rw [okA_snoc, hm]; rfl)
          have hm1 := hm
          clear hm
          rw [hm1]
          clear hm1
          go_wp2_with fail
          go_quiet (fail)
          have hb0 := HBT.out.go ((Q.refl wr).drewN nq)
          generalize wr.drewN nq = z0 at *
          have HB0 := Lib.hid hb0
          clear hb0 c0 c1
          have hB := HB0.out.q.le
          have hg3 := HB0.out.g3
          go_wp2_with (at_builtin; refine gpush elemI hg3 rfl _ _ rfl ⟨sa, _, sc, R⟩ rfl (by rfl) (by rfl) L3.out hB ?_)
          intro u3' z1 hn3 hgr3 hat3
          have HB1 := Lib.hid (HB0.out.push3 HSOK.out hn3 hgr3 hat3)
          clear hn3 hgr3 hat3 hg3 hB
          go_wp2_with fail
          refine (G.out _ HB1.out.q).mono ?_
          rintro e z2 ⟨u10, rfl, ho, hq⟩
          obtain ⟨a10, c10, rfl, _, _⟩ := ho.lst.form0 HX.out.symm
          have HB2 := Lib.hid (HB1.out.go hq)
          have HS2 := Lib.hid (show (⟨a10, x, c10, X⟩ : Sl).own z2 w.heap.size from ⟨ho.mono HB1.out.q.le, HX.out.symm, by have := HKX.out.1; have := HX.out; show x ≤ 20; omega, HKX.out.2⟩)
          clear ho hq
          have hB2 := HB2.out.q.le
          have hg4 := HB2.out.g4
          go_wp2_with (at_builtin; refine gpush elemI hg4 rfl _ _ rfl ⟨a10, x, c10, X⟩ rfl (by rfl) (by rfl) L4.out hB2 ?_)
          intro u4' z3 hn4 hgr4 hat4
          have hp4 := HB2.out.push4 HS2.out hn4 hgr4 hat4
          have HB3 := Lib.hid hp4.1
          have HS3' := Lib.hid hp4.2
          clear hp4 hn4 hgr4 hat4 hg4 hB2
          go_wp2_with (at_builtin; refine gpush elemI (GOwn.nil 22 Sl.v z3 z3.heap.size) rfl _ _ rfl ⟨a10, x, c10, X⟩ rfl (by rfl) (by rfl) (by show 0 < 1099511627776; omega) (Nat.le_refl _) ?_)
          intro u11 z4 hn11 hgr11 hat11
          have hq34 : Q z3 z4 := (Q.refl z3).grown hgr11 (fun g h => by cases h)
          have hn11' : SO z4 z3.heap.size u11 [⟨a10, x, c10, X⟩] := hn11
          have HT4 := Lib.hid (GOwn.lst (GOwn.q HB3.out.g5 hq34))
          have hB4 := hq34.le
          go_wp2_with (at_builtin; refine gpushl elemI Sl.one hn11' HT4.out rfl _ _ rfl (by rfl) (by rfl) L5.out hB4 ?_)
          intro u5' z5 hn5 hgr5 hat5
          have hq35 : Q z3 z5 := hq34.grown hgr5 (fun g h => (GOwn.lt hn11' g h).1)
          have HB5 := Lib.hid (HB3.out.set5 hq35 (GOwn.mono hn5 HB3.out.q.le) (fun g h => (GOwn.lt hn5 g h).1) (fun t ht => by
            rcases List.mem_cons.1 ht with rfl | ht
            · exact HS3'.out.q hq35
            · exact (HB3.out.r5 t ht).q hq35))
          have HLX := Lib.hid (show Lst z5 (.slice a10 x c10) X from (HS3'.out.q hq35).1.lst)
          clear hn11 hn11' hgr11 hat11 hn5 hgr5 hat5 hq34 hq35 hB4
          go_wp2_with fail
          refine (AD.out _ _ _ HB5.out.o7.lst HLX.out).mono ?_
          rintro e z6 ⟨u7', rfl, ho6, hq6⟩
          have HB6 := Lib.hid (HB5.out.set7 hq6 (ho6.mono HB5.out.q.le))
          clear ho6 hq6
          go_wp2_with fail
          go_roundw
          case rel => exact ⟨k + 1, S + Dm.num X, _, _, _, by rw [HNEW.out], by go_num, by omega, by omega, by rw [List.length_append, HL3.out]; rfl, by rw [List.length_append, HL4.out]; rfl, by show turns.length + 1 = k + 1; rw [HL5.out], by rw [sumN_snoc, HS4.out], (sumN_cons _ _).trans (by show Dm.num X + Dw.sumN turns = S + Dm.num X; rw [HS5.out]; exact Nat.add_comm _ _), (fun h => by rw [HNEW.out] at h; exact Bool.noConfusion h), HSN.out, HB6.out⟩
          case measure => simp [intOf]; omega
        · have HNEW := Lib.hid (show ∀ q : Nat, Dw.okA (raws ++ [⟨sa, q, sc, R⟩]) = Dm.okB R from fun q => by rw [okA_snoc, hm]; rfl)
          have HSR := Lib.hid (show Dm.okB R = true → ∀ q : Nat, Dw.sumN (raws ++ [⟨sa, q, sc, R⟩]) = S + Dm.num X from fun h q => by rw [sumN_snoc, HS3.out hm, HSAME.out h])
          have hm1 := hm
          clear hm
          rw [hm1]
          clear hm1
          go_wp2_with fail
          go_quiet (fail)
          have hb0 := HBT.out.go ((Q.refl wr).drewN nq)
          generalize wr.drewN nq = z0 at *
          have HB0 := Lib.hid hb0
          clear hb0 c0 c1
          have MM := Lib.hid (M.out _ HB0.out.q)
          generalize Dm.okB R = r at *
          go_wp2_with fail
          refine MM.out.mono ?_
          rintro e y0 ⟨rfl, rfl⟩
          have hB := HB0.out.q.le
          have hg3 := HB0.out.g3
          go_wp2_with (at_builtin; refine gpush elemI hg3 rfl _ _ rfl ⟨sa, _, sc, R⟩ rfl (by rfl) (by rfl) L3.out hB ?_)
          intro u3' z1 hn3 hgr3 hat3
          have HB1 := Lib.hid (HB0.out.push3 HSOK.out hn3 hgr3 hat3)
          clear hn3 hgr3 hat3 hg3 hB
          go_wp2_with fail
          refine (G.out _ HB1.out.q).mono ?_
          rintro e z2 ⟨u10, rfl, ho, hq⟩
          obtain ⟨a10, c10, rfl, _, _⟩ := ho.lst.form0 HX.out.symm
          have HB2 := Lib.hid (HB1.out.go hq)
          have HS2 := Lib.hid (show (⟨a10, x, c10, X⟩ : Sl).own z2 w.heap.size from ⟨ho.mono HB1.out.q.le, HX.out.symm, by have := HKX.out.1; have := HX.out; show x ≤ 20; omega, HKX.out.2⟩)
          clear ho hq
          have hB2 := HB2.out.q.le
          have hg4 := HB2.out.g4
          go_wp2_with (at_builtin; refine gpush elemI hg4 rfl _ _ rfl ⟨a10, x, c10, X⟩ rfl (by rfl) (by rfl) L4.out hB2 ?_)
          intro u4' z3 hn4 hgr4 hat4
          have hp4 := HB2.out.push4 HS2.out hn4 hgr4 hat4
          have HB3 := Lib.hid hp4.1
          have HS3' := Lib.hid hp4.2
          clear hp4 hn4 hgr4 hat4 hg4 hB2
          go_wp2_with (at_builtin; refine gpush elemI (GOwn.nil 22 Sl.v z3 z3.heap.size) rfl _ _ rfl ⟨a10, x, c10, X⟩ rfl (by rfl) (by rfl) (by show 0 < 1099511627776; omega) (Nat.le_refl _) ?_)
          intro u11 z4 hn11 hgr11 hat11
          have hq34 : Q z3 z4 := (Q.refl z3).grown hgr11 (fun g h => by cases h)
          have hn11' : SO z4 z3.heap.size u11 [⟨a10, x, c10, X⟩] := hn11
          have HT4 := Lib.hid (GOwn.lst (GOwn.q HB3.out.g5 hq34))
          have hB4 := hq34.le
          go_wp2_with (at_builtin; refine gpushl elemI Sl.one hn11' HT4.out rfl _ _ rfl (by rfl) (by rfl) L5.out hB4 ?_)
          intro u5' z5 hn5 hgr5 hat5
          have hq35 : Q z3 z5 := hq34.grown hgr5 (fun g h => (GOwn.lt hn11' g h).1)
          have HB5 := Lib.hid (HB3.out.set5 hq35 (GOwn.mono hn5 HB3.out.q.le) (fun g h => (GOwn.lt hn5 g h).1) (fun t ht => by
            rcases List.mem_cons.1 ht with rfl | ht
            · exact HS3'.out.q hq35
            · exact (HB3.out.r5 t ht).q hq35))
          have HLX := Lib.hid (show Lst z5 (.slice a10 x c10) X from (HS3'.out.q hq35).1.lst)
          clear hn11 hn11' hgr11 hat11 hn5 hgr5 hat5 hq34 hq35 hB4
          go_wp2_with fail
          refine (AD.out _ _ _ HB5.out.o7.lst HLX.out).mono ?_
          rintro e z6 ⟨u7', rfl, ho6, hq6⟩
          have HB6 := Lib.hid (HB5.out.set7 hq6 (ho6.mono HB5.out.q.le))
          clear ho6 hq6
          go_wp2_with fail
          go_roundw
          case rel => exact ⟨k + 1, S + Dm.num X, _, _, _, by rw [HNEW.out], by go_num, by omega, by omega, by rw [List.length_append, HL3.out]; rfl, by rw [List.length_append, HL4.out]; rfl, by show turns.length + 1 = k + 1; rw [HL5.out], by rw [sumN_snoc, HS4.out], (sumN_cons _ _).trans (by show Dm.num X + Dw.sumN turns = S + Dm.num X; rw [HS5.out]; exact Nat.add_comm _ _), (fun h => HSR.out (by rw [HNEW.out] at h; exact h) _), HSN.out, HB6.out⟩
          case measure => simp [intOf]; omega
    · have hSb := HSB.out
      have hdl := Dm.dg_len_lt S 40 (by omega)
      have hr4 := HBT.out.r4
      have hr5 := HBT.out.r5
      have hr3 := HBT.out.r3
      have so := fun v w h => Dw.sum_any v owns w h (by rw [HL4.out]; omega) (fun s hs => by have := (hr4 s hs).2.2.1; omega) (okA_own hr4)
      rw [HS4.out] at so
      have st := fun v w h => Dw.sum_any v turns w h (by rw [HL5.out]; omega) (fun s hs => by have := (hr5 s hs).2.2.1; omega) (okA_own hr5)
      rw [HS5.out] at st
      have SO' := Lib.hid so
      have ST' := Lib.hid st
      have SRB := Lib.hid (fun v w h (hb : Dw.okA raws = false) => Dw.sum_bad v raws w h (by rw [HL3.out]; omega) (fun s hs => by have h1 := (hr3 s hs).1.2; have h2 := (hr3 s hs).2; omega) hb)
      have SRG := Lib.hid (fun v w h (hb : Dw.okA raws = true) => (by have e := Dw.sum_any v raws w h (by rw [HL3.out]; omega) (fun s hs => by have := (hr3 s hs).2; omega) hb; rwa [HS3.out hb] at e : Calls Try.prog 28 #[v] w fun e w' => ∃ u, e = .returned (.tuple #[u, .int .i64 0]) ∧ Lst w' u (Dm.dg S) ∧ Q w w'))
      have SM := Lib.hid (fun va vb w h1 h2 => Ur.same_any va vb (Dm.dg S) (Dm.dg S) w h1 h2 (by omega) (by omega))
      simp only [decide_true] at SM
      have LO := Lib.hid (fun w' (q : Q wr w') => HBT.out.ll4.q q)
      have LT := Lib.hid (fun w' (q : Q wr w') => HBT.out.ll5.q q)
      have LR := Lib.hid (fun w' (q : Q wr w') => HBT.out.ll3.q q)
      have LW := Lib.hid (fun w' (q : Q wr w') => HBT.out.o7.lst.q q)
      have Q0 := Lib.hid HBT.out.q
      have hmay : Dw.okA raws = false ∨ Dw.okA raws = true := by cases Dw.okA raws; exact .inl rfl; exact .inr rfl
      generalize Dm.dg S = A at *
      clear so st hSb hdl hr4 hr5 hr3 HBT HL3 HL4 HL5 HS3 HS4 HS5 HSB
      rcases (show ¬ k < n ∨ (k < n ∧ ¬ k < 4) from by omega) with h1 | ⟨h1, h2⟩
      all_goals
        clear hin
        rcases hmay with hm | hm
        · have SR2 := Lib.hid (fun v w h => SRB.out v w h hm)
          have hm1 := hm
          clear hm
          rw [hm1]
          clear hm1
          go_wp2_with fail
          refine (SO'.out _ _ (LO.out _ (Q.refl _))).mono ?_
          rintro e z1 ⟨u_a, rfl, hu, hq⟩
          have L1_o := Lib.hid (fun w' (q : Q z1 w') => LO.out w' (hq.trans q))
          clear LO
          have L1_t := Lib.hid (fun w' (q : Q z1 w') => LT.out w' (hq.trans q))
          clear LT
          have L1_r := Lib.hid (fun w' (q : Q z1 w') => LR.out w' (hq.trans q))
          clear LR
          have L1_w := Lib.hid (fun w' (q : Q z1 w') => LW.out w' (hq.trans q))
          clear LW
          have L1_a := Lib.hid (fun w' (q : Q z1 w') => Lst.q hu q)
          clear hu
          have Q1 := Lib.hid (Q0.out.trans hq)
          clear hq Q0
          go_wp2_with fail
          refine (ST'.out _ _ (L1_t.out _ (Q.refl _))).mono ?_
          rintro e z2 ⟨u_b, rfl, hu, hq⟩
          have L2_o := Lib.hid (fun w' (q : Q z2 w') => L1_o.out w' (hq.trans q))
          clear L1_o
          have L2_t := Lib.hid (fun w' (q : Q z2 w') => L1_t.out w' (hq.trans q))
          clear L1_t
          have L2_r := Lib.hid (fun w' (q : Q z2 w') => L1_r.out w' (hq.trans q))
          clear L1_r
          have L2_w := Lib.hid (fun w' (q : Q z2 w') => L1_w.out w' (hq.trans q))
          clear L1_w
          have L2_a := Lib.hid (fun w' (q : Q z2 w') => L1_a.out w' (hq.trans q))
          clear L1_a
          have L2_b := Lib.hid (fun w' (q : Q z2 w') => Lst.q hu q)
          clear hu
          have Q2 := Lib.hid (Q1.out.trans hq)
          clear hq Q1
          go_wp2_with fail
          refine (SR2.out _ _ (L2_r.out _ (Q.refl _))).mono ?_
          rintro e y0 ⟨rfl, rfl⟩
          go_wp2_with fail
          refine (SM.out _ _ _ (L2_a.out _ (Q.refl _)) (L2_w.out _ (Q.refl _))).mono ?_
          rintro e z3 ⟨rfl, hq⟩
          have L3_o := Lib.hid (fun w' (q : Q z3 w') => L2_o.out w' (hq.trans q))
          clear L2_o
          have L3_t := Lib.hid (fun w' (q : Q z3 w') => L2_t.out w' (hq.trans q))
          clear L2_t
          have L3_r := Lib.hid (fun w' (q : Q z3 w') => L2_r.out w' (hq.trans q))
          clear L2_r
          have L3_w := Lib.hid (fun w' (q : Q z3 w') => L2_w.out w' (hq.trans q))
          clear L2_w
          have L3_a := Lib.hid (fun w' (q : Q z3 w') => L2_a.out w' (hq.trans q))
          clear L2_a
          have L3_b := Lib.hid (fun w' (q : Q z3 w') => L2_b.out w' (hq.trans q))
          clear L2_b
          have Q3 := Lib.hid (Q2.out.trans hq)
          clear hq Q2
          go_wp2_with fail
          refine (SM.out _ _ _ (L3_b.out _ (Q.refl _)) (L3_w.out _ (Q.refl _))).mono ?_
          rintro e z4 ⟨rfl, hq⟩
          have L4_o := Lib.hid (fun w' (q : Q z4 w') => L3_o.out w' (hq.trans q))
          clear L3_o
          have L4_t := Lib.hid (fun w' (q : Q z4 w') => L3_t.out w' (hq.trans q))
          clear L3_t
          have L4_r := Lib.hid (fun w' (q : Q z4 w') => L3_r.out w' (hq.trans q))
          clear L3_r
          have L4_w := Lib.hid (fun w' (q : Q z4 w') => L3_w.out w' (hq.trans q))
          clear L3_w
          have L4_a := Lib.hid (fun w' (q : Q z4 w') => L3_a.out w' (hq.trans q))
          clear L3_a
          have L4_b := Lib.hid (fun w' (q : Q z4 w') => L3_b.out w' (hq.trans q))
          clear L3_b
          have Q4 := Lib.hid (Q3.out.trans hq)
          clear hq Q3
          go_wp2_with fail
          refine (LV.out _).mono ?_
          rintro e z5 ⟨rfl, hq⟩
          have L5_o := Lib.hid (fun w' (q : Q z5 w') => L4_o.out w' (hq.trans q))
          clear L4_o
          have L5_t := Lib.hid (fun w' (q : Q z5 w') => L4_t.out w' (hq.trans q))
          clear L4_t
          have L5_r := Lib.hid (fun w' (q : Q z5 w') => L4_r.out w' (hq.trans q))
          clear L4_r
          have L5_w := Lib.hid (fun w' (q : Q z5 w') => L4_w.out w' (hq.trans q))
          clear L4_w
          have L5_a := Lib.hid (fun w' (q : Q z5 w') => L4_a.out w' (hq.trans q))
          clear L4_a
          have L5_b := Lib.hid (fun w' (q : Q z5 w') => L4_b.out w' (hq.trans q))
          clear L4_b
          have Q5 := Lib.hid (Q4.out.trans hq)
          clear hq Q4
          go_wp2_with fail
          go_ret
          exact ⟨rfl, Q5.out⟩
        · have SR2 := Lib.hid (fun v w h => SRG.out v w h hm)
          have hm1 := hm
          clear hm
          rw [hm1]
          clear hm1
          go_wp2_with fail
          refine (SO'.out _ _ (LO.out _ (Q.refl _))).mono ?_
          rintro e z1 ⟨u_a, rfl, hu, hq⟩
          have L1_o := Lib.hid (fun w' (q : Q z1 w') => LO.out w' (hq.trans q))
          clear LO
          have L1_t := Lib.hid (fun w' (q : Q z1 w') => LT.out w' (hq.trans q))
          clear LT
          have L1_r := Lib.hid (fun w' (q : Q z1 w') => LR.out w' (hq.trans q))
          clear LR
          have L1_w := Lib.hid (fun w' (q : Q z1 w') => LW.out w' (hq.trans q))
          clear LW
          have L1_a := Lib.hid (fun w' (q : Q z1 w') => Lst.q hu q)
          clear hu
          have Q1 := Lib.hid (Q0.out.trans hq)
          clear hq Q0
          go_wp2_with fail
          refine (ST'.out _ _ (L1_t.out _ (Q.refl _))).mono ?_
          rintro e z2 ⟨u_b, rfl, hu, hq⟩
          have L2_o := Lib.hid (fun w' (q : Q z2 w') => L1_o.out w' (hq.trans q))
          clear L1_o
          have L2_t := Lib.hid (fun w' (q : Q z2 w') => L1_t.out w' (hq.trans q))
          clear L1_t
          have L2_r := Lib.hid (fun w' (q : Q z2 w') => L1_r.out w' (hq.trans q))
          clear L1_r
          have L2_w := Lib.hid (fun w' (q : Q z2 w') => L1_w.out w' (hq.trans q))
          clear L1_w
          have L2_a := Lib.hid (fun w' (q : Q z2 w') => L1_a.out w' (hq.trans q))
          clear L1_a
          have L2_b := Lib.hid (fun w' (q : Q z2 w') => Lst.q hu q)
          clear hu
          have Q2 := Lib.hid (Q1.out.trans hq)
          clear hq Q1
          go_wp2_with fail
          refine (SR2.out _ _ (L2_r.out _ (Q.refl _))).mono ?_
          rintro e z3 ⟨u_c, rfl, hu, hq⟩
          have L3_o := Lib.hid (fun w' (q : Q z3 w') => L2_o.out w' (hq.trans q))
          clear L2_o
          have L3_t := Lib.hid (fun w' (q : Q z3 w') => L2_t.out w' (hq.trans q))
          clear L2_t
          have L3_r := Lib.hid (fun w' (q : Q z3 w') => L2_r.out w' (hq.trans q))
          clear L2_r
          have L3_w := Lib.hid (fun w' (q : Q z3 w') => L2_w.out w' (hq.trans q))
          clear L2_w
          have L3_a := Lib.hid (fun w' (q : Q z3 w') => L2_a.out w' (hq.trans q))
          clear L2_a
          have L3_b := Lib.hid (fun w' (q : Q z3 w') => L2_b.out w' (hq.trans q))
          clear L2_b
          have L3_c := Lib.hid (fun w' (q : Q z3 w') => Lst.q hu q)
          clear hu
          have Q3 := Lib.hid (Q2.out.trans hq)
          clear hq Q2
          go_wp2_with fail
          refine (SM.out _ _ _ (L3_a.out _ (Q.refl _)) (L3_w.out _ (Q.refl _))).mono ?_
          rintro e z4 ⟨rfl, hq⟩
          have L4_o := Lib.hid (fun w' (q : Q z4 w') => L3_o.out w' (hq.trans q))
          clear L3_o
          have L4_t := Lib.hid (fun w' (q : Q z4 w') => L3_t.out w' (hq.trans q))
          clear L3_t
          have L4_r := Lib.hid (fun w' (q : Q z4 w') => L3_r.out w' (hq.trans q))
          clear L3_r
          have L4_w := Lib.hid (fun w' (q : Q z4 w') => L3_w.out w' (hq.trans q))
          clear L3_w
          have L4_a := Lib.hid (fun w' (q : Q z4 w') => L3_a.out w' (hq.trans q))
          clear L3_a
          have L4_b := Lib.hid (fun w' (q : Q z4 w') => L3_b.out w' (hq.trans q))
          clear L3_b
          have L4_c := Lib.hid (fun w' (q : Q z4 w') => L3_c.out w' (hq.trans q))
          clear L3_c
          have Q4 := Lib.hid (Q3.out.trans hq)
          clear hq Q3
          go_wp2_with fail
          refine (SM.out _ _ _ (L4_b.out _ (Q.refl _)) (L4_w.out _ (Q.refl _))).mono ?_
          rintro e z5 ⟨rfl, hq⟩
          have L5_o := Lib.hid (fun w' (q : Q z5 w') => L4_o.out w' (hq.trans q))
          clear L4_o
          have L5_t := Lib.hid (fun w' (q : Q z5 w') => L4_t.out w' (hq.trans q))
          clear L4_t
          have L5_r := Lib.hid (fun w' (q : Q z5 w') => L4_r.out w' (hq.trans q))
          clear L4_r
          have L5_w := Lib.hid (fun w' (q : Q z5 w') => L4_w.out w' (hq.trans q))
          clear L4_w
          have L5_a := Lib.hid (fun w' (q : Q z5 w') => L4_a.out w' (hq.trans q))
          clear L4_a
          have L5_b := Lib.hid (fun w' (q : Q z5 w') => L4_b.out w' (hq.trans q))
          clear L4_b
          have L5_c := Lib.hid (fun w' (q : Q z5 w') => L4_c.out w' (hq.trans q))
          clear L4_c
          have Q5 := Lib.hid (Q4.out.trans hq)
          clear hq Q4
          go_wp2_with fail
          refine (SM.out _ _ _ (L5_c.out _ (Q.refl _)) (L5_w.out _ (Q.refl _))).mono ?_
          rintro e z6 ⟨rfl, hq⟩
          have L6_o := Lib.hid (fun w' (q : Q z6 w') => L5_o.out w' (hq.trans q))
          clear L5_o
          have L6_t := Lib.hid (fun w' (q : Q z6 w') => L5_t.out w' (hq.trans q))
          clear L5_t
          have L6_r := Lib.hid (fun w' (q : Q z6 w') => L5_r.out w' (hq.trans q))
          clear L5_r
          have L6_w := Lib.hid (fun w' (q : Q z6 w') => L5_w.out w' (hq.trans q))
          clear L5_w
          have L6_a := Lib.hid (fun w' (q : Q z6 w') => L5_a.out w' (hq.trans q))
          clear L5_a
          have L6_b := Lib.hid (fun w' (q : Q z6 w') => L5_b.out w' (hq.trans q))
          clear L5_b
          have L6_c := Lib.hid (fun w' (q : Q z6 w') => L5_c.out w' (hq.trans q))
          clear L5_c
          have Q6 := Lib.hid (Q5.out.trans hq)
          clear hq Q5
          go_wp2_with fail
          refine (LV.out _).mono ?_
          rintro e z7 ⟨rfl, hq⟩
          have L7_o := Lib.hid (fun w' (q : Q z7 w') => L6_o.out w' (hq.trans q))
          clear L6_o
          have L7_t := Lib.hid (fun w' (q : Q z7 w') => L6_t.out w' (hq.trans q))
          clear L6_t
          have L7_r := Lib.hid (fun w' (q : Q z7 w') => L6_r.out w' (hq.trans q))
          clear L6_r
          have L7_w := Lib.hid (fun w' (q : Q z7 w') => L6_w.out w' (hq.trans q))
          clear L6_w
          have L7_a := Lib.hid (fun w' (q : Q z7 w') => L6_a.out w' (hq.trans q))
          clear L6_a
          have L7_b := Lib.hid (fun w' (q : Q z7 w') => L6_b.out w' (hq.trans q))
          clear L6_b
          have L7_c := Lib.hid (fun w' (q : Q z7 w') => L6_c.out w' (hq.trans q))
          clear L6_c
          have Q7 := Lib.hid (Q6.out.trans hq)
          clear hq Q6
          go_wp2_with fail
          go_ret
          exact ⟨rfl, Q7.out⟩

set_option maxRecDepth 100000 in
theorem lifted (os : Os) (started : os.Started) (H : Type) (enc : TypeId × Value → H) :
    ReturnsInHanded {} Try.checked os 6 .any (Rows.digitSumsSpec.pre6 enc Try.prog Try.f6 Rows.digitSumsRow.domain false) (Rows.digitSumsSpec.post enc Try.prog Try.f6 false true false false) := by
  refine returnsInHanded_of_change (C := Try.checked) own started (by kernel_rfl) Try.func6
    (ChangeSpec.witness6 (enc := enc) (C := Try.checked) false ⟨#[], #[.slice none 0 0], []⟩ 8 (by kernel_rfl) (by kernel_rfl) (by kernel_rfl) (by kernel_rfl)) ?_
  intro W base args ds gs before hval0 hW hcnd _
  have hval : ∀ (j : Nat) t v, Try.f6.params[j]? = some t → args[j]? = some v → Value.okWide Try.prog W .any base t v := hval0
  have hW' := hW
  obtain ⟨p, q, hA0, hV, rfl, hfz, hnd⟩ := hW
  have hA : DataW.TrodAll enc Try.prog W 0 (fun _ => true) true Try.f6.params.toList args.toList ds p := hA0
  rw [Try.params6] at hA hval
  obtain ⟨v0, vs0, d0, ds0, p0, q0, hargs, rfl, rfl, h0, r0⟩ := trodAll_cons hA
  obtain ⟨rfl, rfl, rfl⟩ := trodAll_nil r0
  obtain rfl : args = #[v0] := by cases args; simp_all
  obtain ⟨rfl, rfl⟩ := trodVars_none hV
  obtain ⟨a0, len0, cap0, rfl⟩ := okWide_slice Try.underlying39 (hval 0 39 v0 rfl rfl)
  have k0 := h0
  have lt0 : ∀ x ∈ p0, x.block < W.heap.size := by obtain ⟨m, hm⟩ := k0; exact DataW.trod_lt m _ _ _ hm
  obtain ⟨ls0, l0, b0⟩ : ∃ ls, LL W (.slice a0 len0 cap0) ls ∧ Fits ls := by
    obtain ⟨fuel, hf⟩ := h0
    rcases Deep.open_int_rows Try.underlying39 Try.underlying22 Try.underlying3 (by kernel_rfl) (by kernel_rfl) hf with ⟨hcs, _⟩ | ⟨x, l, c, A, L, C, Z, hcs, _, hl, hm, _, hrow⟩
    · simp [Value.cells] at hcs
      obtain ⟨rfl, rfl, rfl⟩ := hcs
      exact ⟨[], LL.none W, fun s hs => absurd hs List.not_mem_nil⟩
    · simp [Value.cells] at hcs
      obtain ⟨rfl, rfl, rfl⟩ := hcs
      exact rows_open W _ x _ _ A L C Z hl hm hrow
  clear hA0 hval0
  refine (walk W (.slice a0 len0 cap0) ls0 l0 b0).mono fun e W' ⟨he, bel⟩ => ?_
  subst he
  exact ⟨_, rfl, _, _, _, [], _, [], hW', trodAll_mk1 (shut_bool Try.underlying4 _), (trodAll_cons_mk (Below.trod laidOut (by kernel_rfl) (of_decide_eq_true (by kernel_rfl)) k0 bel lt0) trodAll_mk0), rfl, bel.below.frame _, fun h => by cases h⟩

/-- The statement. -/
theorem proved : Rows.DigitSumsSaid :=
  OpenClaim.holds_of_wide 6 Try.f6 rfl rfl rfl rfl rfl rfl rfl ⟨rfl, rfl, rfl, rfl, rfl⟩ rfl rfl rfl rfl rfl (by kernel_rfl) Try.func6 (by kernel_rfl)
    (of_decide_eq_true (by kernel_rfl)) (by unfold Func.isWrapper; first | (rw [if_pos (by decide +kernel)]; kernel_rfl) | (rw [if_neg (by decide +kernel)]; exact ⟨rfl, rfl⟩))
    (fun os started H enc _ => lifted os started H enc)
#print axioms proved
end Go.Proofs.Ytcdpgibemkbclaa.digitSums
