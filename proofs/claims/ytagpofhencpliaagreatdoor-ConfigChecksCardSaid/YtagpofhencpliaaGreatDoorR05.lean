/- What the document's own answers on one list of digits come to, by a walk through each. (and more) -/
import Derived.Test.YtagpofhencpliaaGreatDoorR00
import Derived.Test.YtagpofhencpliaaGreatDoorR02
import Derived.Test.YtagpofhencpliaaGreatDoorR03
import Derived.Test.YtagpofhencpliaaGreatDoorRows
import Derived.Test.YtagpofhencpliaaGreatDoorR04
import Derived.Deep.QuietTactic
import Derived.Deep.RegionWith
import Derived.BigQuiet
import Derived.Laws.CopyOwn
import Derived.Laws.Tables
set_option linter.unusedVariables false
set_option linter.unusedSimpArgs false
namespace Go.Proofs.YtagpofhencpliaaGreatDoor
open Go.RowKit
namespace Dm
def gdL (xs : List Int) (m : Nat) : List Int := (xs.take m).map fun x => Um.around x 10
theorem gdL_len (xs : List Int) (m : Nat) : (gdL xs m).length = min m xs.length := by unfold gdL; rw [List.length_map, List.length_take]
theorem gdL_ok (xs : List Int) (m : Nat) : okD (gdL xs m) := by
  intro d hd
  obtain ⟨x, hx, rfl⟩ := List.mem_map.1 hd
  have := Um.around_bd x 10 (by omega)
  omega
theorem gdL_snoc (xs : List Int) (k : Nat) (hk : k < xs.length) : gdL xs (k + 1) = gdL xs k ++ [Um.around (xs.getD k 0) 10] := by
  unfold gdL
  rw [List.take_succ_eq_append_getElem hk, List.map_append, List.getD_eq_getElem?_getD, List.getElem?_eq_getElem hk]; rfl
theorem gdL_min (xs : List Int) (m : Nat) : gdL xs (min m xs.length) = gdL xs m := by
  unfold gdL
  rcases Nat.le_total m xs.length with h | h
  · rw [Nat.min_eq_left h]
  · rw [Nat.min_eq_right h, List.take_length, List.take_of_length_le h]
end Dm
namespace Dr
set_option maxHeartbeats 800000 in
theorem may_any (v : Value) (xs : List Int) (w : World) (hv : Lst w v xs) (hl : xs.length < 1099511627776) :
    Calls Tryz.prog 65 #[v] w fun e w' => e = .returned (.bool (Dm.okB xs)) ∧ w = w' := by
  obtain ⟨a, c, rfl⟩ := hv.shape
  obtain ⟨n, hn⟩ : ∃ n, n = xs.length := ⟨_, rfl⟩
  obtain ⟨r, hr⟩ : ∃ r, r = Dm.okB xs := ⟨_, rfl⟩
  rw [← hr]
  have HB := Lib.hid (Dm.okB_bad xs)
  have HO := Lib.hid (Dm.okB_on xs)
  have HE := Lib.hid (Dm.okB_end xs)
  have HR := Lib.hid hr
  rw [← hn] at hv hl HB HO HE ⊢
  have HV := Lib.hid (fun k h => hv.cellOf (n := n) (k := k) hn.symm h)
  clear hv hn hr
  go_enter Tryz.func65, Tryz.ntmps65
  go_wp2_with fail
  go_loop [3] (fun i => ∃ k : Nat, i = .int .i64 k ∧ k ≤ n ∧ Dm.okB (xs.drop k) = r) (fun i => n - (intOf i).toNat)
  case atStart => exact ⟨0, rfl, by omega, by rw [HR.out]; rfl⟩
  case round =>
    obtain ⟨k, rfl, hk, hc⟩ := hrel
    have HC := Lib.hid hc
    clear hc
    by_cases hlt : k < n
    · obtain ⟨g, off, cap, hvv, hg, _, _, c1⟩ := HV.out k hlt
      cases hvv
      have hb := HB.out k hlt
      have ho := HO.out k hlt
      obtain ⟨y, hy⟩ : ∃ y, y = xs.getD k 0 := ⟨_, rfl⟩
      rw [← hy] at c1 hb ho
      clear hy
      have HB1 := Lib.hid hb
      have HO1 := Lib.hid ho
      clear hb ho
      by_cases h1 : y < 0
      · have HF : Hid (r = false) := Lib.hid (by rw [← HC.out]; exact HB1.out (by omega))
        go_wp2_with fail
        go_ret
        rw [HF.out]
        exact ⟨rfl, rfl⟩
      · by_cases h2 : 9 < y
        · have HF : Hid (r = false) := Lib.hid (by rw [← HC.out]; exact HB1.out (by omega))
          have h3 : 10 ≤ y := h2
          go_wp2_with fail
          go_ret
          rw [HF.out]
          exact ⟨rfl, rfl⟩
        · have HN := Lib.hid ((HO1.out (by omega)).symm.trans HC.out)
          have h3 : ¬ 10 ≤ y := by omega
          go_wp2_with fail
          exact ⟨⟨k + 1, by go_num, by omega, HN.out⟩, by simp [intOf]; omega⟩
    · have HF : Hid (r = true) := Lib.hid (by rw [← HC.out]; exact HE.out k (by omega))
      go_wp2_with fail
      go_ret
      rw [HF.out]
      exact ⟨rfl, rfl⟩
set_option maxHeartbeats 1600000 in
theorem good_any (v : Value) (xs : List Int) (m : Nat) (w : World) (hv : Lst w v xs) (hl : xs.length ≤ 9223372036854775807) (hm : m < 1000000) (hb : ∀ n ∈ xs, -9223372036854775808 ≤ n ∧ n ≤ 9223372036854775807) :
    Calls Tryz.prog 38 #[v, .int .i64 m] w fun e w' => ∃ u, e = .returned u ∧ Own w' w.heap.size u (Dm.gdL xs m) ∧ Q w w' := by
  obtain ⟨n, hn⟩ : ∃ n, n = xs.length := ⟨_, rfl⟩
  obtain ⟨a, c, rfl, hnc, hcm⟩ := hv.form0 hn.symm
  have HV := Lib.hid (fun k (hk : k < n) => hv.cellOf (n := n) (k := k) hn.symm hk)
  have HB := Lib.hid (fun k (hk : k < n) => (by rw [List.getD_eq_getElem?_getD, List.getElem?_eq_getElem (by omega)]; exact hb _ (List.getElem_mem _) : -9223372036854775808 ≤ xs.getD k 0 ∧ xs.getD k 0 ≤ 9223372036854775807))
  have HS := Lib.hid (fun k (hk : k < n) => Dm.gdL_snoc xs k (by omega))
  have HE := Lib.hid (fun k (h1 : k = min m n) => (by rw [h1, hn]; exact Dm.gdL_min xs m : Dm.gdL xs k = Dm.gdL xs m))
  have HL := Lib.hid (fun k => (by rw [Dm.gdL_len, ← hn] : (Dm.gdL xs k).length = min k n))
  have HA := Lib.hid (fun x w h0 h1 => Ur.around_any x 10 w h0 h1 (by omega) (by omega))
  rw [← hn] at hl
  unfold maxLen at hcm
  clear hv hn hb
  go_enter Tryz.func38, Tryz.ntmps38
  go_wp2_with fail
  go_loopw [5, 6] (fun u t wr => ∃ k : Nat, t = .int .i64 k ∧ k ≤ n ∧ k ≤ m ∧ Own wr w.heap.size u (Dm.gdL xs k) ∧ Q w wr) (fun _ t _ => n - (intOf t).toNat)
  case atStart => exact ⟨0, rfl, by omega, by omega, Own.nil _ _, Q.refl _⟩
  case round =>
    obtain ⟨k, rfl, hk, hkm, ho, hq⟩ := hrel
    by_cases hlt : k < n
    · by_cases hlm : k < m
      · obtain ⟨g, off, cap, hvv, hg, _, _, c0⟩ := HV.out k hlt
        cases hvv
        have c1 := (World.cell?_of_block (w := w) (hq.block hg) (a := ⟨g, off + k, none⟩)).trans c0
        have hbk := HB.out k hlt
        have hs := HS.out k hlt
        generalize xs.getD k 0 = x at *
        have HS2 := Lib.hid hs
        have hwl : (Dm.gdL xs k).length < 1099511627776 := by rw [HL.out]; omega
        have hB := hq.le
        have HAR := Lib.hid (HA.out x wr hbk.1 hbk.2)
        have HQ := Lib.hid hq
        clear hs c0 hbk
        generalize Um.around x 10 = y at *
        go_wp2_with fail
        refine HAR.out.mono ?_
        rintro e w1 ⟨rfl, rfl⟩
        go_wp2_with (at_builtin; refine push_int ho rfl _ _ rfl _ (by rfl) (by rfl) hwl hB ?_)
        intro v2 w2 ho2 hg2 hat2
        rw [← HS2.out] at ho2
        have HO2 := Lib.hid ho2
        have HQ2 := Lib.hid (HQ.out.grown hg2 (fun g h => (ho.lt g h).1))
        clear ho ho2 hg2 hat2
        go_wp2_with fail
        exact ⟨⟨k + 1, by go_num, by omega, by omega, HO2.out, HQ2.out⟩, by simp [intOf]; omega⟩
      · have he := HE.out k (by omega)
        rw [he] at ho
        have HO := Lib.hid ho
        have HQ := Lib.hid hq
        clear he ho hq
        go_wp2_with fail
        go_ret
        exact ⟨_, rfl, HO.out, HQ.out⟩
    · have he := HE.out k (by omega)
      rw [he] at ho
      have HO := Lib.hid ho
      have HQ := Lib.hid hq
      clear he ho hq
      go_wp2_with fail
      go_ret
      exact ⟨_, rfl, HO.out, HQ.out⟩
set_option maxHeartbeats 1600000 in
theorem trim_any (v : Value) (xs : List Int) (w : World) (hv : Lst w v xs) (hl : xs.length < 1099511627776) :
    Calls Tryz.prog 53 #[v] w fun e w' => ∃ u, e = .returned u ∧ Own w' w.heap.size u (Dm.trimL xs) ∧ Q w w' := by
  obtain ⟨n, hn⟩ : ∃ n, n = xs.length := ⟨_, rfl⟩
  obtain ⟨a, c, rfl, hnc, hcm⟩ := hv.form0 hn.symm
  have HV := Lib.hid (fun k (hk : k < n) => hv.cellOf (n := n) (k := k) hn.symm hk)
  have HS := Lib.hid (Dm.zer_step xs)
  have HH := Lib.hid (Dm.zer_hit xs)
  have hzl := Dm.zer_le xs
  have htd := Dm.trim_drop xs
  have htl := Dm.trim_len xs
  generalize Dm.zer xs = z at *
  rw [← hn] at HS HH hzl htl hl
  have hrest := hv.rest hn.symm hzl
  have hwl : ([] : List Int).length + (Dm.trimL xs).length < 1099511627776 := by rw [htl]; show 0 + (n - z) < _; omega
  have HW := Lib.hid hwl
  have HTD := Lib.hid htd
  have hol := Own.nil w w.heap.size
  have HRS := Lib.hid hrest
  unfold maxLen at hcm
  clear hv hn htd htl hwl hrest
  have hzc : (z : Int) ≤ (c : Int) := by omega
  go_enter Tryz.func53, Tryz.ntmps53
  go_wp2_with fail
  go_loop [3] (fun i => ∃ k : Nat, i = .int .i64 k ∧ k ≤ n ∧ k ≤ z) (fun i => n - (intOf i).toNat)
  case atStart => exact ⟨0, rfl, by omega, by omega⟩
  case round =>
    obtain ⟨k, rfl, hk, hkz⟩ := hrel
    by_cases hlt : k < n
    · obtain ⟨g, off, cap, hvv, hg, _, _, c1⟩ := HV.out k hlt
      cases hvv
      have hs := HS.out k hkz hlt
      have hh := HH.out k hkz hlt
      obtain ⟨y, hy⟩ : ∃ y, y = xs.getD k 0 := ⟨_, rfl⟩
      rw [← hy] at c1 hs hh
      clear hy
      by_cases hy0 : y = 0
      · have h1 := hs hy0
        have e1 : (y == 0) = true := by rw [hy0]; rfl
        clear hs hh hy0
        go_wp2_with fail
        exact ⟨⟨k + 1, by go_num, by omega, h1⟩, by simp [intOf]; omega⟩
      · have hz := hh hy0
        have e1 : (y == 0) = false := beq_eq_false_iff_ne.2 hy0
        subst hz
        have hrest := HRS.out
        rcases hrest with ⟨g2, off2, he, hlt2, _, _, hr⟩ | ⟨he, _⟩ | ⟨_, _, he, _⟩
        · cases he
          rw [← HTD.out] at hr
          have HR := Lib.hid hr
          have hne : ¬ (c = z) := by omega
          have hne2 : ¬ (c - z = 0) := by omega
          have hzn : (z : Int) ≤ (n : Int) := by omega
          clear hs hh hy0 hr
          go_wp2_with (at_builtin; refine push_list hol HR.out rfl _ _ rfl (by rfl) (by rfl) HW.out (Nat.le_refl _) ?_)
          intro u w2 hu hg2 hat2
          go_wp2_with fail
          go_ret
          exact ⟨_, rfl, hu, (Q.refl w).grown hg2 (fun k hk => by cases hk)⟩
        · omega
        · omega
    · have hz : z = k := by omega
      subst hz
      have hrest := HRS.out
      rcases hrest with ⟨g2, off2, he, hlt2, _, _, hr⟩ | ⟨rfl, rfl, he⟩ | ⟨ad, rfl, rfl, hlt2, _, he⟩
      · omega
      · have HE := Lib.hid (HTD.out.trans he)
        have hX : ∀ a : Option Addr, Lst w (.slice a 0 0) [] := fun a => .nil w a 0 (by unfold maxLen; omega) (fun _ => rfl)
        cases a
        all_goals
          go_wp2_with (at_builtin; refine push_list hol (hX _) rfl _ _ rfl (by rfl) (by rfl) (by show 0 + 0 < 1099511627776; omega) (Nat.le_refl _) ?_)
          intro u w2 hu hg2 hat2
          go_wp2_with fail
          go_ret
          exact ⟨_, rfl, by rw [HE.out]; exact hu, (Q.refl w).grown hg2 (fun k hk => by cases hk)⟩
      · have HE := Lib.hid (HTD.out.trans he)
        have hne : ¬ (c = z) := by omega
        have hne2 : ¬ (c - z = 0) := by omega
        have hX : Lst w (.slice (some (ad.add z)) 0 (c - z)) [] := .nil w _ _ (by unfold maxLen; omega) (fun h => by cases h)
        go_wp2_with (at_builtin; refine push_list hol hX rfl _ _ rfl (by rfl) (by rfl) (by show 0 + 0 < 1099511627776; omega) (Nat.le_refl _) ?_)
        intro u w2 hu hg2 hat2
        go_wp2_with fail
        go_ret
        exact ⟨_, rfl, by rw [HE.out]; exact hu, (Q.refl w).grown hg2 (fun k hk => by cases hk)⟩
end Dr
end Go.Proofs.YtagpofhencpliaaGreatDoor
namespace Go.Proofs.YtagpofhencpliaaGreatDoor
open Go.RowKit
theorem ld_row {o : Oper} {a : Act} {T : TypeId} {x : Operand} {b : Nat} {l : List Value} {uz : World} {fs : _} (ho : o.op = .load T x) (hx : a.eval x = .pointer (some ⟨b, 0, none⟩))
    (hB : Bk uz b T l) (hu : Tryz.prog.underlying T = some (.struct fs)) (hi : (Tryz.prog.info? T).map (·.size) = some l.length) :
    (execOp a.eval o).run Tryz.prog uz = .ok (.value (.agg l.toArray)) uz := by
  have h := run_loadVar_row uz b T T l.toArray (0, 0) _ hB hu rfl (by simpa using hi)
  unfold execOp
  simp only [ho, hx, Instr.loadAt, Instr.sureAddr, Sem.run_bind, Sem.run_pure, Result.andThen_ok, h]
end Go.Proofs.YtagpofhencpliaaGreatDoor
namespace Go.Proofs.YtagpofhencpliaaGreatDoor
open Go.RowKit
namespace Rw
theorem all1 {l : List Value} (h : l.all (·.oneCell') = true) : l.toArray.all (·.oneCell') = true := by simpa using h
theorem Q_row {w u : World} (h : Q w u) {b : Nat} (hb : w.heap.size ≤ b) (cs : Array Value) : Q w (u.setRow b cs) := below_setRow h hb cs
theorem Bk_row {u : World} {b : Nat} {T : TypeId} {l : List Value} (h : Bk u b T l) (l' : List Value) : Bk (u.setRow b l'.toArray) b T l' := setRow_heap u b l.toArray l'.toArray T (0, 0) h
end Rw
end Go.Proofs.YtagpofhencpliaaGreatDoor
