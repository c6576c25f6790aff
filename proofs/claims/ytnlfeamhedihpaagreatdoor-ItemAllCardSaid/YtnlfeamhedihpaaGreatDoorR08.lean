/- The statements' own as and same on items. (and more) -/
import Derived.Test.YtnlfeamhedihpaaGreatDoorR00
import Derived.Test.YtnlfeamhedihpaaGreatDoorR02
import Derived.Test.YtnlfeamhedihpaaGreatDoorR01
import Derived.Test.YtnlfeamhedihpaaGreatDoorR07
import Derived.Test.YtnlfeamhedihpaaGreatDoorR03
import Derived.Test.YtnlfeamhedihpaaGreatDoorRows
import Derived.Deep.RegionHeld
import Derived.Deep.Cut
import Derived.Deep.QuietTactic
import Derived.Deep.RegionWith
import Derived.BigQuiet
set_option linter.unusedVariables false
set_option linter.unusedSimpArgs false
namespace Go.Proofs.YtnlfeamhedihpaaGreatDoor
open Go.RowKit
namespace It
open Um Im
set_option maxHeartbeats 1600000 in
theorem as_any (v : Value) (l : List E) (w : World) (hv : LstI w v l) (hl : l.length ≤ 1000000) :
    Calls Tryz.prog 13 #[v] w fun e w' => ∃ x, e = .returned x ∧ OwnI 75 w' w.heap.size x l ∧ Q w w' := by
  obtain ⟨n, hn⟩ : ∃ n, n = l.length := ⟨_, rfl⟩
  obtain ⟨a, cp, rfl, hc1, hc2⟩ := hv.form0 hn.symm
  have HV := Lib.hid (fun u (q : Q w u) k (h : k < n) => (hv.q q).cellOf hn.symm h)
  obtain ⟨T, hT⟩ : ∃ T : Nat → List E, T = fun k => l.take k := ⟨_, rfl⟩
  have HT1 := Lib.hid (show l = T n by rw [hT, hn]; simp)
  have HTS := Lib.hid (show ∀ k, k < n → T (k + 1) = T k ++ [l.getD k e0] from fun k hk => by
    rw [hT]
    dsimp only
    rw [List.take_add_one, List.getElem?_eq_getElem (by omega), List.getD_eq_getElem?_getD, List.getElem?_eq_getElem (by omega)]
    rfl)
  have HTL := Lib.hid (show ∀ k, k ≤ n → (T k).length = k from fun k hk => by rw [hT]; simp; omega)
  have HT0 := Lib.hid (show T 0 = [] by rw [hT]; rfl)
  rw [← hn] at hl
  unfold maxLen at hc2
  clear hn hv hT
  go_enter Tryz.func13, Tryz.ntmps13
  go_wp2_with fail
  go_loopw [3, 4] (fun x i wr => ∃ k : Nat, i = .int .i64 k ∧ k ≤ n ∧ OwnI 75 wr w.heap.size x (T k) ∧ Q w wr) (fun _ i _ => n - (intOf i).toNat)
  case atStart => exact ⟨0, rfl, by omega, by rw [HT0.out]; exact OwnI.nil _ _ _, Q.refl _⟩
  case round =>
    obtain ⟨k, rfl, hk, ho, hq⟩ := hrel
    by_cases hlt : k < n
    · obtain ⟨g, off, cap, hvv, hg, _, _, c1, c2, c3⟩ := HV.out wr hq k hlt
      cases hvv
      have HTS1 := Lib.hid (HTS.out k hlt)
      have HLK := Lib.hid (HTL.out k hk)
      generalize l.getD k e0 = x at *
      obtain ⟨xa, xt, xb⟩ := x
      dsimp only at c1 c2 c3
      obtain ⟨oa, oc, rfl, _, _⟩ := ho.lst.form0 HLK.out
      have HO := Lib.hid ho
      have HQ := Lib.hid hq
      have hle := hq.le
      clear ho hq
      go_wp2_with (at_builtin; refine Im.push elR HO.out rfl _ _ rfl xa xt xb (by rfl) (by rfl) (by rw [HLK.out]; omega) hle ?_)
      intro v' w3 ho3 hg3 hat3
      have HQ3 := Lib.hid (HQ.out.grown hg3 (fun j h => (HO.out.lt j h).1))
      have HO3 := Lib.hid (show OwnI 75 w3 w.heap.size v' (T (k + 1)) by rw [HTS1.out]; exact ho3)
      clear ho3 hg3 hat3 c1 c2 c3
      go_wp2_with fail
      exact ⟨⟨k + 1, by go_num, by omega, HO3.out, HQ3.out⟩, by simp [intOf]; omega⟩
    · obtain rfl : k = n := by omega
      rw [← HT1.out] at ho
      have HO := Lib.hid ho
      have HQ := Lib.hid hq
      clear ho hq
      go_wp2_with fail
      go_ret
      exact ⟨_, rfl, HO.out, HQ.out⟩
set_option maxHeartbeats 1600000 in
theorem same_eq (v u : Value) (l : List E) (w : World) (hv : LstI w v l) (hu : LstI w u l) (hl : l.length ≤ 1000000) :
    Calls Tryz.prog 12 #[v, u] w fun e w' => e = .returned (.bool true) ∧ Q w w' := by
  obtain ⟨n, hn⟩ : ∃ n, n = l.length := ⟨_, rfl⟩
  obtain ⟨a, cp, rfl, hc1, hc2⟩ := hv.form0 hn.symm
  obtain ⟨b, cq, rfl, hd1, hd2⟩ := hu.form0 hn.symm
  have HV := Lib.hid (fun u (q : Q w u) k (h : k < n) => (hv.q q).cellOf hn.symm h)
  have HU := Lib.hid (fun x (q : Q w x) k (h : k < n) => (hu.q q).cellOf hn.symm h)
  rw [← hn] at hl
  unfold maxLen at hc2 hd2
  clear hn hv hu
  go_enter Tryz.func12, Tryz.ntmps12
  go_wp2_with fail
  go_loopw [5] (fun i wr => ∃ k : Nat, i = .int .i64 k ∧ k ≤ n ∧ Q w wr) (fun i _ => n - (intOf i).toNat)
  case atStart => exact ⟨0, rfl, by omega, Q.refl _⟩
  case round =>
    obtain ⟨k, rfl, hk, hq⟩ := hrel
    by_cases hlt : k < n
    · obtain ⟨g, off, cap, hvv, hg, _, _, c1, c2, c3⟩ := HV.out wr hq k hlt
      cases hvv
      obtain ⟨g', off', cap', hvv, hg', _, _, d1, d2, d3⟩ := HU.out wr hq k hlt
      cases hvv
      generalize l.getD k e0 = x at *
      obtain ⟨xa, xt, xb⟩ := x
      dsimp only at c1 c2 c3 d1 d2 d3
      have HQ := Lib.hid hq
      clear hq
      go_wp2_with fail
      go_quiet (fail)
      go_wp2_with fail
      exact ⟨⟨k + 1, by go_num, by omega, HQ.out.drewN _⟩, by simp [intOf]; omega⟩
    · obtain rfl : k = n := by omega
      have HQ := Lib.hid hq
      clear hq
      go_wp2_with fail
      go_ret
      exact ⟨rfl, HQ.out⟩
end It
end Go.Proofs.YtnlfeamhedihpaaGreatDoor
