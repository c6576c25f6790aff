/- The document's own answers of numbers and bytes: abacistref04, and what its statements begin with. -/
import Derived.Test.YtmobljfpkdjnpaaRows
import Derived.Test.YtmobljfpkdjnpaaInts
import Derived.Test.YtmobljfpkdjnpaaEls
import Derived.Test.YtmobljfpkdjnpaaPlcM
import Derived.Test.YtmobljfpkdjnpaaPlcV
import Derived.Test.YtmobljfpkdjnpaaPlcU
import Derived.Test.YtmobljfpkdjnpaaUtfR
import Derived.Test.YtmobljfpkdjnpaaClsR
import Derived.Test.YtmobljfpkdjnpaaCluQ
set_option linter.unusedVariables false
set_option linter.unusedSimpArgs false
namespace Go.Proofs.Ytmobljfpkdjnpaa
open Go.RowKit Um Cm Gm Pm
namespace Pr

set_option maxHeartbeats 800000 in
theorem index_any (v : Value) (S : List Int) (x : Int) (w : World) (hv : Lst w v S) (hS : S.Pairwise (· < ·)) (hl : S.length ≤ 1073741824) :
    Calls Try.prog 12 #[v, .int .i64 x] w fun e w' => e = .returned (.int .i64 (idxZ S x)) ∧ w = w' := by
  obtain ⟨a, c, rfl⟩ := hv.shape
  obtain ⟨n, hn⟩ : ∃ n, n = S.length := ⟨_, rfl⟩
  have HE := Lib.hid (cnt_eq S x hS)
  have HH := Lib.hid (cnt_has S x hS)
  have HX := Lib.hid (show idxZ S x = if S.contains x = true then (cnt S x : Int) else -1 from rfl)
  generalize idxZ S x = r at HX ⊢
  rw [← hn] at hv hl HE HH ⊢
  have HV := Lib.hid (fun k h => hv.cellOf (n := n) (k := k) hn.symm h)
  clear hv hn hS
  go_enter Try.func12, Try.ntmps12
  go_wp2_with fail
  go_loop [5] (fun i => ∃ k : Nat, i = .int .i64 k ∧ k ≤ n ∧ (S.contains x = true → k ≤ cnt S x)) (fun i => n - (intOf i).toNat)
  case atStart => exact ⟨0, rfl, by omega, fun _ => Nat.zero_le _⟩
  case round =>
    obtain ⟨k, rfl, hk, hc⟩ := hrel
    have HC := Lib.hid hc
    clear hc
    by_cases hlt : k < n
    · obtain ⟨g, off, cap, hvv, hg, _, _, c1⟩ := HV.out k hlt
      cases hvv
      have he := HE.out k hlt
      obtain ⟨y, hy⟩ : ∃ y, y = S.getD k 0 := ⟨_, rfl⟩
      rw [← hy] at c1 he
      clear hy
      by_cases hyx : y = x
      · obtain ⟨h1, h2⟩ := he.1 hyx
        have HR : Hid (r = (k : Int)) := Lib.hid (by rw [HX.out, if_pos h2, h1])
        have e1 : (y == x) = true := by rw [hyx]; simp
        clear he h1 h2 hyx
        go_wp2_with fail
        go_ret
        rw [HR.out]
        exact ⟨rfl, rfl⟩
      · have hne : S.contains x = true → k + 1 ≤ cnt S x := fun h => by
          have h1 := HC.out h
          have h2 : k ≠ cnt S x := fun e => hyx (he.2 ⟨e, h⟩)
          omega
        have HNE := Lib.hid hne
        have e1 : (y == x) = false := beq_eq_false_iff_ne.2 hyx
        clear he hne hyx
        go_wp2_with fail
        exact ⟨⟨k + 1, by go_num, by omega, HNE.out⟩, by simp [intOf]; omega⟩
    · have HR : Hid (r = -1) := Lib.hid (by
        rw [HX.out, if_neg]
        intro h
        have h1 := HC.out h
        have h2 := (HH.out.1 h).1
        omega)
      go_wp2_with fail
      go_ret
      rw [HR.out]
      exact ⟨rfl, rfl⟩

set_option maxHeartbeats 800000 in
theorem ceil_any (v : Value) (S : List Int) (x : Int) (w : World) (hv : Lst w v S) (hS : S.Pairwise (· < ·)) (h1 : 1 ≤ S.length) (hl : S.length ≤ 1073741824) :
    Calls Try.prog 17 #[v, .int .i64 x] w fun e w' => e = .returned (.int .i64 (ceiZ S x)) ∧ w = w' := by
  obtain ⟨a, c, rfl⟩ := hv.shape
  obtain ⟨n, hn⟩ : ∃ n, n = S.length := ⟨_, rfl⟩
  have HE := Lib.hid (cnt_at S x hS)
  have hle := cnt_le S x
  have HX := Lib.hid (show ceiZ S x = min (cnt S x) (S.length - 1) from rfl)
  generalize ceiZ S x = r at HX ⊢
  rw [← hn] at hv hl HE HX h1 hle ⊢
  have HV := Lib.hid (fun k h => hv.cellOf (n := n) (k := k) hn.symm h)
  generalize cnt S x = m at *
  clear hv hn hS
  go_enter Try.func17, Try.ntmps17
  go_wp2_with fail
  go_loop [5] (fun i => ∃ k : Nat, i = .int .i64 k ∧ k ≤ n ∧ k ≤ m) (fun i => n - (intOf i).toNat)
  case atStart => exact ⟨0, rfl, by omega, Nat.zero_le _⟩
  case round =>
    obtain ⟨k, rfl, hk, hc⟩ := hrel
    by_cases hlt : k < n
    · obtain ⟨g, off, cap, hvv, hg, _, _, c1⟩ := HV.out k hlt
      cases hvv
      have he := HE.out k hlt
      obtain ⟨y, hy⟩ : ∃ y, y = S.getD k 0 := ⟨_, rfl⟩
      rw [← hy] at c1 he
      clear hy
      by_cases hyx : y < x
      · have hkm := he.1 hyx
        clear he
        go_wp2_with fail
        exact ⟨⟨k + 1, by go_num, by omega, by omega⟩, by simp [intOf]; omega⟩
      · have hkm : ¬ k < m := fun h => hyx (he.2 h)
        have HR : Hid (r = k) := Lib.hid (by have := HX.out; omega)
        have hxy : x ≤ y := by omega
        clear he
        go_wp2_with fail
        go_ret
        rw [HR.out]
        exact ⟨rfl, rfl⟩
    · have HR : Hid (((n : Int) - 1) = (r : Int)) := Lib.hid (by have := HX.out; omega)
      go_wp2_with fail
      go_ret
      rw [← HR.out]
      exact ⟨rfl, rfl⟩

set_option maxHeartbeats 800000 in
theorem floor_any (v : Value) (S : List Int) (x : Int) (w : World) (hv : Lst w v S) (hS : S.Pairwise (· < ·)) (hl : S.length ≤ 1073741824) :
    Calls Try.prog 15 #[v, .int .i64 x] w fun e w' => e = .returned (.int .i64 (floZ S x)) ∧ w = w' := by
  obtain ⟨a, c, rfl⟩ := hv.shape
  obtain ⟨n, hn⟩ : ∃ n, n = S.length := ⟨_, rfl⟩
  have HE := Lib.hid (cnt1_at S x hS)
  have hle := cnt1_le S x hS
  have HX := Lib.hid (show floZ S x = cnt1 S x - 1 from rfl)
  generalize floZ S x = r at HX ⊢
  rw [← hn] at hv hl HE hle ⊢
  have HV := Lib.hid (fun k h => hv.cellOf (n := n) (k := k) hn.symm h)
  generalize cnt1 S x = m at *
  clear hv hn hS
  go_enter Try.func15, Try.ntmps15
  go_wp2_with fail
  go_loop [5, 6] (fun t i => ∃ k : Nat, i = .int .i64 k ∧ k ≤ n ∧ t = .int .i64 ((min k m - 1 : Nat) : Int)) (fun _ i => n - (intOf i).toNat)
  case atStart => exact ⟨0, rfl, by omega, by simp⟩
  case round =>
    obtain ⟨k, rfl, hk, rfl⟩ := hrel
    by_cases hlt : k < n
    · obtain ⟨g, off, cap, hvv, hg, _, _, c1⟩ := HV.out k hlt
      cases hvv
      have he := HE.out k hlt
      obtain ⟨y, hy⟩ : ∃ y, y = S.getD k 0 := ⟨_, rfl⟩
      rw [← hy] at c1 he
      clear hy
      by_cases hyx : y ≤ x
      · have hkm := he.1 hyx
        have HR : Hid (min (k + 1) m - 1 = k) := Lib.hid (by omega)
        clear he
        go_wp2_with fail
        exact ⟨⟨k + 1, by go_num, by omega, by rw [HR.out]⟩, by simp [intOf]; omega⟩
      · have hkm : ¬ k < m := fun h => hyx (he.2 h)
        have HR : Hid (min (k + 1) m - 1 = min k m - 1) := Lib.hid (by omega)
        have hxy : x < y := by omega
        clear he
        generalize min k m - 1 = z at *
        go_wp2_with fail
        exact ⟨⟨k + 1, by go_num, by omega, by rw [HR.out]⟩, by simp [intOf]; omega⟩
    · have HR : Hid (min k m - 1 = r) := Lib.hid (by have := HX.out; omega)
      rw [HR.out]
      go_wp2_with fail
      go_ret
      exact ⟨rfl, rfl⟩

set_option maxHeartbeats 400000 in
theorem rblank_any (q : ByteArray) (w : World) (hq : q.size ≤ 1073741824) :
    Calls Try.prog 37 #[.string q] w fun e w' => e = .returned (.bool (blkS q)) ∧ Q w w' := by
  have HF := Lib.hid (fun w => Ur.first_any q w (by unfold maxLen; omega))
  have hB : blkS q = blankB (fst3 q.data.toList).1 := rfl
  rw [hB]
  generalize (fst3 q.data.toList).1 = c at HF ⊢
  have HB := Lib.hid (fun w => Cr.blank_any c w)
  generalize blankB c = r at HB ⊢
  clear hB
  go_enter Try.func37, Try.ntmps37
  go_wp2_with fail
  refine (HF.out _).mono ?_
  rintro e w1 ⟨rfl, hq⟩
  go_wp2_with fail
  refine (HB.out _).mono ?_
  rintro e w2 ⟨rfl, hq2⟩
  go_wp2_with fail
  go_ret
  exact ⟨rfl, hq.trans hq2⟩

end Pr
end Go.Proofs.Ytmobljfpkdjnpaa
