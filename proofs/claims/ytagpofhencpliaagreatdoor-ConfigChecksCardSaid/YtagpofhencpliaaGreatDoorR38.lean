/- The program's rounding: the next decimal of a scale. (and more) -/
import Derived.Test.YtagpofhencpliaaGreatDoorR00
import Derived.Test.YtagpofhencpliaaGreatDoorR31
import Derived.Test.YtagpofhencpliaaGreatDoorR33
import Derived.Test.YtagpofhencpliaaGreatDoorR02
import Derived.Test.YtagpofhencpliaaGreatDoorR15
import Derived.Test.YtagpofhencpliaaGreatDoorR20
import Derived.Test.YtagpofhencpliaaGreatDoorR10
import Derived.Test.YtagpofhencpliaaGreatDoorR13
import Derived.Test.YtagpofhencpliaaGreatDoorR17
import Derived.Test.YtagpofhencpliaaGreatDoorR09
import Derived.Test.YtagpofhencpliaaGreatDoorR07
import Derived.Test.YtagpofhencpliaaGreatDoorR04
import Derived.Test.YtagpofhencpliaaGreatDoorR11
import Derived.Test.YtagpofhencpliaaGreatDoorR21
import Derived.Test.YtagpofhencpliaaGreatDoorR34
import Derived.Test.YtagpofhencpliaaGreatDoorR03
import Derived.Test.YtagpofhencpliaaGreatDoorRows
import Derived.Deep.QuietTactic
import Derived.Deep.RegionWith
import Derived.Deep.RegionHeld3
import Derived.BigQuiet
import Derived.Laws.ResultCell
set_option linter.unusedVariables false
set_option linter.unusedSimpArgs false
namespace Go.Proofs.YtagpofhencpliaaGreatDoor
open Go.RowKit
namespace Rq
open Er (dv cellV LF LF.of LF.nil LF.mono LF.q LF.put LF.shape LF.lst block_cells some_cells block_set wrapI)
open Ep (SD SD.of SD.q SD.start SD.put SD.room SD.here SD.reset ret_dv ret_dv2)
theorem lf_of {w : World} {B : Nat} {v : Value} {xs : List Int} (h : Lst w v xs) (hn : Dw.New B v) : LF w B v xs := by
  obtain ⟨a, c, rfl⟩ := h.shape
  exact ⟨_, _, _, rfl, h, rfl, fun ad ha hz => by subst ha; exact hn _ _ _ rfl hz⟩
set_option maxHeartbeats 3200000 in
theorem next_any (g : Bool) (v : Value) (s n : Nat) (m : Int) (L : List Int) (w : World) (hv : Lst w v L) (hl : L.length < 100000) (hd : Dm.okD L) (hs : s ≤ 1000) (hx : n < (Dm.st (Dm.num L) s).2) (hm : 0 ≤ m ∧ m ≤ 6) :
    Calls Tryz.prog 77 #[dv g v s, .int .i64 n, .int .i64 m] w fun e w' => ∃ x, e = .returned (dv g x n) ∧ ∃ Z, LF w' (w.heap.size + 2) x Z ∧ Z.length ≤ L.length + 1 ∧ Dm.okD Z ∧ Dm.num Z = Rm.rk g (Dm.st (Dm.num L) s).1 (Dm.st (Dm.num L) s).2 n m ∧ Q w w' := by
  obtain ⟨a, c, rfl⟩ := hv.shape
  have hz := Dm.st_le (Dm.num L) s
  obtain ⟨hrk, hpos⟩ := rk_code g (Dm.num L) s n m hx
  obtain ⟨k, hk⟩ : ∃ k, s - n = k + 1 := ⟨s - n - 1, by omega⟩
  rw [hk] at hrk hpos
  obtain ⟨hs1, hs2, hs3⟩ := side_eq L hd k
  have hnm := Rm.num_cut L hd (k + 1)
  have hok := (Dm.okB_iff L).2 hd
  have hsl := Dm.shl_len L (-((k + 1 : Nat) : Int))
  rw [far_up] at hrk
  rw [hs3.symm] at hrk
  have hL0 : L.length ≠ 0 := by
    intro h0
    have h1 := List.eq_nil_of_length_eq_zero h0
    subst h1
    rw [show Dm.num ([] : List Int) = 0 from rfl, Nat.zero_mod] at hpos
    omega
  have hodd := odd_eq _ hnm.2
  rw [hnm.1] at hodd
  have hrkU : Dm.num L / 10 ^ (k + 1) = Rm.rk g (Dm.st (Dm.num L) s).1 (Dm.st (Dm.num L) s).2 n m ∨ Dm.num L / 10 ^ (k + 1) + 1 = Rm.rk g (Dm.st (Dm.num L) s).1 (Dm.st (Dm.num L) s).2 n m := by
    rw [hrk]; split
    · exact .inr rfl
    · exact .inl rfl
  have hcz := Dm.cmpZ_three ((Dm.num L % 10 ^ (k + 1) : Nat) : Int) ((5 * 10 ^ k : Nat) : Int)
  have C := Lib.hid (fun u va vb (h1 : Lst u va (L.drop (L.length - (k + 1)))) (h2 : Lst u vb (Dm.shl [5] ((k : Nat) : Int))) => (by
    have e := Dw.compare_any va vb _ _ u h1 h2 (by rw [List.length_drop]; omega) (by rw [Dm.shl_len]; simp; omega) (Dm.okD_drop hd _) (Er.okD_shl _ _ (by intro d hd; simp at hd; omega))
    rw [hs1, hs2] at e
    exact e : Calls Tryz.prog 51 #[va, vb] u fun e w' => e = .returned (.int .i64 (Dm.cmpZ ((Dm.num L % 10 ^ (k + 1) : Nat) : Int) ((5 * 10 ^ k : Nat) : Int))) ∧ Q u w'))
  have S1 := Lib.hid (fun u va (h1 : Lst u va L) => (by
    have e := Dw.shift_at va L (-((k + 1 : Nat) : Int)) u h1 (by omega) hok (by omega)
    refine e.mono ?_
    rintro e w' ⟨x, rfl, ho, hnw, hq⟩
    obtain ⟨xa, xc, rfl, e1, e2⟩ := ho.form0 (n := L.length - (k + 1)) (by rw [hsl]; omega)
    exact ⟨xa, xc, rfl, ho, hnw, hq⟩ : Calls Tryz.prog 83 #[va, .int .i64 (-((k + 1 : Nat) : Int))] u fun e w' => ∃ xa xc, e = .returned (.tuple #[.slice xa (L.length - (k + 1)) xc, .int .i64 0]) ∧ Lst w' (.slice xa (L.length - (k + 1)) xc) (Dm.shl L (-((k + 1 : Nat) : Int))) ∧ Dw.New u.heap.size (.slice xa (L.length - (k + 1)) xc) ∧ Q u w'))
  have S5 := Lib.hid (fun u => (by
    have e := Dw.shift_any _ [5] ((k : Nat) : Int) _ (Lst.made u [5] 1 rfl (by unfold maxLen; omega)) (by simp) (by decide +kernel) (by omega)
    refine e.mono ?_
    rintro e w' ⟨x, rfl, ho, hq⟩
    obtain ⟨xa, xc, rfl⟩ := ho.shape
    exact ⟨_, xa, xc, rfl, ho, ((Q.refl _).alloc _).trans hq⟩ : Calls Tryz.prog 83 #[.slice (some ⟨u.heap.size, 0, none⟩) 1 1, .int .i64 (k : Nat)] (u.alloc (.cells #[.int .i64 5] 3)) fun e w' => ∃ y xa xc, e = .returned (.tuple #[.slice xa y xc, .int .i64 0]) ∧ Lst w' (.slice xa y xc) (Dm.shl [5] ((k : Nat) : Int)) ∧ Q u w'))
  have OO := Lib.hid (fun u va (h1 : Lst u va (Dm.shl L (-((k + 1 : Nat) : Int)))) => (by
    have e := Dw.odd_any va _ u h1 (by rw [hsl]; omega) hnm.2
    rw [hodd] at e
    exact e : Calls Tryz.prog 85 #[va] u fun e w' => e = .returned (.bool (decide (Dm.num L / 10 ^ (k + 1) % 2 = 1))) ∧ u = w'))
  have UP := Lib.hid (fun u va (h1 : Lst u va (Dm.shl L (-((k + 1 : Nat) : Int)))) => (by
    have e := Dw.sum_two_at (w := u.alloc (.cells #[.int .i64 1] 3)) (h1.q ((Q.refl u).alloc _)) (Lst.made u [1] 1 rfl (by unfold maxLen; omega)) (by rw [hsl]; omega) (by simp) hnm.2 (by intro d hd; simp at hd; omega)
    rw [hnm.1, show Dm.num [1] = 1 from rfl, World.size_alloc] at e
    refine e.mono ?_
    rintro e w' ⟨x, rfl, ho, hnw, hq⟩
    obtain ⟨xa, xc, rfl⟩ := ho.shape
    exact ⟨_, xa, xc, rfl, ho, hnw.mono (Nat.le_succ _), ((Q.refl _).alloc _).trans hq⟩ : Calls Tryz.prog 80 #[.slice (some ⟨u.heap.size + 1, 0, none⟩) 2 2] ((u.alloc (.cells #[.int .i64 1] 3)).alloc (.cells #[va, .slice (some ⟨u.heap.size, 0, none⟩) 1 1] 26)) fun e w' => ∃ y xa xc, e = .returned (.tuple #[.slice xa y xc, .int .i64 0]) ∧ Lst w' (.slice xa y xc) (Dm.dg (Dm.num L / 10 ^ (k + 1) + 1)) ∧ Dw.New u.heap.size (.slice xa y xc) ∧ Q u w'))
  have FF := Lib.hid (fun u => farther_any m g (decide (Dm.num L / 10 ^ (k + 1) % 2 = 1)) (Dm.cmpZ ((Dm.num L % 10 ^ (k + 1) : Nat) : Int) ((5 * 10 ^ k : Nat) : Int)) u hm hcz)
  generalize hU : far m g (decide (Dm.num L / 10 ^ (k + 1) % 2 = 1)) (Dm.cmpZ ((Dm.num L % 10 ^ (k + 1) : Nat) : Int) ((5 * 10 ^ k : Nat) : Int)) = U at *
  have hlen1 : Dm.num L / 10 ^ (k + 1) + 1 < 10 ^ (L.length + 1) := by
    have h1 := Dm.num_lt L hd
    have h2 : Dm.num L / 10 ^ (k + 1) ≤ Dm.num L := Nat.div_le_self _ _
    have h3 : 10 ^ (L.length + 1) = 10 ^ L.length * 10 := Nat.pow_succ ..
    omega
  have E0 := Lib.hid (show U = false → (Dm.shl L (-((k + 1 : Nat) : Int))).length ≤ L.length + 1 ∧ Dm.okD (Dm.shl L (-((k + 1 : Nat) : Int))) ∧ Dm.num (Dm.shl L (-((k + 1 : Nat) : Int))) = Rm.rk g (Dm.st (Dm.num L) s).1 (Dm.st (Dm.num L) s).2 n m from fun h => ⟨by rw [hsl]; omega, hnm.2, by rw [hnm.1, hrk, h]; rfl⟩)
  have E1 := Lib.hid (show U = true → (Dm.dg (Dm.num L / 10 ^ (k + 1) + 1)).length ≤ L.length + 1 ∧ Dm.okD (Dm.dg (Dm.num L / 10 ^ (k + 1) + 1)) ∧ Dm.num (Dm.dg (Dm.num L / 10 ^ (k + 1) + 1)) = Rm.rk g (Dm.st (Dm.num L) s).1 (Dm.st (Dm.num L) s).2 n m from fun h => ⟨Dm.dg_len_lt _ _ hlen1, Dm.okD_dg _, by rw [Dm.num_dg, hrk, h]; rfl⟩)
  generalize Rm.rk g (Dm.st (Dm.num L) s).1 (Dm.st (Dm.num L) s).2 n m = R at *
  generalize Dm.cmpZ ((Dm.num L % 10 ^ (k + 1) : Nat) : Int) ((5 * 10 ^ k : Nat) : Int) = cc at *
  generalize decide (Dm.num L / 10 ^ (k + 1) % 2 = 1) = od at *
  generalize Dm.dg (Dm.num L / 10 ^ (k + 1) + 1) = Z1 at *
  generalize Dm.shl L (-((k + 1 : Nat) : Int)) = Z0 at *
  generalize Dm.shl [5] ((k : Nat) : Int) = Z5 at *
  obtain ⟨l, hl'⟩ : ∃ l, l = L.length := ⟨_, rfl⟩
  rw [← hl'] at hl hL0 S1 hsl C hv E0 E1 ⊢
  obtain ⟨p, hp⟩ : ∃ p, p = l - (k + 1) := ⟨_, rfl⟩
  rw [← hp] at S1 C
  have hrest := hv.rest hl'.symm (show p ≤ l from by omega)
  have hrs : ∃ g2 off, a = some ⟨g2, off, none⟩ ∧ p < l ∧ l ≤ c ∧ c ≤ 9223372036854775807 ∧ Lst w (.slice (some ⟨g2, off + p, none⟩) (l - p) (c - p)) (L.drop p) := by
    rcases hrest with h | ⟨h, _⟩ | ⟨_, _, h, _⟩
    · exact h
    · omega
    · omega
  obtain ⟨g2, off, rfl, hpl, hlc, hcm, hdr⟩ := hrs
  have HV := Lib.hid hv
  have HD := Lib.hid hdr
  obtain ⟨K, hKK⟩ : ∃ K, K = k + 1 := ⟨_, rfl⟩
  rw [← hKK] at S1
  have HK := Lib.hid (show (s : Int) - (n : Int) = ((K : Nat) : Int) from by omega)
  have HK1 := Lib.hid (show ((K : Nat) : Int) - 1 = ((k : Nat) : Int) from by omega)
  have hK1 : K ≤ 1000 := by omega
  have hK2 : 1 ≤ K := by omega
  have hpl2 : (p : Int) ≤ (l : Int) := by omega
  have hpc : (p : Int) ≤ (c : Int) := by omega
  have ha1 : ¬ (c = p) := by omega
  have hb1 : ¬ (c - p = 0) := by omega
  have hn : n ≤ 1000 := by omega
  clear hv hdr hrest hz hrk hpos hk hs1 hs2 hs3 hnm hok hsl hodd hrkU hcz hp hl' hU hx hKK hlen1
  go_enter Tryz.func77, Tryz.ntmps77
  have Q0 := Lib.hid (show Q w ((w.alloc (.cells #[.bool g, .slice (some ⟨g2, off, none⟩) l c, .int .i64 s] 36)).alloc (.cells #[.bool false, .slice none 0 0, .int .i64 0] 36)) from (((Q.refl w).alloc (.cells #[.bool g, .slice (some ⟨g2, off, none⟩) l c, .int .i64 s] 36)).alloc (.cells #[.bool false, .slice none 0 0, .int .i64 0] 36)))
  have B0_d := Lib.hid (show ((w.alloc (.cells #[.bool g, .slice (some ⟨g2, off, none⟩) l c, .int .i64 s] 36)).alloc (.cells #[.bool false, .slice none 0 0, .int .i64 0] 36)).heap[w.heap.size]? = some (.cells #[.bool g, .slice (some ⟨g2, off, none⟩) l c, .int .i64 s] 36) from heap_alloc2_old _ _ _)
  have B0_R := Lib.hid (show ((w.alloc (.cells #[.bool g, .slice (some ⟨g2, off, none⟩) l c, .int .i64 s] 36)).alloc (.cells #[.bool false, .slice none 0 0, .int .i64 0] 36)).heap[w.heap.size + 1]? = some (.cells #[.bool false, .slice none 0 0, .int .i64 0] 36) from heap_alloc2_new _ _ _)
  unfold dv
  have LL0 := Lib.hid (HV.out.q Q0.out)
  have LD0 := Lib.hid (HD.out.q Q0.out)
  obtain ⟨k_d0, k_d1, k_d2, _, _, _⟩ := Er.block_cells B0_d.out
  obtain ⟨k_R0, k_R1, k_R2, _, _, _⟩ := Er.block_cells B0_R.out
  go_wp2_with fail
  rw [HK.out]
  refine (S1.out _ _ LL0.out).mono ?_
  rintro e z1 ⟨a1, c1, rfl, ho, hnw, hq⟩
  clear k_d0 k_d1 k_d2 k_R0 k_R1 k_R2
  have NEX := Lib.hid (hnw.mono (show w.heap.size + 2 ≤ _ from lt_of_block B0_R.out))
  clear hnw
  have L2_L := Lib.hid (Lst.q LL0.out hq)
  clear LL0
  have L2_D := Lib.hid (Lst.q LD0.out hq)
  clear LD0
  have B2_d := Lib.hid ((Q.block hq (lt_of_block B0_d.out)).trans B0_d.out)
  clear B0_d
  have B2_R := Lib.hid ((Q.block hq (lt_of_block B0_R.out)).trans B0_R.out)
  clear B0_R
  have Q2 := Lib.hid (Q.trans Q0.out hq)
  clear Q0
  have LX := Lib.hid ho
  clear ho hq
  obtain ⟨k_d0, k_d1, k_d2, _, _, _⟩ := Er.block_cells B2_d.out
  obtain ⟨k_R0, k_R1, k_R2, _, _, _⟩ := Er.block_cells B2_R.out
  go_wp2_with fail
  rw [HK1.out]
  refine (S5.out _).mono ?_
  rintro e z2 ⟨y5, a5, c5, rfl, ho, hq⟩
  clear k_d0 k_d1 k_d2 k_R0 k_R1 k_R2
  have L4_L := Lib.hid (Lst.q L2_L.out hq)
  clear L2_L
  have L4_D := Lib.hid (Lst.q L2_D.out hq)
  clear L2_D
  have L4_X := Lib.hid (Lst.q LX.out hq)
  clear LX
  have B4_d := Lib.hid ((Q.block hq (lt_of_block B2_d.out)).trans B2_d.out)
  clear B2_d
  have B4_R := Lib.hid ((Q.block hq (lt_of_block B2_R.out)).trans B2_R.out)
  clear B2_R
  have Q4 := Lib.hid (Q.trans Q2.out hq)
  clear Q2
  have LM := Lib.hid ho
  clear ho hq
  obtain ⟨k_d0, k_d1, k_d2, _, _, _⟩ := Er.block_cells B4_d.out
  obtain ⟨k_R0, k_R1, k_R2, _, _, _⟩ := Er.block_cells B4_R.out
  go_wp2_with fail
  refine (C.out _ _ _ L4_D.out LM.out).mono ?_
  rintro e z5 ⟨rfl, hq⟩
  clear k_d0 k_d1 k_d2 k_R0 k_R1 k_R2
  have L5_L := Lib.hid (Lst.q L4_L.out hq)
  clear L4_L
  have L5_D := Lib.hid (Lst.q L4_D.out hq)
  clear L4_D
  have L5_X := Lib.hid (Lst.q L4_X.out hq)
  clear L4_X
  have L5_M := Lib.hid (Lst.q LM.out hq)
  clear LM
  have B5_d := Lib.hid ((Q.block hq (lt_of_block B4_d.out)).trans B4_d.out)
  clear B4_d
  have B5_R := Lib.hid ((Q.block hq (lt_of_block B4_R.out)).trans B4_R.out)
  clear B4_R
  have Q5 := Lib.hid (Q.trans Q4.out hq)
  clear Q4
  clear hq
  obtain ⟨k_d0, k_d1, k_d2, _, _, _⟩ := Er.block_cells B5_d.out
  obtain ⟨k_R0, k_R1, k_R2, _, _, _⟩ := Er.block_cells B5_R.out
  go_wp2_with fail
  go_quiet (first | (go_at_call 85; exact Calls.quiet_of_same ((OO.out _ _ (by first | exact L5_X.out | exact Lst.q L5_X.out ((Q.refl _).drewN _))).mono fun _ _ h => ⟨h.1, h.2.symm⟩)) | (go_at_call 84; exact Calls.quiet_of_same ((FF.out _).mono fun _ _ h => ⟨h.1, h.2.symm⟩)) | fail)
  clear k_d0 k_d1 k_d2 k_R0 k_R1 k_R2
  have hq := (Q.refl z5).drewN nq
  generalize z5.drewN nq = zq at *
  have L6_L := Lib.hid (Lst.q L5_L.out hq)
  clear L5_L
  have L6_D := Lib.hid (Lst.q L5_D.out hq)
  clear L5_D
  have L6_X := Lib.hid (Lst.q L5_X.out hq)
  clear L5_X
  have L6_M := Lib.hid (Lst.q L5_M.out hq)
  clear L5_M
  have B6_d := Lib.hid ((Q.block hq (lt_of_block B5_d.out)).trans B5_d.out)
  clear B5_d
  have B6_R := Lib.hid ((Q.block hq (lt_of_block B5_R.out)).trans B5_R.out)
  clear B5_R
  have Q6 := Lib.hid (Q.trans Q5.out hq)
  clear Q5
  clear hq
  cases U
  · clear UP E1
    have hset := Lib.hid (block_set (x' := .bool g) (y' := .slice a1 p c1) (z' := .int .i64 n) B6_R.out)
    have HQE := Lib.hid (Q.setCell (Q.setCell (Q.setCell Q6.out (ad := ⟨w.heap.size + 1, 0, none⟩) (by show w.heap.size ≤ w.heap.size + 1; omega) (.bool g)) (ad := ⟨w.heap.size + 1, 1, none⟩) (by show w.heap.size ≤ w.heap.size + 1; omega) (.slice a1 p c1)) (ad := ⟨w.heap.size + 1, 2, none⟩) (by show w.heap.size ≤ w.heap.size + 1; omega) (.int .i64 n))
    have hlr := Lib.hid (LF.put (r := w.heap.size + 1) (lf_of L6_X.out NEX.out) (by omega) (.bool g) (.slice a1 p c1) (.int .i64 n))
    obtain ⟨k_d0, k_d1, k_d2, _, _, _⟩ := Er.block_cells B6_d.out
    obtain ⟨k_R0, k_R1, k_R2, _, _, _⟩ := Er.block_cells B6_R.out
    obtain ⟨_, _, _, r3, r4, r5⟩ := block_cells B6_R.out
    go_wp2_with fail
    exact ret_dv rfl rfl hset.out rfl ⟨_, rfl, _, hlr.out, (E0.out (by simp)).1, (E0.out (by simp)).2.1, (E0.out (by simp)).2.2, HQE.out⟩
  · clear E0
    obtain ⟨k_d0, k_d1, k_d2, _, _, _⟩ := Er.block_cells B6_d.out
    obtain ⟨k_R0, k_R1, k_R2, _, _, _⟩ := Er.block_cells B6_R.out
    go_wp2_with fail
    refine (UP.out _ _ L6_X.out).mono ?_
    rintro e z9 ⟨y6, a6, c6, rfl, ho, hnw, hq⟩
    clear k_d0 k_d1 k_d2 k_R0 k_R1 k_R2
    have NEZ := Lib.hid (hnw.mono (show w.heap.size + 2 ≤ _ from lt_of_block B6_R.out))
    clear hnw
    have L8_X := Lib.hid (Lst.q L6_X.out hq)
    clear L6_X
    have B8_d := Lib.hid ((Q.block hq (lt_of_block B6_d.out)).trans B6_d.out)
    clear B6_d
    have B8_R := Lib.hid ((Q.block hq (lt_of_block B6_R.out)).trans B6_R.out)
    clear B6_R
    have Q8 := Lib.hid (Q.trans Q6.out hq)
    clear Q6
    have LZ := Lib.hid ho
    clear ho hq
    have hset := Lib.hid (block_set (x' := .bool g) (y' := .slice a6 y6 c6) (z' := .int .i64 n) B8_R.out)
    have HQE := Lib.hid (Q.setCell (Q.setCell (Q.setCell Q8.out (ad := ⟨w.heap.size + 1, 0, none⟩) (by show w.heap.size ≤ w.heap.size + 1; omega) (.bool g)) (ad := ⟨w.heap.size + 1, 1, none⟩) (by show w.heap.size ≤ w.heap.size + 1; omega) (.slice a6 y6 c6)) (ad := ⟨w.heap.size + 1, 2, none⟩) (by show w.heap.size ≤ w.heap.size + 1; omega) (.int .i64 n))
    have hlr := Lib.hid (LF.put (r := w.heap.size + 1) (lf_of LZ.out NEZ.out) (by omega) (.bool g) (.slice a6 y6 c6) (.int .i64 n))
    obtain ⟨k_d0, k_d1, k_d2, _, _, _⟩ := Er.block_cells B8_d.out
    obtain ⟨k_R0, k_R1, k_R2, _, _, _⟩ := Er.block_cells B8_R.out
    obtain ⟨_, _, _, r3, r4, r5⟩ := block_cells B8_R.out
    go_wp2_with fail
    exact ret_dv rfl rfl hset.out rfl ⟨_, rfl, _, hlr.out, (E1.out (by simp)).1, (E1.out (by simp)).2.1, (E1.out (by simp)).2.2, HQE.out⟩
end Rq
end Go.Proofs.YtagpofhencpliaaGreatDoor
