/- The document's own config: Good. (and more) -/
import Derived.Test.YtagpofhencpliaaGreatDoorR00
import Derived.Test.YtagpofhencpliaaGreatDoorR04
import Derived.Test.YtagpofhencpliaaGreatDoorR22
import Derived.Test.YtagpofhencpliaaGreatDoorR21
import Derived.Test.YtagpofhencpliaaGreatDoorR28
import Derived.Test.YtagpofhencpliaaGreatDoorR14
import Derived.Test.YtagpofhencpliaaGreatDoorR08
import Derived.Test.YtagpofhencpliaaGreatDoorR02
import Derived.Test.YtagpofhencpliaaGreatDoorR23
import Derived.Test.YtagpofhencpliaaGreatDoorR10
import Derived.Test.YtagpofhencpliaaGreatDoorR13
import Derived.Test.YtagpofhencpliaaGreatDoorR05
import Derived.Test.YtagpofhencpliaaGreatDoorR35
import Derived.Test.YtagpofhencpliaaGreatDoorR03
import Derived.Test.YtagpofhencpliaaGreatDoorRows
import Derived.Deep.Cut
import Derived.Deep.RegionHeld
import Derived.Deep.QuietTactic
import Derived.BigQuiet
set_option linter.unusedVariables false
set_option linter.unusedSimpArgs false
namespace Go.Proofs.YtagpofhencpliaaGreatDoor
open Go.RowKit
namespace Km
def stp (sm : Bool) (S : List Int) : Int := if sm = true then 1 else if S = [] then 1 else 1 + Um.around (S.getD 0 0) 9
end Km
namespace Kr
open Er (dv LF LF.of LF.nil LF.mono LF.q LF.put LF.shape LF.lst wrapI)
theorem infoC : (Tryz.prog.info? 25).map (·.size) = some 10 := by kernel_rfl
theorem ar_q (n m k : Int) (h : -9223372036854775808 ≤ n ∧ n ≤ 9223372036854775807) (hm : 1 ≤ m ∧ m ≤ 1000) (hk : Um.around n m = k) (u : World) : Calls Tryz.prog 7 #[.int .i64 n, .int .i64 m] u fun e w' => e = .returned (.int .i64 k) ∧ Q u w' := by
  refine (Ur.around_any n m u h.1 h.2 hm.1 (by omega)).mono ?_
  rintro e w' ⟨rfl, rfl⟩
  rw [hk]
  exact ⟨rfl, Q.refl _⟩
def Ap (v : Value) (b : Nat) : Prop := ∀ a n c, v = .slice (some a) n c → n ≠ 0 → a.block ≠ b
theorem Ap.new {w : World} {v : Value} {xs : List Int} (h : Lst w v xs) {b : Nat} (hb : w.heap.size ≤ b) : Ap v b := fun a n c e hn => by have := h.old a n c e hn; omega
theorem Ap.lf {w : World} {B b : Nat} {v : Value} {xs : List Int} (h : LF w B v xs) (hb : b < B) : Ap v b := Kp.LF_bl h hb
theorem okD_one (d : Int) (h : 0 ≤ d ∧ d ≤ 9) : Dm.okD [d] := fun x hx => by simp at hx; omega
set_option maxRecDepth 100000 in
set_option maxHeartbeats 8000000 in
theorem good_any (gl gh sm : Bool) (vl vh vs : Value) (sl sh : Int) (L H S : List Int) (i0 i1 i2 i3 i4 i5 i6 : Int) (w : World) (hvl : Lst w vl L) (hvh : Lst w vh H) (hvs : Lst w vs S)
    (bl : ∀ n ∈ L, -9223372036854775808 ≤ n ∧ n ≤ 9223372036854775807) (bh : ∀ n ∈ H, -9223372036854775808 ≤ n ∧ n ≤ 9223372036854775807) (bs : ∀ n ∈ S, -9223372036854775808 ≤ n ∧ n ≤ 9223372036854775807)
    (hsl : -9223372036854775808 ≤ sl ∧ sl ≤ 9223372036854775807) (hsh : -9223372036854775808 ≤ sh ∧ sh ≤ 9223372036854775807)
    (hi0 : -9223372036854775808 ≤ i0 ∧ i0 ≤ 9223372036854775807) (hi1 : -9223372036854775808 ≤ i1 ∧ i1 ≤ 9223372036854775807) (hi2 : -9223372036854775808 ≤ i2 ∧ i2 ≤ 9223372036854775807) (hi3 : -9223372036854775808 ≤ i3 ∧ i3 ≤ 9223372036854775807) (hi4 : -9223372036854775808 ≤ i4 ∧ i4 ≤ 9223372036854775807) (hi5 : -9223372036854775808 ≤ i5 ∧ i5 ≤ 9223372036854775807) (hi6 : -9223372036854775808 ≤ i6 ∧ i6 ≤ 9223372036854775807)
    (n0 n1 n2 n3 n4 n5 n6 : Nat) (e0 : 1 + Um.around i0 8 = (n0 : Int)) (e1 : Um.around i1 6 = (n1 : Int)) (e2 : Um.around i2 ((n1 : Int) + 1) = (n2 : Int)) (e3 : Um.around i3 ((n0 : Int) + 1) = (n3 : Int)) (e4 : Um.around i4 ((n2 : Int) + 1) = (n4 : Int)) (e5 : Um.around i5 7 = (n5 : Int)) (e6 : 1 + Um.around i6 6 = (n6 : Int))
    (d : Int) (hd : d = Km.stp sm S) (ga gb : Bool) (A B : List Int)
    (hAB : (ga, A, gb, B) = if 0 < Dm.cmpD gl (Dm.num (Dm.gdL L (n0 + n2))) n2 gh (Dm.num (Dm.gdL H (n0 + n2))) n2 then (gh, Dm.gdL H (n0 + n2), gl, Dm.gdL L (n0 + n2)) else (gl, Dm.gdL L (n0 + n2), gh, Dm.gdL H (n0 + n2))) :
    Calls Tryz.prog 5 #[.agg #[.bool gl, vl, .int .i64 sl, .bool gh, vh, .int .i64 sh, vs, .bool sm, .int .i64 i0, .int .i64 i1, .int .i64 i2, .int .i64 i3, .int .i64 i4, .int .i64 i5, .int .i64 i6]] w fun e w' => e = .returned (.agg #[.string (Dm.prt ga A n2), .string (Dm.prt gb B n2), .string (Dm.prt false [d] n2), .int .i64 n0, .int .i64 n1, .int .i64 n2, .int .i64 n3, .int .i64 n4, .int .i64 n5, .int .i64 n6]) ∧ Q w w' := by
  obtain ⟨k0, hk0⟩ : ∃ k : Nat, Um.around i0 8 = (k : Int) := ⟨(Um.around i0 8).toNat, by have := Um.around_bd i0 8 (by omega); omega⟩
  obtain ⟨k6, hk6⟩ : ∃ k : Nat, Um.around i6 6 = (k : Int) := ⟨(Um.around i6 6).toNat, by have := Um.around_bd i6 6 (by omega); omega⟩
  have r0 := Um.around_bd i0 8 (by omega)
  have r1 := Um.around_bd i1 6 (by omega)
  have r6 := Um.around_bd i6 6 (by omega)
  rw [hk0] at e0 r0
  rw [hk6] at e6 r6
  rw [e1] at r1
  have r2 := Um.around_bd i2 ((n1 : Int) + 1) (by omega)
  rw [e2] at r2
  have HA0 := Lib.hid (fun u => ar_q i0 8 k0 hi0 (by omega) hk0 u)
  have HA1 := Lib.hid (fun u => ar_q i1 6 n1 hi1 (by omega) e1 u)
  have HA2 := Lib.hid (fun u => ar_q i2 ((n1 : Int) + 1) n2 hi2 (by omega) e2 u)
  have HA3 := Lib.hid (fun u => ar_q i3 ((n0 : Int) + 1) n3 hi3 (by omega) e3 u)
  have HA4 := Lib.hid (fun u => ar_q i4 ((n2 : Int) + 1) n4 hi4 (by omega) e4 u)
  have HA5 := Lib.hid (fun u => ar_q i5 7 n5 hi5 (by omega) e5 u)
  have HA6 := Lib.hid (fun u => ar_q i6 6 k6 hi6 (by omega) hk6 u)
  have w0 : IntKind.i64.wrap (1 + (k0 : Int)) = (n0 : Int) := by rw [wrapI (by omega) (by omega)]; exact e0
  have w6 : IntKind.i64.wrap (1 + (k6 : Int)) = (n6 : Int) := by rw [wrapI (by omega) (by omega)]; exact e6
  have HGL := Lib.hid (fun u (q : Q w u) => by
    have h := Er.good_any gl vl sl L (n0 + n2) u (hvl.q q) hsl (by omega) bl
    rw [Int.natCast_add] at h
    exact h)
  have HGH := Lib.hid (fun u (q : Q w u) => by
    have h := Er.good_any gh vh sh H (n0 + n2) u (hvh.q q) hsh (by omega) bh
    rw [Int.natCast_add] at h
    exact h)
  have x13 : n0 + n2 ≤ 13 := by omega
  have xl := Dm.gdL_len L (n0 + n2)
  have yl := Dm.gdL_len H (n0 + n2)
  have xk := Dm.gdL_ok L (n0 + n2)
  have yk := Dm.gdL_ok H (n0 + n2)
  generalize Dm.gdL L (n0 + n2) = X at *
  generalize Dm.gdL H (n0 + n2) = Y at *
  have HCM := Lib.hid (fun u vx vy (hx : Lst u vx X) (hy : Lst u vy Y) => Er.compare_any gl gh vx vy n2 n2 X Y u hx hy (by omega) (by omega) xk yk (by omega) (by omega))
  have HPX := Lib.hid (fun g u vx (hx : Lst u vx X) => Er.print_any g vx n2 X u hx (by omega) xk (by omega))
  have HPY := Lib.hid (fun g u vx (hx : Lst u vx Y) => Er.print_any g vx n2 Y u hx (by omega) yk (by omega))
  have hs9 := Um.around_bd (S.getD 0 0) 9 (by omega)
  have hdb : 0 ≤ d ∧ d ≤ 9 := by rw [hd]; unfold Km.stp; split; · omega
                                 · split <;> omega
  have HPD := Lib.hid (fun u vx (hx : Lst u vx [d]) => Er.print_any false vx n2 [d] u hx (by simp) (okD_one d hdb) (by omega))
  obtain ⟨K, hK0⟩ : ∃ K, K = Dm.cmpD gl (Dm.num X) n2 gh (Dm.num Y) n2 := ⟨_, rfl⟩
  rw [← hK0] at HCM hAB
  clear hK0
  obtain ⟨xn, hx0⟩ : ∃ x, x = X.length := ⟨_, rfl⟩
  obtain ⟨yn, hy0⟩ : ∃ x, x = Y.length := ⟨_, rfl⟩
  have HXN := Lib.hid hx0.symm
  have HYN := Lib.hid hy0.symm
  have HAB := Lib.hid hAB
  have HDD := Lib.hid hd
  have HVS := Lib.hid hvs
  have HBS := Lib.hid bs
  have b1 : (n1 : Int) ≤ 5 := by omega
  have b0 : (n0 : Int) ≤ 8 := by omega
  have b2 : (n2 : Int) ≤ 5 := by omega
  obtain ⟨al, cl, rfl⟩ := hvl.shape
  obtain ⟨ah, ch, rfl⟩ := hvh.shape
  obtain ⟨az, cs, rfl⟩ := hvs.shape
  obtain ⟨ls, hls⟩ : ∃ x, x = S.length := ⟨_, rfl⟩
  rw [← hls] at HVS ⊢
  have HLS := Lib.hid hls.symm
  obtain ⟨ll, hll⟩ : ∃ x, x = L.length := ⟨_, rfl⟩
  obtain ⟨lh, hlh⟩ : ∃ x, x = H.length := ⟨_, rfl⟩
  unfold dv at HGL HGH HCM HPX HPY HPD
  rw [← hll] at HGL ⊢
  rw [← hlh] at HGH ⊢
  obtain ⟨tl, htl⟩ : ∃ x, x = Um.around sl 10 := ⟨_, rfl⟩
  obtain ⟨th, hth⟩ : ∃ x, x = Um.around sh 10 := ⟨_, rfl⟩
  rw [← htl] at HGL
  rw [← hth] at HGH
  clear hvl hvh hvs bl bh bs hsl hsh hi0 hi1 hi2 hi3 hi4 hi5 hi6 e0 e1 e2 e3 e4 e5 e6 hd hAB hk0 hk6 r0 r1 r2 r6 x13 xl yl xk yk hs9 hdb hx0 hy0 hls hll hlh htl hth
  obtain ⟨y1, hy1⟩ : ∃ y, y = w.alloc (.cells #[.bool gl, .slice al ll cl, .int .i64 sl, .bool gh, .slice ah lh ch, .int .i64 sh, .slice az ls cs, .bool sm, .int .i64 i0, .int .i64 i1, .int .i64 i2, .int .i64 i3, .int .i64 i4, .int .i64 i5, .int .i64 i6] 30) := ⟨_, rfl⟩
  have hQ1 : Q w y1 := by rw [hy1]; exact (Q.refl w).alloc _
  have hb1 : Bk y1 w.heap.size 30 [.bool gl, .slice al ll cl, .int .i64 sl, .bool gh, .slice ah lh ch, .int .i64 sh, .slice az ls cs, .bool sm, .int .i64 i0, .int .i64 i1, .int .i64 i2, .int .i64 i3, .int .i64 i4, .int .i64 i5, .int .i64 i6] := by rw [hy1]; exact Bk.new _ _ _
  have hs1 : y1.heap.size = w.heap.size + 1 := by rw [hy1]; simp
  obtain ⟨z, hz⟩ : ∃ y, y = y1.alloc (.cells #[.string ⟨#[]⟩, .string ⟨#[]⟩, .string ⟨#[]⟩, .int .i64 0, .int .i64 0, .int .i64 0, .int .i64 0, .int .i64 0, .int .i64 0, .int .i64 0] 25) := ⟨_, rfl⟩
  have hq2 : Q y1 z := by rw [hz]; exact (Q.refl y1).alloc _
  have HQ := Lib.hid (show Q w z from hQ1.trans hq2)
  have HG := Lib.hid (hb1.q hq2)
  have HB := Lib.hid (show Bk z (w.heap.size + 1) 25 [.string ⟨#[]⟩, .string ⟨#[]⟩, .string ⟨#[]⟩, .int .i64 0, .int .i64 0, .int .i64 0, .int .i64 0, .int .i64 0, .int .i64 0, .int .i64 0] by rw [hz, ← hs1]; exact Bk.new _ _ _)
  go_enter Tryz.func5, Tryz.ntmps5
  go_upto_region 1 with fail
  first | rw [← hy1, ← hz] | (rw [hy1] at hz; rw [← hz])
  clear hQ1 hb1 hy1 hs1 hq2 hz
  have HZB := Lib.hid (show w.heap.size + 1 < z.heap.size from HB.out.lt)
  go_cut [3] (fun p wx => ∃ b, p = .pointer (some ⟨b, 0, none⟩) ∧ z.heap.size ≤ b ∧ Bk wx b 23 [.int .i64 n0, .int .i64 n1, .int .i64 0, .int .i64 0, .int .i64 0, .int .i64 n5, .int .i64 n6] ∧ Q z wx)
  case first =>
    refine wp_region_held_drew (S := fun u => Q z u) (by kernel_rfl) (by exact (Q.refl z).drew) (fun hHeld => ?_)
    have hS : Q z z.drew := hHeld
    clear hHeld
    have hq : Q z z.drew := (Q.refl _).drew
    clear hq
    generalize z.drew = yR1x0 at *
    change wpAnyH _ _ _ _ _ _ #[ff,ff,ff,ff,ff,ff,ff,ff,ff,ff,ff,ff,ff,ff,ff,ff,ff,ff,ff,ff,ff] _ _
    refine wpAnyH_take (i := 0) (v := ?vR1x1) (by (try simp only [gA, gB, gC]); rfl) (by kernel_rfl) (by kernel_rfl) (by kernel_rfl) (by exact fun _ _ _ h => h) (Or.inl ⟨by first | kernel_rfl | rfl, ?hyR1x1⟩) (by exact hS) ?rsR1x1
    case hyR1x1 => (intro uz hSw; (try dsimp only at hSw); go_simp; try with_reducible rfl)
    try simp only [Act.put, sA, sB, sC]
    change wpAnyH _ _ _ _ _ _ #[tt,ff,ff,ff,ff,ff,ff,ff,ff,ff,ff,ff,ff,ff,ff,ff,ff,ff,ff,ff,ff] _ _
    refine wpAnyH_take (i := 1) (v := ?vR1x2) (by (try simp only [gA, gB, gC]); rfl) (by kernel_rfl) (by kernel_rfl) (by kernel_rfl) (by exact fun _ _ _ h => h) (Or.inl ⟨by first | kernel_rfl | rfl, ?hyR1x2⟩) (by exact hS) ?rsR1x2
    case hyR1x2 => (intro uz hSw; (try dsimp only at hSw); go_simp; try with_reducible rfl)
    try simp only [Act.put, sA, sB, sC]
    change wpAnyH _ _ _ _ _ _ #[tt,tt,ff,ff,ff,ff,ff,ff,ff,ff,ff,ff,ff,ff,ff,ff,ff,ff,ff,ff,ff] _ _
    refine wpAnyH_take (i := 2) (v := ?vR1x3) (by (try simp only [gA, gB, gC]); rfl) (by kernel_rfl) (by kernel_rfl) (by kernel_rfl) (by exact fun _ _ _ h => h) (Or.inl ⟨by first | kernel_rfl | rfl, ?hyR1x3⟩) (by exact hS) ?rsR1x3
    case hyR1x3 => (intro uz hSw; (try dsimp only at hSw); have hxx := HG.out.q hSw; have g8 := hxx.cell 8 rfl; have g9 := hxx.cell 9 rfl; have g13 := hxx.cell 13 rfl; have g14 := hxx.cell 14 rfl; clear hxx; go_simp; try with_reducible rfl)
    try simp only [Act.put, sA, sB, sC]
    change wpAnyH _ _ _ _ _ _ #[tt,tt,tt,ff,ff,ff,ff,ff,ff,ff,ff,ff,ff,ff,ff,ff,ff,ff,ff,ff,ff] _ _
    refine wpAnyH_take (i := 5) (v := ?vR1x4) (by (try simp only [gA, gB, gC]); rfl) (by kernel_rfl) (by kernel_rfl) (by kernel_rfl) (by exact fun _ _ _ h => h) (Or.inl ⟨by first | kernel_rfl | rfl, ?hyR1x4⟩) (by exact hS) ?rsR1x4
    case hyR1x4 => (intro uz hSw; (try dsimp only at hSw); go_simp; try with_reducible rfl)
    try simp only [Act.put, sA, sB, sC]
    change wpAnyH _ _ _ _ _ _ #[tt,tt,tt,ff,ff,tt,ff,ff,ff,ff,ff,ff,ff,ff,ff,ff,ff,ff,ff,ff,ff] _ _
    refine wpAnyH_take (i := 6) (v := ?vR1x5) (by (try simp only [gA, gB, gC]); rfl) (by kernel_rfl) (by kernel_rfl) (by kernel_rfl) (by exact fun _ _ _ h => h) (Or.inl ⟨by first | kernel_rfl | rfl, ?hyR1x5⟩) (by exact hS) ?rsR1x5
    case hyR1x5 => (intro uz hSw; (try dsimp only at hSw); go_simp; try with_reducible rfl)
    try simp only [Act.put, sA, sB, sC]
    change wpAnyH _ _ _ _ _ _ #[tt,tt,tt,ff,ff,tt,tt,ff,ff,ff,ff,ff,ff,ff,ff,ff,ff,ff,ff,ff,ff] _ _
    refine wpAnyH_take (i := 7) (v := ?vR1x6) (by (try simp only [gA, gB, gC]); rfl) (by kernel_rfl) (by kernel_rfl) (by kernel_rfl) (by exact fun _ _ _ h => h) (Or.inl ⟨by first | kernel_rfl | rfl, ?hyR1x6⟩) (by exact hS) ?rsR1x6
    case hyR1x6 => (intro uz hSw; (try dsimp only at hSw); have hxx := HG.out.q hSw; have g8 := hxx.cell 8 rfl; have g9 := hxx.cell 9 rfl; have g13 := hxx.cell 13 rfl; have g14 := hxx.cell 14 rfl; clear hxx; go_simp; try with_reducible rfl)
    try simp only [Act.put, sA, sB, sC]
    change wpAnyH _ _ _ _ _ _ #[tt,tt,tt,ff,ff,tt,tt,tt,ff,ff,ff,ff,ff,ff,ff,ff,ff,ff,ff,ff,ff] _ _
    refine wpAnyH_take (i := 9) (v := ?vR1x7) (by (try simp only [gA, gB, gC]); rfl) (by kernel_rfl) (by kernel_rfl) (by kernel_rfl) (by exact fun _ _ _ h => h) (Or.inl ⟨by first | kernel_rfl | rfl, ?hyR1x7⟩) (by exact hS) ?rsR1x7
    case hyR1x7 => (intro uz hSw; (try dsimp only at hSw); go_simp; try with_reducible rfl)
    try simp only [Act.put, sA, sB, sC]
    change wpAnyH _ _ _ _ _ _ #[tt,tt,tt,ff,ff,tt,tt,tt,ff,tt,ff,ff,ff,ff,ff,ff,ff,ff,ff,ff,ff] _ _
    refine wpAnyH_take (i := 10) (v := ?vR1x8) (by (try simp only [gA, gB, gC]); rfl) (by kernel_rfl) (by kernel_rfl) (by kernel_rfl) (by exact fun _ _ _ h => h) (Or.inl ⟨by first | kernel_rfl | rfl, ?hyR1x8⟩) (by exact hS) ?rsR1x8
    case hyR1x8 => (intro uz hSw; (try dsimp only at hSw); go_simp; try with_reducible rfl)
    try simp only [Act.put, sA, sB, sC]
    change wpAnyH _ _ _ _ _ _ #[tt,tt,tt,ff,ff,tt,tt,tt,ff,tt,tt,ff,ff,ff,ff,ff,ff,ff,ff,ff,ff] _ _
    refine wpAnyH_take (i := 11) (v := ?vR1x9) (by (try simp only [gA, gB, gC]); rfl) (by kernel_rfl) (by kernel_rfl) (by kernel_rfl) (by exact fun _ _ _ h => h) (Or.inl ⟨by first | kernel_rfl | rfl, ?hyR1x9⟩) (by exact hS) ?rsR1x9
    case hyR1x9 => (intro uz hSw; (try dsimp only at hSw); have hxx := HG.out.q hSw; have g8 := hxx.cell 8 rfl; have g9 := hxx.cell 9 rfl; have g13 := hxx.cell 13 rfl; have g14 := hxx.cell 14 rfl; clear hxx; go_simp; try with_reducible rfl)
    try simp only [Act.put, sA, sB, sC]
    change wpAnyH _ _ _ _ _ _ #[tt,tt,tt,ff,ff,tt,tt,tt,ff,tt,tt,tt,ff,ff,ff,ff,ff,ff,ff,ff,ff] _ _
    refine wpAnyH_take (i := 13) (v := ?vR1x10) (by (try simp only [gA, gB, gC]); rfl) (by kernel_rfl) (by kernel_rfl) (by kernel_rfl) (by exact fun _ _ _ h => h) (Or.inl ⟨by first | kernel_rfl | rfl, ?hyR1x10⟩) (by exact hS) ?rsR1x10
    case hyR1x10 => (intro uz hSw; (try dsimp only at hSw); go_simp; try with_reducible rfl)
    try simp only [Act.put, sA, sB, sC]
    change wpAnyH _ _ _ _ _ _ #[tt,tt,tt,ff,ff,tt,tt,tt,ff,tt,tt,tt,ff,tt,ff,ff,ff,ff,ff,ff,ff] _ _
    refine wpAnyH_take (i := 14) (v := ?vR1x11) (by (try simp only [gA, gB, gC]); rfl) (by kernel_rfl) (by kernel_rfl) (by kernel_rfl) (by exact fun _ _ _ h => h) (Or.inl ⟨by first | kernel_rfl | rfl, ?hyR1x11⟩) (by exact hS) ?rsR1x11
    case hyR1x11 => (intro uz hSw; (try dsimp only at hSw); go_simp; try with_reducible rfl)
    try simp only [Act.put, sA, sB, sC]
    change wpAnyH _ _ _ _ _ _ #[tt,tt,tt,ff,ff,tt,tt,tt,ff,tt,tt,tt,ff,tt,tt,ff,ff,ff,ff,ff,ff] _ _
    refine wpAnyH_take (i := 15) (v := ?vR1x12) (by (try simp only [gA, gB, gC]); rfl) (by kernel_rfl) (by kernel_rfl) (by kernel_rfl) (by exact fun _ _ _ h => h) (Or.inl ⟨by first | kernel_rfl | rfl, ?hyR1x12⟩) (by exact hS) ?rsR1x12
    case hyR1x12 => (intro uz hSw; (try dsimp only at hSw); have hxx := HG.out.q hSw; have g8 := hxx.cell 8 rfl; have g9 := hxx.cell 9 rfl; have g13 := hxx.cell 13 rfl; have g14 := hxx.cell 14 rfl; clear hxx; go_simp; try with_reducible rfl)
    try simp only [Act.put, sA, sB, sC]
    change wpAnyH _ _ _ _ _ _ #[tt,tt,tt,ff,ff,tt,tt,tt,ff,tt,tt,tt,ff,tt,tt,tt,ff,ff,ff,ff,ff] _ _
    refine wpAnyH_ready (rs := [3, 19]) (by kernel_rfl) (by simp) ?_
    refine (AllReadyH.cons (by (try simp only [gA, gB, gC]); rfl) (fun K hK => ?_) (AllReadyH.cons (by (try simp only [gA, gB, gC]); rfl) (fun K hK => ?_) AllReadyH.nil))
    · go_simp
      refine (HA0.out _).mono ?_
      rintro e yR1x13 ⟨rfl, hq⟩
      try (go_wp2_with fail)
      have hS2 := Q.trans hS hq
      refine hK.out _ _ (by exact hS2) (fun hHeld => ?_)
      clear hK K hHeld hS hq
      have hS := hS2
      clear hS2
      try simp only [Act.put, sA, sB, sC]
      change wpAnyH _ _ _ _ _ _ #[tt,tt,tt,tt,ff,tt,tt,tt,ff,tt,tt,tt,ff,tt,tt,tt,ff,ff,ff,ff,ff] _ _
      refine wpAnyH_take (i := 4) (v := ?vR1x14) (by (try simp only [gA, gB, gC]); rfl) (by kernel_rfl) (by kernel_rfl) (by kernel_rfl) (by exact fun _ _ _ h => h) (Or.inl ⟨by first | kernel_rfl | rfl, ?hyR1x14⟩) (by exact hS) ?rsR1x14
      case hyR1x14 => (intro uz hSw; (try dsimp only at hSw); go_simp; try with_reducible rfl)
      try simp only [Act.put, sA, sB, sC]
      change wpAnyH _ _ _ _ _ _ #[tt,tt,tt,tt,tt,tt,tt,tt,ff,tt,tt,tt,ff,tt,tt,tt,ff,ff,ff,ff,ff] _ _
      refine wpAnyH_ready (rs := [8, 19]) (by kernel_rfl) (by simp) ?_
      refine (AllReadyH.cons (by (try simp only [gA, gB, gC]); rfl) (fun K hK => ?_) (AllReadyH.cons (by (try simp only [gA, gB, gC]); rfl) (fun K hK => ?_) AllReadyH.nil))
      · go_simp
        refine (HA1.out _).mono ?_
        rintro e yR1x15 ⟨rfl, hq⟩
        try (go_wp2_with fail)
        have hS2 := Q.trans hS hq
        refine hK.out _ _ (by exact hS2) (fun hHeld => ?_)
        clear hK K hHeld hS hq
        have hS := hS2
        clear hS2
        try simp only [Act.put, sA, sB, sC]
        change wpAnyH _ _ _ _ _ _ #[tt,tt,tt,tt,tt,tt,tt,tt,tt,tt,tt,tt,ff,tt,tt,tt,ff,ff,ff,ff,ff] _ _
        refine wpAnyH_ready (rs := [12, 19]) (by kernel_rfl) (by simp) ?_
        refine (AllReadyH.cons (by (try simp only [gA, gB, gC]); rfl) (fun K hK => ?_) (AllReadyH.cons (by (try simp only [gA, gB, gC]); rfl) (fun K hK => ?_) AllReadyH.nil))
        · go_simp
          refine (HA5.out _).mono ?_
          rintro e yR1x16 ⟨rfl, hq⟩
          try (go_wp2_with fail)
          have hS2 := Q.trans hS hq
          refine hK.out _ _ (by exact hS2) (fun hHeld => ?_)
          clear hK K hHeld hS hq
          have hS := hS2
          clear hS2
          try simp only [Act.put, sA, sB, sC]
          change wpAnyH _ _ _ _ _ _ #[tt,tt,tt,tt,tt,tt,tt,tt,tt,tt,tt,tt,tt,tt,tt,tt,ff,ff,ff,ff,ff] _ _
          refine wpAnyH_ready (rs := [16, 19]) (by kernel_rfl) (by simp) ?_
          refine (AllReadyH.cons (by (try simp only [gA, gB, gC]); rfl) (fun K hK => ?_) (AllReadyH.cons (by (try simp only [gA, gB, gC]); rfl) (fun K hK => ?_) AllReadyH.nil))
          · go_simp
            refine (HA6.out _).mono ?_
            rintro e yR1x17 ⟨rfl, hq⟩
            try (go_wp2_with fail)
            have hS2 := Q.trans hS hq
            refine hK.out _ _ (by exact hS2) (fun hHeld => ?_)
            clear hK K hHeld hS hq
            have hS := hS2
            clear hS2
            try simp only [Act.put, sA, sB, sC]
            change wpAnyH _ _ _ _ _ _ #[tt,tt,tt,tt,tt,tt,tt,tt,tt,tt,tt,tt,tt,tt,tt,tt,tt,ff,ff,ff,ff] _ _
            refine wpAnyH_take (i := 17) (v := ?vR1x18) (by (try simp only [gA, gB, gC]); rfl) (by kernel_rfl) (by kernel_rfl) (by kernel_rfl) (by exact fun _ _ _ h => h) (Or.inl ⟨by first | kernel_rfl | rfl, ?hyR1x18⟩) (by exact hS) ?rsR1x18
            case hyR1x18 => (intro uz hSw; (try dsimp only at hSw); go_simp; try with_reducible rfl)
            try simp only [Act.put, sA, sB, sC]
            change wpAnyH _ _ _ _ _ _ #[tt,tt,tt,tt,tt,tt,tt,tt,tt,tt,tt,tt,tt,tt,tt,tt,tt,tt,ff,ff,ff] _ _
            refine wpAnyH_take (i := 18) (v := ?vR1x19) (by (try simp only [gA, gB, gC]); rfl) (by kernel_rfl) (by kernel_rfl) (by kernel_rfl) (by exact fun _ _ _ h => h) (Or.inl ⟨by first | kernel_rfl | rfl, ?hyR1x19⟩) (by exact hS) ?rsR1x19
            case hyR1x19 => (intro uz hSw; (try dsimp only at hSw); go_simp; try with_reducible rfl)
            try simp only [Act.put, sA, sB, sC]
            change wpAnyH _ _ _ _ _ _ #[tt,tt,tt,tt,tt,tt,tt,tt,tt,tt,tt,tt,tt,tt,tt,tt,tt,tt,tt,ff,ff] _ _
            refine wpAnyH_ready (rs := [19]) (by kernel_rfl) (by simp) ?_
            refine (AllReadyH.cons (by (try simp only [gA, gB, gC]); rfl) (fun K hK => ?_) AllReadyH.nil)
            go_simp
            have hq := (Q.refl yR1x17).alloc (.cells #[.int .i64 0, .int .i64 0, .int .i64 0, .int .i64 0, .int .i64 0, .int .i64 0, .int .i64 0] 23)
            have HBN := Lib.hid (Bk.new yR1x17 23 [.int .i64 0, .int .i64 0, .int .i64 0, .int .i64 0, .int .i64 0, .int .i64 0, .int .i64 0])
            have HW_bN := Lib.hid (Q.le hS)
            have hS2 := Q.trans hS hq
            refine hK.out _ _ (by exact hS2) (fun hHeld => ?_)
            clear hK K hHeld hS hq
            have hS := hS2
            clear hS2
            generalize yR1x17.alloc (.cells #[.int .i64 0, .int .i64 0, .int .i64 0, .int .i64 0, .int .i64 0, .int .i64 0, .int .i64 0] 23) = yR1x20 at *
            generalize yR1x17.heap.size = bN at *
            try simp only [Act.put, sA, sB, sC]
            change wpAnyH _ _ _ _ _ _ #[tt,tt,tt,tt,tt,tt,tt,tt,tt,tt,tt,tt,tt,tt,tt,tt,tt,tt,tt,tt,ff] _ _
            refine wpAnyH_ready (rs := [20]) (by kernel_rfl) (by simp) ?_
            refine (AllReadyH.cons (by (try simp only [gA, gB, gC]); rfl) (fun K hK => ?_) AllReadyH.nil)
            have b0 := HBN.out.cell 0 rfl
            have f0 := HBN.out.free 0
            have b1 := HBN.out.cell 1 rfl
            have f1 := HBN.out.free 1
            have b2 := HBN.out.cell 2 rfl
            have f2 := HBN.out.free 2
            have b3 := HBN.out.cell 3 rfl
            have f3 := HBN.out.free 3
            have b4 := HBN.out.cell 4 rfl
            have f4 := HBN.out.free 4
            have b5 := HBN.out.cell 5 rfl
            have f5 := HBN.out.free 5
            have b6 := HBN.out.cell 6 rfl
            have f6 := HBN.out.free 6
            go_simp
            have hS2 := (Q.setCell (Q.setCell (Q.setCell (Q.setCell (Q.setCell (Q.setCell (Q.setCell hS (ad := ⟨bN, 0, none⟩) HW_bN.out (.int .i64 n0)) (ad := ⟨bN, 1, none⟩) HW_bN.out (.int .i64 n1)) (ad := ⟨bN, 2, none⟩) HW_bN.out (.int .i64 0)) (ad := ⟨bN, 3, none⟩) HW_bN.out (.int .i64 0)) (ad := ⟨bN, 4, none⟩) HW_bN.out (.int .i64 0)) (ad := ⟨bN, 5, none⟩) HW_bN.out (.int .i64 n5)) (ad := ⟨bN, 6, none⟩) HW_bN.out (.int .i64 n6))
            replace HBN := Lib.hid (((((((HBN.out.set 0 (.int .i64 n0)).set 1 (.int .i64 n1)).set 2 (.int .i64 0)).set 3 (.int .i64 0)).set 4 (.int .i64 0)).set 5 (.int .i64 n5)).set 6 (.int .i64 n6))
            refine hK.out _ _ (by exact hS2) (fun hHeld => ?_)
            clear hK K hHeld hS
            have hS := hS2
            clear hS2 b0 f0 b1 f1 b2 f2 b3 f3 b4 f4 b5 f5 b6 f6
            generalize (((((((yR1x20.setCell ⟨bN, 0, none⟩ (.int .i64 n0)).setCell ⟨bN, 1, none⟩ (.int .i64 n1)).setCell ⟨bN, 2, none⟩ (.int .i64 0)).setCell ⟨bN, 3, none⟩ (.int .i64 0)).setCell ⟨bN, 4, none⟩ (.int .i64 0)).setCell ⟨bN, 5, none⟩ (.int .i64 n5)).setCell ⟨bN, 6, none⟩ (.int .i64 n6)) = yR1x21 at *
            try simp only [Act.put, sA, sB, sC]
            change wpAnyH _ _ _ _ _ _ #[tt,tt,tt,tt,tt,tt,tt,tt,tt,tt,tt,tt,tt,tt,tt,tt,tt,tt,tt,tt,tt] _ _
            refine wpAnyH_done (by kernel_rfl) ?_ _
            go_wp2_with fail
            go_meet
            exact ⟨bN, rfl, HW_bN.out, HBN.out, hS⟩
          · go_simp
            have hq := (Q.refl yR1x16).alloc (.cells #[.int .i64 0, .int .i64 0, .int .i64 0, .int .i64 0, .int .i64 0, .int .i64 0, .int .i64 0] 23)
            have HBN := Lib.hid (Bk.new yR1x16 23 [.int .i64 0, .int .i64 0, .int .i64 0, .int .i64 0, .int .i64 0, .int .i64 0, .int .i64 0])
            have HW_bN := Lib.hid (Q.le hS)
            have hS2 := Q.trans hS hq
            refine hK.out _ _ (by exact hS2) (fun hHeld => ?_)
            clear hK K hHeld hS hq
            have hS := hS2
            clear hS2
            generalize yR1x16.alloc (.cells #[.int .i64 0, .int .i64 0, .int .i64 0, .int .i64 0, .int .i64 0, .int .i64 0, .int .i64 0] 23) = yR1x22 at *
            generalize yR1x16.heap.size = bN at *
            try simp only [Act.put, sA, sB, sC]
            change wpAnyH _ _ _ _ _ _ #[tt,tt,tt,tt,tt,tt,tt,tt,tt,tt,tt,tt,tt,tt,tt,tt,ff,ff,ff,tt,ff] _ _
            refine wpAnyH_ready (rs := [16]) (by kernel_rfl) (by simp) ?_
            refine (AllReadyH.cons (by (try simp only [gA, gB, gC]); rfl) (fun K hK => ?_) AllReadyH.nil)
            go_simp
            refine (HA6.out _).mono ?_
            rintro e yR1x23 ⟨rfl, hq⟩
            try (go_wp2_with fail)
            have HBN := Lib.hid (Bk.q HBN.out hq)
            have hS2 := Q.trans hS hq
            refine hK.out _ _ (by exact hS2) (fun hHeld => ?_)
            clear hK K hHeld hS hq
            have hS := hS2
            clear hS2
            try simp only [Act.put, sA, sB, sC]
            change wpAnyH _ _ _ _ _ _ #[tt,tt,tt,tt,tt,tt,tt,tt,tt,tt,tt,tt,tt,tt,tt,tt,tt,ff,ff,tt,ff] _ _
            refine wpAnyH_take (i := 17) (v := ?vR1x24) (by (try simp only [gA, gB, gC]); rfl) (by kernel_rfl) (by kernel_rfl) (by kernel_rfl) (by exact fun _ _ _ h => h) (Or.inl ⟨by first | kernel_rfl | rfl, ?hyR1x24⟩) (by exact hS) ?rsR1x24
            case hyR1x24 => (intro uz hSw; (try dsimp only at hSw); go_simp; try with_reducible rfl)
            try simp only [Act.put, sA, sB, sC]
            change wpAnyH _ _ _ _ _ _ #[tt,tt,tt,tt,tt,tt,tt,tt,tt,tt,tt,tt,tt,tt,tt,tt,tt,tt,ff,tt,ff] _ _
            refine wpAnyH_take (i := 18) (v := ?vR1x25) (by (try simp only [gA, gB, gC]); rfl) (by kernel_rfl) (by kernel_rfl) (by kernel_rfl) (by exact fun _ _ _ h => h) (Or.inl ⟨by first | kernel_rfl | rfl, ?hyR1x25⟩) (by exact hS) ?rsR1x25
            case hyR1x25 => (intro uz hSw; (try dsimp only at hSw); go_simp; try with_reducible rfl)
            try simp only [Act.put, sA, sB, sC]
            change wpAnyH _ _ _ _ _ _ #[tt,tt,tt,tt,tt,tt,tt,tt,tt,tt,tt,tt,tt,tt,tt,tt,tt,tt,tt,tt,ff] _ _
            refine wpAnyH_ready (rs := [20]) (by kernel_rfl) (by simp) ?_
            refine (AllReadyH.cons (by (try simp only [gA, gB, gC]); rfl) (fun K hK => ?_) AllReadyH.nil)
            have b0 := HBN.out.cell 0 rfl
            have f0 := HBN.out.free 0
            have b1 := HBN.out.cell 1 rfl
            have f1 := HBN.out.free 1
            have b2 := HBN.out.cell 2 rfl
            have f2 := HBN.out.free 2
            have b3 := HBN.out.cell 3 rfl
            have f3 := HBN.out.free 3
            have b4 := HBN.out.cell 4 rfl
            have f4 := HBN.out.free 4
            have b5 := HBN.out.cell 5 rfl
            have f5 := HBN.out.free 5
            have b6 := HBN.out.cell 6 rfl
            have f6 := HBN.out.free 6
            go_simp
            have hS2 := (Q.setCell (Q.setCell (Q.setCell (Q.setCell (Q.setCell (Q.setCell (Q.setCell hS (ad := ⟨bN, 0, none⟩) HW_bN.out (.int .i64 n0)) (ad := ⟨bN, 1, none⟩) HW_bN.out (.int .i64 n1)) (ad := ⟨bN, 2, none⟩) HW_bN.out (.int .i64 0)) (ad := ⟨bN, 3, none⟩) HW_bN.out (.int .i64 0)) (ad := ⟨bN, 4, none⟩) HW_bN.out (.int .i64 0)) (ad := ⟨bN, 5, none⟩) HW_bN.out (.int .i64 n5)) (ad := ⟨bN, 6, none⟩) HW_bN.out (.int .i64 n6))
            replace HBN := Lib.hid (((((((HBN.out.set 0 (.int .i64 n0)).set 1 (.int .i64 n1)).set 2 (.int .i64 0)).set 3 (.int .i64 0)).set 4 (.int .i64 0)).set 5 (.int .i64 n5)).set 6 (.int .i64 n6))
            refine hK.out _ _ (by exact hS2) (fun hHeld => ?_)
            clear hK K hHeld hS
            have hS := hS2
            clear hS2 b0 f0 b1 f1 b2 f2 b3 f3 b4 f4 b5 f5 b6 f6
            generalize (((((((yR1x23.setCell ⟨bN, 0, none⟩ (.int .i64 n0)).setCell ⟨bN, 1, none⟩ (.int .i64 n1)).setCell ⟨bN, 2, none⟩ (.int .i64 0)).setCell ⟨bN, 3, none⟩ (.int .i64 0)).setCell ⟨bN, 4, none⟩ (.int .i64 0)).setCell ⟨bN, 5, none⟩ (.int .i64 n5)).setCell ⟨bN, 6, none⟩ (.int .i64 n6)) = yR1x26 at *
            try simp only [Act.put, sA, sB, sC]
            change wpAnyH _ _ _ _ _ _ #[tt,tt,tt,tt,tt,tt,tt,tt,tt,tt,tt,tt,tt,tt,tt,tt,tt,tt,tt,tt,tt] _ _
            refine wpAnyH_done (by kernel_rfl) ?_ _
            go_wp2_with fail
            go_meet
            exact ⟨bN, rfl, HW_bN.out, HBN.out, hS⟩
        · go_simp
          have hq := (Q.refl yR1x15).alloc (.cells #[.int .i64 0, .int .i64 0, .int .i64 0, .int .i64 0, .int .i64 0, .int .i64 0, .int .i64 0] 23)
          have HBN := Lib.hid (Bk.new yR1x15 23 [.int .i64 0, .int .i64 0, .int .i64 0, .int .i64 0, .int .i64 0, .int .i64 0, .int .i64 0])
          have HW_bN := Lib.hid (Q.le hS)
          have hS2 := Q.trans hS hq
          refine hK.out _ _ (by exact hS2) (fun hHeld => ?_)
          clear hK K hHeld hS hq
          have hS := hS2
          clear hS2
          generalize yR1x15.alloc (.cells #[.int .i64 0, .int .i64 0, .int .i64 0, .int .i64 0, .int .i64 0, .int .i64 0, .int .i64 0] 23) = yR1x27 at *
          generalize yR1x15.heap.size = bN at *
          try simp only [Act.put, sA, sB, sC]
          change wpAnyH _ _ _ _ _ _ #[tt,tt,tt,tt,tt,tt,tt,tt,tt,tt,tt,tt,ff,tt,tt,tt,ff,ff,ff,tt,ff] _ _
          refine wpAnyH_ready (rs := [12]) (by kernel_rfl) (by simp) ?_
          refine (AllReadyH.cons (by (try simp only [gA, gB, gC]); rfl) (fun K hK => ?_) AllReadyH.nil)
          go_simp
          refine (HA5.out _).mono ?_
          rintro e yR1x28 ⟨rfl, hq⟩
          try (go_wp2_with fail)
          have HBN := Lib.hid (Bk.q HBN.out hq)
          have hS2 := Q.trans hS hq
          refine hK.out _ _ (by exact hS2) (fun hHeld => ?_)
          clear hK K hHeld hS hq
          have hS := hS2
          clear hS2
          try simp only [Act.put, sA, sB, sC]
          change wpAnyH _ _ _ _ _ _ #[tt,tt,tt,tt,tt,tt,tt,tt,tt,tt,tt,tt,tt,tt,tt,tt,ff,ff,ff,tt,ff] _ _
          refine wpAnyH_ready (rs := [16]) (by kernel_rfl) (by simp) ?_
          refine (AllReadyH.cons (by (try simp only [gA, gB, gC]); rfl) (fun K hK => ?_) AllReadyH.nil)
          go_simp
          refine (HA6.out _).mono ?_
          rintro e yR1x29 ⟨rfl, hq⟩
          try (go_wp2_with fail)
          have HBN := Lib.hid (Bk.q HBN.out hq)
          have hS2 := Q.trans hS hq
          refine hK.out _ _ (by exact hS2) (fun hHeld => ?_)
          clear hK K hHeld hS hq
          have hS := hS2
          clear hS2
          try simp only [Act.put, sA, sB, sC]
          change wpAnyH _ _ _ _ _ _ #[tt,tt,tt,tt,tt,tt,tt,tt,tt,tt,tt,tt,tt,tt,tt,tt,tt,ff,ff,tt,ff] _ _
          refine wpAnyH_take (i := 17) (v := ?vR1x30) (by (try simp only [gA, gB, gC]); rfl) (by kernel_rfl) (by kernel_rfl) (by kernel_rfl) (by exact fun _ _ _ h => h) (Or.inl ⟨by first | kernel_rfl | rfl, ?hyR1x30⟩) (by exact hS) ?rsR1x30
          case hyR1x30 => (intro uz hSw; (try dsimp only at hSw); go_simp; try with_reducible rfl)
          try simp only [Act.put, sA, sB, sC]
          change wpAnyH _ _ _ _ _ _ #[tt,tt,tt,tt,tt,tt,tt,tt,tt,tt,tt,tt,tt,tt,tt,tt,tt,tt,ff,tt,ff] _ _
          refine wpAnyH_take (i := 18) (v := ?vR1x31) (by (try simp only [gA, gB, gC]); rfl) (by kernel_rfl) (by kernel_rfl) (by kernel_rfl) (by exact fun _ _ _ h => h) (Or.inl ⟨by first | kernel_rfl | rfl, ?hyR1x31⟩) (by exact hS) ?rsR1x31
          case hyR1x31 => (intro uz hSw; (try dsimp only at hSw); go_simp; try with_reducible rfl)
          try simp only [Act.put, sA, sB, sC]
          change wpAnyH _ _ _ _ _ _ #[tt,tt,tt,tt,tt,tt,tt,tt,tt,tt,tt,tt,tt,tt,tt,tt,tt,tt,tt,tt,ff] _ _
          refine wpAnyH_ready (rs := [20]) (by kernel_rfl) (by simp) ?_
          refine (AllReadyH.cons (by (try simp only [gA, gB, gC]); rfl) (fun K hK => ?_) AllReadyH.nil)
          have b0 := HBN.out.cell 0 rfl
          have f0 := HBN.out.free 0
          have b1 := HBN.out.cell 1 rfl
          have f1 := HBN.out.free 1
          have b2 := HBN.out.cell 2 rfl
          have f2 := HBN.out.free 2
          have b3 := HBN.out.cell 3 rfl
          have f3 := HBN.out.free 3
          have b4 := HBN.out.cell 4 rfl
          have f4 := HBN.out.free 4
          have b5 := HBN.out.cell 5 rfl
          have f5 := HBN.out.free 5
          have b6 := HBN.out.cell 6 rfl
          have f6 := HBN.out.free 6
          go_simp
          have hS2 := (Q.setCell (Q.setCell (Q.setCell (Q.setCell (Q.setCell (Q.setCell (Q.setCell hS (ad := ⟨bN, 0, none⟩) HW_bN.out (.int .i64 n0)) (ad := ⟨bN, 1, none⟩) HW_bN.out (.int .i64 n1)) (ad := ⟨bN, 2, none⟩) HW_bN.out (.int .i64 0)) (ad := ⟨bN, 3, none⟩) HW_bN.out (.int .i64 0)) (ad := ⟨bN, 4, none⟩) HW_bN.out (.int .i64 0)) (ad := ⟨bN, 5, none⟩) HW_bN.out (.int .i64 n5)) (ad := ⟨bN, 6, none⟩) HW_bN.out (.int .i64 n6))
          replace HBN := Lib.hid (((((((HBN.out.set 0 (.int .i64 n0)).set 1 (.int .i64 n1)).set 2 (.int .i64 0)).set 3 (.int .i64 0)).set 4 (.int .i64 0)).set 5 (.int .i64 n5)).set 6 (.int .i64 n6))
          refine hK.out _ _ (by exact hS2) (fun hHeld => ?_)
          clear hK K hHeld hS
          have hS := hS2
          clear hS2 b0 f0 b1 f1 b2 f2 b3 f3 b4 f4 b5 f5 b6 f6
          generalize (((((((yR1x29.setCell ⟨bN, 0, none⟩ (.int .i64 n0)).setCell ⟨bN, 1, none⟩ (.int .i64 n1)).setCell ⟨bN, 2, none⟩ (.int .i64 0)).setCell ⟨bN, 3, none⟩ (.int .i64 0)).setCell ⟨bN, 4, none⟩ (.int .i64 0)).setCell ⟨bN, 5, none⟩ (.int .i64 n5)).setCell ⟨bN, 6, none⟩ (.int .i64 n6)) = yR1x32 at *
          try simp only [Act.put, sA, sB, sC]
          change wpAnyH _ _ _ _ _ _ #[tt,tt,tt,tt,tt,tt,tt,tt,tt,tt,tt,tt,tt,tt,tt,tt,tt,tt,tt,tt,tt] _ _
          refine wpAnyH_done (by kernel_rfl) ?_ _
          go_wp2_with fail
          go_meet
          exact ⟨bN, rfl, HW_bN.out, HBN.out, hS⟩
      · go_simp
        have hq := (Q.refl yR1x13).alloc (.cells #[.int .i64 0, .int .i64 0, .int .i64 0, .int .i64 0, .int .i64 0, .int .i64 0, .int .i64 0] 23)
        have HBN := Lib.hid (Bk.new yR1x13 23 [.int .i64 0, .int .i64 0, .int .i64 0, .int .i64 0, .int .i64 0, .int .i64 0, .int .i64 0])
        have HW_bN := Lib.hid (Q.le hS)
        have hS2 := Q.trans hS hq
        refine hK.out _ _ (by exact hS2) (fun hHeld => ?_)
        clear hK K hHeld hS hq
        have hS := hS2
        clear hS2
        generalize yR1x13.alloc (.cells #[.int .i64 0, .int .i64 0, .int .i64 0, .int .i64 0, .int .i64 0, .int .i64 0, .int .i64 0] 23) = yR1x33 at *
        generalize yR1x13.heap.size = bN at *
        try simp only [Act.put, sA, sB, sC]
        change wpAnyH _ _ _ _ _ _ #[tt,tt,tt,tt,tt,tt,tt,tt,ff,tt,tt,tt,ff,tt,tt,tt,ff,ff,ff,tt,ff] _ _
        refine wpAnyH_ready (rs := [8]) (by kernel_rfl) (by simp) ?_
        refine (AllReadyH.cons (by (try simp only [gA, gB, gC]); rfl) (fun K hK => ?_) AllReadyH.nil)
        go_simp
        refine (HA1.out _).mono ?_
        rintro e yR1x34 ⟨rfl, hq⟩
        try (go_wp2_with fail)
        have HBN := Lib.hid (Bk.q HBN.out hq)
        have hS2 := Q.trans hS hq
        refine hK.out _ _ (by exact hS2) (fun hHeld => ?_)
        clear hK K hHeld hS hq
        have hS := hS2
        clear hS2
        try simp only [Act.put, sA, sB, sC]
        change wpAnyH _ _ _ _ _ _ #[tt,tt,tt,tt,tt,tt,tt,tt,tt,tt,tt,tt,ff,tt,tt,tt,ff,ff,ff,tt,ff] _ _
        refine wpAnyH_ready (rs := [12]) (by kernel_rfl) (by simp) ?_
        refine (AllReadyH.cons (by (try simp only [gA, gB, gC]); rfl) (fun K hK => ?_) AllReadyH.nil)
        go_simp
        refine (HA5.out _).mono ?_
        rintro e yR1x35 ⟨rfl, hq⟩
        try (go_wp2_with fail)
        have HBN := Lib.hid (Bk.q HBN.out hq)
        have hS2 := Q.trans hS hq
        refine hK.out _ _ (by exact hS2) (fun hHeld => ?_)
        clear hK K hHeld hS hq
        have hS := hS2
        clear hS2
        try simp only [Act.put, sA, sB, sC]
        change wpAnyH _ _ _ _ _ _ #[tt,tt,tt,tt,tt,tt,tt,tt,tt,tt,tt,tt,tt,tt,tt,tt,ff,ff,ff,tt,ff] _ _
        refine wpAnyH_ready (rs := [16]) (by kernel_rfl) (by simp) ?_
        refine (AllReadyH.cons (by (try simp only [gA, gB, gC]); rfl) (fun K hK => ?_) AllReadyH.nil)
        go_simp
        refine (HA6.out _).mono ?_
        rintro e yR1x36 ⟨rfl, hq⟩
        try (go_wp2_with fail)
        have HBN := Lib.hid (Bk.q HBN.out hq)
        have hS2 := Q.trans hS hq
        refine hK.out _ _ (by exact hS2) (fun hHeld => ?_)
        clear hK K hHeld hS hq
        have hS := hS2
        clear hS2
        try simp only [Act.put, sA, sB, sC]
        change wpAnyH _ _ _ _ _ _ #[tt,tt,tt,tt,tt,tt,tt,tt,tt,tt,tt,tt,tt,tt,tt,tt,tt,ff,ff,tt,ff] _ _
        refine wpAnyH_take (i := 17) (v := ?vR1x37) (by (try simp only [gA, gB, gC]); rfl) (by kernel_rfl) (by kernel_rfl) (by kernel_rfl) (by exact fun _ _ _ h => h) (Or.inl ⟨by first | kernel_rfl | rfl, ?hyR1x37⟩) (by exact hS) ?rsR1x37
        case hyR1x37 => (intro uz hSw; (try dsimp only at hSw); go_simp; try with_reducible rfl)
        try simp only [Act.put, sA, sB, sC]
        change wpAnyH _ _ _ _ _ _ #[tt,tt,tt,tt,tt,tt,tt,tt,tt,tt,tt,tt,tt,tt,tt,tt,tt,tt,ff,tt,ff] _ _
        refine wpAnyH_take (i := 18) (v := ?vR1x38) (by (try simp only [gA, gB, gC]); rfl) (by kernel_rfl) (by kernel_rfl) (by kernel_rfl) (by exact fun _ _ _ h => h) (Or.inl ⟨by first | kernel_rfl | rfl, ?hyR1x38⟩) (by exact hS) ?rsR1x38
        case hyR1x38 => (intro uz hSw; (try dsimp only at hSw); go_simp; try with_reducible rfl)
        try simp only [Act.put, sA, sB, sC]
        change wpAnyH _ _ _ _ _ _ #[tt,tt,tt,tt,tt,tt,tt,tt,tt,tt,tt,tt,tt,tt,tt,tt,tt,tt,tt,tt,ff] _ _
        refine wpAnyH_ready (rs := [20]) (by kernel_rfl) (by simp) ?_
        refine (AllReadyH.cons (by (try simp only [gA, gB, gC]); rfl) (fun K hK => ?_) AllReadyH.nil)
        have b0 := HBN.out.cell 0 rfl
        have f0 := HBN.out.free 0
        have b1 := HBN.out.cell 1 rfl
        have f1 := HBN.out.free 1
        have b2 := HBN.out.cell 2 rfl
        have f2 := HBN.out.free 2
        have b3 := HBN.out.cell 3 rfl
        have f3 := HBN.out.free 3
        have b4 := HBN.out.cell 4 rfl
        have f4 := HBN.out.free 4
        have b5 := HBN.out.cell 5 rfl
        have f5 := HBN.out.free 5
        have b6 := HBN.out.cell 6 rfl
        have f6 := HBN.out.free 6
        go_simp
        have hS2 := (Q.setCell (Q.setCell (Q.setCell (Q.setCell (Q.setCell (Q.setCell (Q.setCell hS (ad := ⟨bN, 0, none⟩) HW_bN.out (.int .i64 n0)) (ad := ⟨bN, 1, none⟩) HW_bN.out (.int .i64 n1)) (ad := ⟨bN, 2, none⟩) HW_bN.out (.int .i64 0)) (ad := ⟨bN, 3, none⟩) HW_bN.out (.int .i64 0)) (ad := ⟨bN, 4, none⟩) HW_bN.out (.int .i64 0)) (ad := ⟨bN, 5, none⟩) HW_bN.out (.int .i64 n5)) (ad := ⟨bN, 6, none⟩) HW_bN.out (.int .i64 n6))
        replace HBN := Lib.hid (((((((HBN.out.set 0 (.int .i64 n0)).set 1 (.int .i64 n1)).set 2 (.int .i64 0)).set 3 (.int .i64 0)).set 4 (.int .i64 0)).set 5 (.int .i64 n5)).set 6 (.int .i64 n6))
        refine hK.out _ _ (by exact hS2) (fun hHeld => ?_)
        clear hK K hHeld hS
        have hS := hS2
        clear hS2 b0 f0 b1 f1 b2 f2 b3 f3 b4 f4 b5 f5 b6 f6
        generalize (((((((yR1x36.setCell ⟨bN, 0, none⟩ (.int .i64 n0)).setCell ⟨bN, 1, none⟩ (.int .i64 n1)).setCell ⟨bN, 2, none⟩ (.int .i64 0)).setCell ⟨bN, 3, none⟩ (.int .i64 0)).setCell ⟨bN, 4, none⟩ (.int .i64 0)).setCell ⟨bN, 5, none⟩ (.int .i64 n5)).setCell ⟨bN, 6, none⟩ (.int .i64 n6)) = yR1x39 at *
        try simp only [Act.put, sA, sB, sC]
        change wpAnyH _ _ _ _ _ _ #[tt,tt,tt,tt,tt,tt,tt,tt,tt,tt,tt,tt,tt,tt,tt,tt,tt,tt,tt,tt,tt] _ _
        refine wpAnyH_done (by kernel_rfl) ?_ _
        go_wp2_with fail
        go_meet
        exact ⟨bN, rfl, HW_bN.out, HBN.out, hS⟩
    · go_simp
      have hq := (Q.refl yR1x0).alloc (.cells #[.int .i64 0, .int .i64 0, .int .i64 0, .int .i64 0, .int .i64 0, .int .i64 0, .int .i64 0] 23)
      have HBN := Lib.hid (Bk.new yR1x0 23 [.int .i64 0, .int .i64 0, .int .i64 0, .int .i64 0, .int .i64 0, .int .i64 0, .int .i64 0])
      have HW_bN := Lib.hid (Q.le hS)
      have hS2 := Q.trans hS hq
      refine hK.out _ _ (by exact hS2) (fun hHeld => ?_)
      clear hK K hHeld hS hq
      have hS := hS2
      clear hS2
      generalize yR1x0.alloc (.cells #[.int .i64 0, .int .i64 0, .int .i64 0, .int .i64 0, .int .i64 0, .int .i64 0, .int .i64 0] 23) = yR1x40 at *
      generalize yR1x0.heap.size = bN at *
      try simp only [Act.put, sA, sB, sC]
      change wpAnyH _ _ _ _ _ _ #[tt,tt,tt,ff,ff,tt,tt,tt,ff,tt,tt,tt,ff,tt,tt,tt,ff,ff,ff,tt,ff] _ _
      refine wpAnyH_ready (rs := [3]) (by kernel_rfl) (by simp) ?_
      refine (AllReadyH.cons (by (try simp only [gA, gB, gC]); rfl) (fun K hK => ?_) AllReadyH.nil)
      go_simp
      refine (HA0.out _).mono ?_
      rintro e yR1x41 ⟨rfl, hq⟩
      try (go_wp2_with fail)
      have HBN := Lib.hid (Bk.q HBN.out hq)
      have hS2 := Q.trans hS hq
      refine hK.out _ _ (by exact hS2) (fun hHeld => ?_)
      clear hK K hHeld hS hq
      have hS := hS2
      clear hS2
      try simp only [Act.put, sA, sB, sC]
      change wpAnyH _ _ _ _ _ _ #[tt,tt,tt,tt,ff,tt,tt,tt,ff,tt,tt,tt,ff,tt,tt,tt,ff,ff,ff,tt,ff] _ _
      refine wpAnyH_take (i := 4) (v := ?vR1x42) (by (try simp only [gA, gB, gC]); rfl) (by kernel_rfl) (by kernel_rfl) (by kernel_rfl) (by exact fun _ _ _ h => h) (Or.inl ⟨by first | kernel_rfl | rfl, ?hyR1x42⟩) (by exact hS) ?rsR1x42
      case hyR1x42 => (intro uz hSw; (try dsimp only at hSw); go_simp; try with_reducible rfl)
      try simp only [Act.put, sA, sB, sC]
      change wpAnyH _ _ _ _ _ _ #[tt,tt,tt,tt,tt,tt,tt,tt,ff,tt,tt,tt,ff,tt,tt,tt,ff,ff,ff,tt,ff] _ _
      refine wpAnyH_ready (rs := [8]) (by kernel_rfl) (by simp) ?_
      refine (AllReadyH.cons (by (try simp only [gA, gB, gC]); rfl) (fun K hK => ?_) AllReadyH.nil)
      go_simp
      refine (HA1.out _).mono ?_
      rintro e yR1x43 ⟨rfl, hq⟩
      try (go_wp2_with fail)
      have HBN := Lib.hid (Bk.q HBN.out hq)
      have hS2 := Q.trans hS hq
      refine hK.out _ _ (by exact hS2) (fun hHeld => ?_)
      clear hK K hHeld hS hq
      have hS := hS2
      clear hS2
      try simp only [Act.put, sA, sB, sC]
      change wpAnyH _ _ _ _ _ _ #[tt,tt,tt,tt,tt,tt,tt,tt,tt,tt,tt,tt,ff,tt,tt,tt,ff,ff,ff,tt,ff] _ _
      refine wpAnyH_ready (rs := [12]) (by kernel_rfl) (by simp) ?_
      refine (AllReadyH.cons (by (try simp only [gA, gB, gC]); rfl) (fun K hK => ?_) AllReadyH.nil)
      go_simp
      refine (HA5.out _).mono ?_
      rintro e yR1x44 ⟨rfl, hq⟩
      try (go_wp2_with fail)
      have HBN := Lib.hid (Bk.q HBN.out hq)
      have hS2 := Q.trans hS hq
      refine hK.out _ _ (by exact hS2) (fun hHeld => ?_)
      clear hK K hHeld hS hq
      have hS := hS2
      clear hS2
      try simp only [Act.put, sA, sB, sC]
      change wpAnyH _ _ _ _ _ _ #[tt,tt,tt,tt,tt,tt,tt,tt,tt,tt,tt,tt,tt,tt,tt,tt,ff,ff,ff,tt,ff] _ _
      refine wpAnyH_ready (rs := [16]) (by kernel_rfl) (by simp) ?_
      refine (AllReadyH.cons (by (try simp only [gA, gB, gC]); rfl) (fun K hK => ?_) AllReadyH.nil)
      go_simp
      refine (HA6.out _).mono ?_
      rintro e yR1x45 ⟨rfl, hq⟩
      try (go_wp2_with fail)
      have HBN := Lib.hid (Bk.q HBN.out hq)
      have hS2 := Q.trans hS hq
      refine hK.out _ _ (by exact hS2) (fun hHeld => ?_)
      clear hK K hHeld hS hq
      have hS := hS2
      clear hS2
      try simp only [Act.put, sA, sB, sC]
      change wpAnyH _ _ _ _ _ _ #[tt,tt,tt,tt,tt,tt,tt,tt,tt,tt,tt,tt,tt,tt,tt,tt,tt,ff,ff,tt,ff] _ _
      refine wpAnyH_take (i := 17) (v := ?vR1x46) (by (try simp only [gA, gB, gC]); rfl) (by kernel_rfl) (by kernel_rfl) (by kernel_rfl) (by exact fun _ _ _ h => h) (Or.inl ⟨by first | kernel_rfl | rfl, ?hyR1x46⟩) (by exact hS) ?rsR1x46
      case hyR1x46 => (intro uz hSw; (try dsimp only at hSw); go_simp; try with_reducible rfl)
      try simp only [Act.put, sA, sB, sC]
      change wpAnyH _ _ _ _ _ _ #[tt,tt,tt,tt,tt,tt,tt,tt,tt,tt,tt,tt,tt,tt,tt,tt,tt,tt,ff,tt,ff] _ _
      refine wpAnyH_take (i := 18) (v := ?vR1x47) (by (try simp only [gA, gB, gC]); rfl) (by kernel_rfl) (by kernel_rfl) (by kernel_rfl) (by exact fun _ _ _ h => h) (Or.inl ⟨by first | kernel_rfl | rfl, ?hyR1x47⟩) (by exact hS) ?rsR1x47
      case hyR1x47 => (intro uz hSw; (try dsimp only at hSw); go_simp; try with_reducible rfl)
      try simp only [Act.put, sA, sB, sC]
      change wpAnyH _ _ _ _ _ _ #[tt,tt,tt,tt,tt,tt,tt,tt,tt,tt,tt,tt,tt,tt,tt,tt,tt,tt,tt,tt,ff] _ _
      refine wpAnyH_ready (rs := [20]) (by kernel_rfl) (by simp) ?_
      refine (AllReadyH.cons (by (try simp only [gA, gB, gC]); rfl) (fun K hK => ?_) AllReadyH.nil)
      have b0 := HBN.out.cell 0 rfl
      have f0 := HBN.out.free 0
      have b1 := HBN.out.cell 1 rfl
      have f1 := HBN.out.free 1
      have b2 := HBN.out.cell 2 rfl
      have f2 := HBN.out.free 2
      have b3 := HBN.out.cell 3 rfl
      have f3 := HBN.out.free 3
      have b4 := HBN.out.cell 4 rfl
      have f4 := HBN.out.free 4
      have b5 := HBN.out.cell 5 rfl
      have f5 := HBN.out.free 5
      have b6 := HBN.out.cell 6 rfl
      have f6 := HBN.out.free 6
      go_simp
      have hS2 := (Q.setCell (Q.setCell (Q.setCell (Q.setCell (Q.setCell (Q.setCell (Q.setCell hS (ad := ⟨bN, 0, none⟩) HW_bN.out (.int .i64 n0)) (ad := ⟨bN, 1, none⟩) HW_bN.out (.int .i64 n1)) (ad := ⟨bN, 2, none⟩) HW_bN.out (.int .i64 0)) (ad := ⟨bN, 3, none⟩) HW_bN.out (.int .i64 0)) (ad := ⟨bN, 4, none⟩) HW_bN.out (.int .i64 0)) (ad := ⟨bN, 5, none⟩) HW_bN.out (.int .i64 n5)) (ad := ⟨bN, 6, none⟩) HW_bN.out (.int .i64 n6))
      replace HBN := Lib.hid (((((((HBN.out.set 0 (.int .i64 n0)).set 1 (.int .i64 n1)).set 2 (.int .i64 0)).set 3 (.int .i64 0)).set 4 (.int .i64 0)).set 5 (.int .i64 n5)).set 6 (.int .i64 n6))
      refine hK.out _ _ (by exact hS2) (fun hHeld => ?_)
      clear hK K hHeld hS
      have hS := hS2
      clear hS2 b0 f0 b1 f1 b2 f2 b3 f3 b4 f4 b5 f5 b6 f6
      generalize (((((((yR1x45.setCell ⟨bN, 0, none⟩ (.int .i64 n0)).setCell ⟨bN, 1, none⟩ (.int .i64 n1)).setCell ⟨bN, 2, none⟩ (.int .i64 0)).setCell ⟨bN, 3, none⟩ (.int .i64 0)).setCell ⟨bN, 4, none⟩ (.int .i64 0)).setCell ⟨bN, 5, none⟩ (.int .i64 n5)).setCell ⟨bN, 6, none⟩ (.int .i64 n6)) = yR1x48 at *
      try simp only [Act.put, sA, sB, sC]
      change wpAnyH _ _ _ _ _ _ #[tt,tt,tt,tt,tt,tt,tt,tt,tt,tt,tt,tt,tt,tt,tt,tt,tt,tt,tt,tt,tt] _ _
      refine wpAnyH_done (by kernel_rfl) ?_ _
      go_wp2_with fail
      go_meet
      exact ⟨bN, rfl, HW_bN.out, HBN.out, hS⟩
  case rest =>
    obtain ⟨bN, rfl, hwb, hbn, hqc⟩ := hcut
    obtain ⟨u1, hu1⟩ : ∃ x, x = wc := ⟨_, rfl⟩
    subst hu1
    have HBN := Lib.hid hbn
    replace HG := Lib.hid (HG.out.q hqc)
    replace HB := Lib.hid (HB.out.q hqc)
    have HNB := Lib.hid (show w.heap.size + 1 < bN ∧ bN < u1.heap.size from ⟨by have h1 := (show w.heap.size + 1 < z.heap.size from HZB.out); omega, hbn.lt⟩)
    replace HQ := Lib.hid (HQ.out.trans hqc)
    clear hqc hwb hbn w0 w6
    have g10 := HG.out.cell 10 rfl
    have m1 := HBN.out.cell 1 rfl
    go_wp2_with fail
    refine (HA2.out _).mono ?_
    rintro e u ⟨rfl, hq⟩
    have HGx := Lib.hid (HG.out.q hq)
    have HBx := Lib.hid (HB.out.q hq)
    have HNx := Lib.hid (HBN.out.q hq)
    have HQx := Lib.hid (HQ.out.trans hq)
    have HNL := hq.le
    clear HG HB HBN HQ hq g10 m1
    have f2 := HNx.out.free 2
    have m2 := HNx.out.cell 2 rfl
    obtain ⟨u2, hu2⟩ : ∃ y, y = u.setCell ⟨bN, 2, none⟩ (.int .i64 n2) := ⟨_, rfl⟩
    have HBN := Lib.hid (show Bk u2 bN 23 [.int .i64 n0, .int .i64 n1, .int .i64 n2, .int .i64 0, .int .i64 0, .int .i64 n5, .int .i64 n6] by rw [hu2]; exact HNx.out.set 2 _)
    have HG := Lib.hid (show Bk u2 w.heap.size 30 [.bool gl, .slice al ll cl, .int .i64 sl, .bool gh, .slice ah lh ch, .int .i64 sh, .slice az ls cs, .bool sm, .int .i64 i0, .int .i64 i1, .int .i64 i2, .int .i64 i3, .int .i64 i4, .int .i64 i5, .int .i64 i6] by rw [hu2]; exact HGx.out.past (by have := HNB.out; omega) _)
    have HB := Lib.hid (show Bk u2 (w.heap.size + 1) 25 [.string ⟨#[]⟩, .string ⟨#[]⟩, .string ⟨#[]⟩, .int .i64 0, .int .i64 0, .int .i64 0, .int .i64 0, .int .i64 0, .int .i64 0, .int .i64 0] by rw [hu2]; exact HBx.out.past (by have := HNB.out; omega) _)
    have HQ := Lib.hid (show Q w u2 by rw [hu2]; exact HQx.out.setCell (ad := ⟨bN, 2, none⟩) (show w.heap.size ≤ bN by have := HNB.out; omega) _)
    replace HNB := Lib.hid (show w.heap.size + 1 < bN ∧ bN < u2.heap.size from ⟨HNB.out.1, HBN.out.lt⟩)
    go_upto_region 3 with fail
    rw [← hu2]
    clear hu2 HGx HBx HNx HQx HNL f2 m2
    have g11 := HG.out.cell 11 rfl
    have m0 := HBN.out.cell 0 rfl
    go_wp2_with fail
    refine (HA3.out _).mono ?_
    rintro e u ⟨rfl, hq⟩
    have HGx := Lib.hid (HG.out.q hq)
    have HBx := Lib.hid (HB.out.q hq)
    have HNx := Lib.hid (HBN.out.q hq)
    have HQx := Lib.hid (HQ.out.trans hq)
    have HNL := hq.le
    clear HG HB HBN HQ hq g11 m0
    have f3 := HNx.out.free 3
    have m3 := HNx.out.cell 3 rfl
    obtain ⟨u3, hu3⟩ : ∃ y, y = u.setCell ⟨bN, 3, none⟩ (.int .i64 n3) := ⟨_, rfl⟩
    have HBN := Lib.hid (show Bk u3 bN 23 [.int .i64 n0, .int .i64 n1, .int .i64 n2, .int .i64 n3, .int .i64 0, .int .i64 n5, .int .i64 n6] by rw [hu3]; exact HNx.out.set 3 _)
    have HG := Lib.hid (show Bk u3 w.heap.size 30 [.bool gl, .slice al ll cl, .int .i64 sl, .bool gh, .slice ah lh ch, .int .i64 sh, .slice az ls cs, .bool sm, .int .i64 i0, .int .i64 i1, .int .i64 i2, .int .i64 i3, .int .i64 i4, .int .i64 i5, .int .i64 i6] by rw [hu3]; exact HGx.out.past (by have := HNB.out; omega) _)
    have HB := Lib.hid (show Bk u3 (w.heap.size + 1) 25 [.string ⟨#[]⟩, .string ⟨#[]⟩, .string ⟨#[]⟩, .int .i64 0, .int .i64 0, .int .i64 0, .int .i64 0, .int .i64 0, .int .i64 0, .int .i64 0] by rw [hu3]; exact HBx.out.past (by have := HNB.out; omega) _)
    have HQ := Lib.hid (show Q w u3 by rw [hu3]; exact HQx.out.setCell (ad := ⟨bN, 3, none⟩) (show w.heap.size ≤ bN by have := HNB.out; omega) _)
    replace HNB := Lib.hid (show w.heap.size + 1 < bN ∧ bN < u3.heap.size from ⟨HNB.out.1, HBN.out.lt⟩)
    go_upto_region 4 with fail
    rw [← hu3]
    clear hu3 HGx HBx HNx HQx HNL f3 m3
    have g12 := HG.out.cell 12 rfl
    have m2 := HBN.out.cell 2 rfl
    go_wp2_with fail
    refine (HA4.out _).mono ?_
    rintro e u ⟨rfl, hq⟩
    have HGx := Lib.hid (HG.out.q hq)
    have HBx := Lib.hid (HB.out.q hq)
    have HNx := Lib.hid (HBN.out.q hq)
    have HQx := Lib.hid (HQ.out.trans hq)
    have HNL := hq.le
    clear HG HB HBN HQ hq g12 m2
    have f4 := HNx.out.free 4
    have m4 := HNx.out.cell 4 rfl
    obtain ⟨u4, hu4⟩ : ∃ y, y = u.setCell ⟨bN, 4, none⟩ (.int .i64 n4) := ⟨_, rfl⟩
    have HBN := Lib.hid (show Bk u4 bN 23 [.int .i64 n0, .int .i64 n1, .int .i64 n2, .int .i64 n3, .int .i64 n4, .int .i64 n5, .int .i64 n6] by rw [hu4]; exact HNx.out.set 4 _)
    have HG := Lib.hid (show Bk u4 w.heap.size 30 [.bool gl, .slice al ll cl, .int .i64 sl, .bool gh, .slice ah lh ch, .int .i64 sh, .slice az ls cs, .bool sm, .int .i64 i0, .int .i64 i1, .int .i64 i2, .int .i64 i3, .int .i64 i4, .int .i64 i5, .int .i64 i6] by rw [hu4]; exact HGx.out.past (by have := HNB.out; omega) _)
    have HB := Lib.hid (show Bk u4 (w.heap.size + 1) 25 [.string ⟨#[]⟩, .string ⟨#[]⟩, .string ⟨#[]⟩, .int .i64 0, .int .i64 0, .int .i64 0, .int .i64 0, .int .i64 0, .int .i64 0, .int .i64 0] by rw [hu4]; exact HBx.out.past (by have := HNB.out; omega) _)
    have HQ := Lib.hid (show Q w u4 by rw [hu4]; exact HQx.out.setCell (ad := ⟨bN, 4, none⟩) (show w.heap.size ≤ bN by have := HNB.out; omega) _)
    replace HNB := Lib.hid (show w.heap.size + 1 < bN ∧ bN < u4.heap.size from ⟨HNB.out.1, HBN.out.lt⟩)
    go_upto_region 5 with fail
    rw [← hu4]
    clear hu4 HGx HBx HNx HQx HNL f4 m4
    have g0 := HG.out.cell 0 rfl
    have g1 := HG.out.cell 1 rfl
    have g2 := HG.out.cell 2 rfl
    have m0 := HBN.out.cell 0 rfl
    have m2 := HBN.out.cell 2 rfl
    go_wp2_with fail
    refine (HGL.out _ HQ.out).mono ?_
    rintro e u ⟨vX, rfl, hx, hq⟩
    obtain ⟨aX, cX, rfl⟩ := hx.shape
    rw [HXN.out] at hx ⊢
    obtain ⟨u5, hu5⟩ : ∃ y, y = u.alloc (.cells #[.bool gl, .slice aX xn cX, .int .i64 tl] 28) := ⟨_, rfl⟩
    have hqa : Q u4 u5 := by rw [hu5]; exact hq.alloc _
    have hqb : Q u u5 := by rw [hu5]; exact (Q.refl _).alloc _
    have hbx : Bk u5 u.heap.size 28 [.bool gl, .slice aX xn cX, .int .i64 tl] := by rw [hu5]; exact Bk.new _ _ _
    obtain ⟨bX, hbX⟩ : ∃ b, b = u.heap.size := ⟨_, rfl⟩
    rw [← hbX] at hbx
    have HDX := Lib.hid hbx
    have HLX := Lib.hid (hx.lst.q hqb)
    have HANX := Lib.hid (Ap.lf hx (b := bN) (by have := HNB.out; omega))
    have HARX := Lib.hid (Ap.lf hx (b := w.heap.size + 1) (by have := HNB.out; omega))
    have HAXX := Lib.hid (Ap.new hx.lst (b := bX) (by omega))
    have HBX := Lib.hid (show bN < bX ∧ bX < u5.heap.size from ⟨by have h1 := HNB.out; have h2 := hq.le; omega, hbx.lt⟩)
    replace HG := Lib.hid (HG.out.q hqa)
    replace HB := Lib.hid (HB.out.q hqa)
    replace HBN := Lib.hid (HBN.out.q hqa)
    replace HNB := Lib.hid (⟨HNB.out.1, HBN.out.lt⟩ : _ ∧ _)
    replace HQ := Lib.hid (HQ.out.trans hqa)
    clear hx hq hqa hqb hbx g0 g1 g2 m0 m2
    go_upto_region 6 with fail
    rw [← hu5, ← hbX]
    clear hu5 hbX
    have g3 := HG.out.cell 3 rfl
    have g4 := HG.out.cell 4 rfl
    have g5 := HG.out.cell 5 rfl
    have m0 := HBN.out.cell 0 rfl
    have m2 := HBN.out.cell 2 rfl
    go_wp2_with fail
    refine (HGH.out _ HQ.out).mono ?_
    rintro e u ⟨vY, rfl, hx, hq⟩
    obtain ⟨aY, cY, rfl⟩ := hx.shape
    rw [HYN.out] at hx ⊢
    obtain ⟨u6, hu6⟩ : ∃ y, y = u.alloc (.cells #[.bool gh, .slice aY yn cY, .int .i64 th] 28) := ⟨_, rfl⟩
    have hqa : Q u5 u6 := by rw [hu6]; exact hq.alloc _
    have hqb : Q u u6 := by rw [hu6]; exact (Q.refl _).alloc _
    have hbx : Bk u6 u.heap.size 28 [.bool gh, .slice aY yn cY, .int .i64 th] := by rw [hu6]; exact Bk.new _ _ _
    obtain ⟨bY, hbY⟩ : ∃ b, b = u.heap.size := ⟨_, rfl⟩
    rw [← hbY] at hbx
    have HDY := Lib.hid hbx
    have HLY := Lib.hid (hx.lst.q hqb)
    have HANY := Lib.hid (Ap.lf hx (b := bN) (by have := HNB.out; omega))
    have HARY := Lib.hid (Ap.lf hx (b := w.heap.size + 1) (by have := HNB.out; omega))
    have HAYY := Lib.hid (Ap.new hx.lst (b := bY) (by omega))
    have HBY := Lib.hid (show bN < bY ∧ bY < u6.heap.size from ⟨by have h1 := HNB.out; have h2 := hq.le; omega, hbx.lt⟩)
    have HAXY := Lib.hid (Ap.new HLX.out (b := bY) (by have h2 := hq.le; omega))
    have HAYX := Lib.hid (Ap.lf hx (b := bX) (by have h1 := HBX.out; omega))
    have HNEXY := Lib.hid (show bX < bY by have h1 := HBX.out; have h2 := hq.le; omega)
    replace HDX := Lib.hid (HDX.out.q hqa)
    replace HLX := Lib.hid (HLX.out.q hqa)
    replace HG := Lib.hid (HG.out.q hqa)
    replace HB := Lib.hid (HB.out.q hqa)
    replace HBN := Lib.hid (HBN.out.q hqa)
    replace HNB := Lib.hid (⟨HNB.out.1, HBN.out.lt⟩ : _ ∧ _)
    replace HQ := Lib.hid (HQ.out.trans hqa)
    clear hx hq hqa hqb hbx g3 g4 g5 m0 m2
    go_upto_region 7 with fail
    rw [← hu6, ← hbY]
    clear hu6 hbY
    have m2 := HBN.out.cell 2 rfl
    have f2 := HDX.out.free 2
    have d2 := HDX.out.cell 2 rfl
    obtain ⟨u7, hu7⟩ : ∃ y, y = u6.setCell ⟨bX, 2, none⟩ (.int .i64 n2) := ⟨_, rfl⟩
    replace HG := Lib.hid (show Bk u7 w.heap.size 30 [.bool gl, .slice al ll cl, .int .i64 sl, .bool gh, .slice ah lh ch, .int .i64 sh, .slice az ls cs, .bool sm, .int .i64 i0, .int .i64 i1, .int .i64 i2, .int .i64 i3, .int .i64 i4, .int .i64 i5, .int .i64 i6] by rw [hu7]; exact HG.out.past (by have h1 := HNB.out; have h2 := HBX.out; omega) _)
    replace HB := Lib.hid (show Bk u7 (w.heap.size + 1) 25 [.string ⟨#[]⟩, .string ⟨#[]⟩, .string ⟨#[]⟩, .int .i64 0, .int .i64 0, .int .i64 0, .int .i64 0, .int .i64 0, .int .i64 0, .int .i64 0] by rw [hu7]; exact HB.out.past (by have h1 := HNB.out; have h2 := HBX.out; omega) _)
    replace HBN := Lib.hid (show Bk u7 bN 23 [.int .i64 n0, .int .i64 n1, .int .i64 n2, .int .i64 n3, .int .i64 n4, .int .i64 n5, .int .i64 n6] by rw [hu7]; exact HBN.out.past (by have h1 := HNB.out; have h2 := HBX.out; omega) _)
    replace HDX := Lib.hid (show Bk u7 bX 28 [.bool gl, .slice aX xn cX, .int .i64 n2] by rw [hu7]; exact HDX.out.set 2 _)
    replace HDY := Lib.hid (show Bk u7 bY 28 [.bool gh, .slice aY yn cY, .int .i64 th] by rw [hu7]; exact HDY.out.past (by have h1 := HNEXY.out; omega) _)
    replace HLX := Lib.hid (show Lst u7 (.slice aX xn cX) X by rw [hu7]; exact HLX.out.setCell (ad := ⟨bX, 2, none⟩) _ HAXX.out)
    replace HLY := Lib.hid (show Lst u7 (.slice aY yn cY) Y by rw [hu7]; exact HLY.out.setCell (ad := ⟨bX, 2, none⟩) _ HAYX.out)
    replace HQ := Lib.hid (show Q w u7 by rw [hu7]; exact HQ.out.setCell (ad := ⟨bX, 2, none⟩) (show w.heap.size ≤ bX by have h1 := HNB.out; have h2 := HBX.out; omega) _)
    go_upto_region 8 with fail
    rw [← hu7]
    clear hu7 f2 d2 m2
    have m2 := HBN.out.cell 2 rfl
    have f2 := HDY.out.free 2
    have d2 := HDY.out.cell 2 rfl
    obtain ⟨u8, hu8⟩ : ∃ y, y = u7.setCell ⟨bY, 2, none⟩ (.int .i64 n2) := ⟨_, rfl⟩
    replace HG := Lib.hid (show Bk u8 w.heap.size 30 [.bool gl, .slice al ll cl, .int .i64 sl, .bool gh, .slice ah lh ch, .int .i64 sh, .slice az ls cs, .bool sm, .int .i64 i0, .int .i64 i1, .int .i64 i2, .int .i64 i3, .int .i64 i4, .int .i64 i5, .int .i64 i6] by rw [hu8]; exact HG.out.past (by have h1 := HNB.out; have h2 := HBY.out; omega) _)
    replace HB := Lib.hid (show Bk u8 (w.heap.size + 1) 25 [.string ⟨#[]⟩, .string ⟨#[]⟩, .string ⟨#[]⟩, .int .i64 0, .int .i64 0, .int .i64 0, .int .i64 0, .int .i64 0, .int .i64 0, .int .i64 0] by rw [hu8]; exact HB.out.past (by have h1 := HNB.out; have h2 := HBY.out; omega) _)
    replace HBN := Lib.hid (show Bk u8 bN 23 [.int .i64 n0, .int .i64 n1, .int .i64 n2, .int .i64 n3, .int .i64 n4, .int .i64 n5, .int .i64 n6] by rw [hu8]; exact HBN.out.past (by have h1 := HNB.out; have h2 := HBY.out; omega) _)
    replace HDX := Lib.hid (show Bk u8 bX 28 [.bool gl, .slice aX xn cX, .int .i64 n2] by rw [hu8]; exact HDX.out.past (by have h1 := HNEXY.out; omega) _)
    replace HDY := Lib.hid (show Bk u8 bY 28 [.bool gh, .slice aY yn cY, .int .i64 n2] by rw [hu8]; exact HDY.out.set 2 _)
    replace HLX := Lib.hid (show Lst u8 (.slice aX xn cX) X by rw [hu8]; exact HLX.out.setCell (ad := ⟨bY, 2, none⟩) _ HAXY.out)
    replace HLY := Lib.hid (show Lst u8 (.slice aY yn cY) Y by rw [hu8]; exact HLY.out.setCell (ad := ⟨bY, 2, none⟩) _ HAYY.out)
    replace HQ := Lib.hid (show Q w u8 by rw [hu8]; exact HQ.out.setCell (ad := ⟨bY, 2, none⟩) (show w.heap.size ≤ bY by have h1 := HNB.out; have h2 := HBY.out; omega) _)
    go_upto_region 9 with fail
    rw [← hu8]
    clear hu8 f2 d2 m2
    have hdx := HDX.out
    have hdy := HDY.out
    have x0 := hdx.cell 0 rfl
    have z0 := hdy.cell 0 rfl
    have x1 := hdx.cell 1 rfl
    have z1 := hdy.cell 1 rfl
    have x2 := hdx.cell 2 rfl
    have z2 := hdy.cell 2 rfl
    clear hdx hdy
    go_wp2_with fail
    refine (HCM.out _ _ _ HLX.out HLY.out).mono ?_
    rintro e u9 ⟨rfl, hq⟩
    replace HG := Lib.hid (HG.out.q hq)
    replace HB := Lib.hid (HB.out.q hq)
    replace HBN := Lib.hid (HBN.out.q hq)
    replace HDX := Lib.hid (HDX.out.q hq)
    replace HDY := Lib.hid (HDY.out.q hq)
    replace HLX := Lib.hid (HLX.out.q hq)
    replace HLY := Lib.hid (HLY.out.q hq)
    replace HQ := Lib.hid (HQ.out.trans hq)
    clear hq x0 z0 x1 z1 x2 z2
    by_cases hsw : 0 < K
    · skip
      obtain ⟨rfl, rfl, rfl, rfl⟩ : gh = ga ∧ Y = A ∧ gl = gb ∧ X = B := by
        have h := HAB.out
        rw [if_pos hsw] at h
        injection h with h1 h
        injection h with h2 h
        injection h with h3 h4
        exact ⟨h1.symm, h2.symm, h3.symm, h4.symm⟩
      clear HAB HCM HA0 HA1 HA2 HA3 HA4 HA5 HA6 HGL HGH
      have hdx := HDX.out
      have hdy := HDY.out
      have x0 := hdx.cell 0 rfl
      have z0 := hdy.cell 0 rfl
      have p0 := hdx.free 0
      have q0 := hdy.free 0
      have x1 := hdx.cell 1 rfl
      have z1 := hdy.cell 1 rfl
      have p1 := hdx.free 1
      have q1 := hdy.free 1
      have x2 := hdx.cell 2 rfl
      have z2 := hdy.cell 2 rfl
      have p2 := hdx.free 2
      have q2 := hdy.free 2
      clear hdx hdy
      obtain ⟨u10, hu10⟩ : ∃ y, y = ((((((u9.setCell ⟨bX, 0, none⟩ (.bool gh)).setCell ⟨bX, 1, none⟩ (.slice aY yn cY)).setCell ⟨bX, 2, none⟩ (.int .i64 n2)).setCell ⟨bY, 0, none⟩ (.bool gl)).setCell ⟨bY, 1, none⟩ (.slice aX xn cX)).setCell ⟨bY, 2, none⟩ (.int .i64 n2)) := ⟨_, rfl⟩
      have HSX := Lib.hid (fun (u : World) (v : Value) (zs : List Int) (h : Lst u v zs) (hx : Ap v bX) => ((h.setCell (ad := ⟨bX, 0, none⟩) (.bool gh) hx).setCell (ad := ⟨bX, 1, none⟩) (.slice aY yn cY) hx).setCell (ad := ⟨bX, 2, none⟩) (.int .i64 n2) hx)
      have HSY := Lib.hid (fun (u : World) (v : Value) (zs : List Int) (h : Lst u v zs) (hx : Ap v bY) => ((h.setCell (ad := ⟨bY, 0, none⟩) (.bool gl) hx).setCell (ad := ⟨bY, 1, none⟩) (.slice aX xn cX) hx).setCell (ad := ⟨bY, 2, none⟩) (.int .i64 n2) hx)
      replace HLX := Lib.hid (show Lst u10 (.slice aX xn cX) X by rw [hu10]; exact HSY.out _ _ _ (HSX.out _ _ _ HLX.out HAXX.out) HAXY.out)
      replace HLY := Lib.hid (show Lst u10 (.slice aY yn cY) Y by rw [hu10]; exact HSY.out _ _ _ (HSX.out _ _ _ HLY.out HAYX.out) HAYY.out)
      replace HG := Lib.hid (show Bk u10 w.heap.size 30 [.bool gl, .slice al ll cl, .int .i64 sl, .bool gh, .slice ah lh ch, .int .i64 sh, .slice az ls cs, .bool sm, .int .i64 i0, .int .i64 i1, .int .i64 i2, .int .i64 i3, .int .i64 i4, .int .i64 i5, .int .i64 i6] by
        have hn1 : bX ≠ w.heap.size := by have h1 := HNB.out; have h2 := HBX.out; omega
        have hn2 : bY ≠ w.heap.size := by have h1 := HNB.out; have h2 := HBY.out; omega
        rw [hu10]; exact ((((((HG.out.past hn1 _).past hn1 _).past hn1 _).past hn2 _).past hn2 _).past hn2 _))
      replace HB := Lib.hid (show Bk u10 (w.heap.size + 1) 25 [.string ⟨#[]⟩, .string ⟨#[]⟩, .string ⟨#[]⟩, .int .i64 0, .int .i64 0, .int .i64 0, .int .i64 0, .int .i64 0, .int .i64 0, .int .i64 0] by
        have hn1 : bX ≠ (w.heap.size + 1) := by have h1 := HNB.out; have h2 := HBX.out; omega
        have hn2 : bY ≠ (w.heap.size + 1) := by have h1 := HNB.out; have h2 := HBY.out; omega
        rw [hu10]; exact ((((((HB.out.past hn1 _).past hn1 _).past hn1 _).past hn2 _).past hn2 _).past hn2 _))
      replace HBN := Lib.hid (show Bk u10 bN 23 [.int .i64 n0, .int .i64 n1, .int .i64 n2, .int .i64 n3, .int .i64 n4, .int .i64 n5, .int .i64 n6] by
        have hn1 : bX ≠ bN := by have h1 := HNB.out; have h2 := HBX.out; omega
        have hn2 : bY ≠ bN := by have h1 := HNB.out; have h2 := HBY.out; omega
        rw [hu10]; exact ((((((HBN.out.past hn1 _).past hn1 _).past hn1 _).past hn2 _).past hn2 _).past hn2 _))
      replace HDX := Lib.hid (show Bk u10 bX 28 [.bool gh, .slice aY yn cY, .int .i64 n2] by
        have hn : bY ≠ bX := by have := HNEXY.out; omega
        rw [hu10]; exact (((((HDX.out.set 0 (.bool gh)).set 1 (.slice aY yn cY)).set 2 (.int .i64 n2)).past hn _).past hn _).past hn _)
      replace HDY := Lib.hid (show Bk u10 bY 28 [.bool gl, .slice aX xn cX, .int .i64 n2] by
        have hn : bX ≠ bY := by have := HNEXY.out; omega
        rw [hu10]; exact (((((HDY.out.past hn _).past hn _).past hn _).set 0 (.bool gl)).set 1 (.slice aX xn cX)).set 2 (.int .i64 n2))
      replace HQ := Lib.hid (show Q w u10 by
        have hx : w.heap.size ≤ bX := by have h1 := HNB.out; have h2 := HBX.out; omega
        have hy : w.heap.size ≤ bY := by have h1 := HNB.out; have h2 := HBY.out; omega
        rw [hu10]; exact (Q.setCell (Q.setCell (Q.setCell (Q.setCell (Q.setCell (Q.setCell HQ.out (ad := ⟨bX, 0, none⟩) hx (.bool gh)) (ad := ⟨bX, 1, none⟩) hx (.slice aY yn cY)) (ad := ⟨bX, 2, none⟩) hx (.int .i64 n2)) (ad := ⟨bY, 0, none⟩) hy (.bool gl)) (ad := ⟨bY, 1, none⟩) hy (.slice aX xn cX)) (ad := ⟨bY, 2, none⟩) hy (.int .i64 n2)))
      have hn1 : bX ≠ bY := by have := HNEXY.out; omega
      have hn2 : bY ≠ bX := by have := HNEXY.out; omega
      clear HSX HSY
      go_upto_region 11 with fail
      rw [← hu10]
      clear hu10 hn1 hn2 x0 z0 p0 q0 x1 z1 p1 q1 x2 z2 p2 q2
      have m2 := (HBN.out.q ((Q.refl u10).alloc (.cells #[.int .i64 1] 3))).cell 2 rfl
      obtain ⟨u11, hu11⟩ : ∃ y, y = (u10.alloc (.cells #[.int .i64 1] 3)).alloc (.cells #[.bool false, .slice (some ⟨u10.heap.size, 0, none⟩) 1 1, .int .i64 n2] 28) := ⟨_, rfl⟩
      have hqa : Q u10 u11 := by rw [hu11]; exact ((Q.refl _).alloc _).alloc _
      have hlo : Lst u11 (.slice (some ⟨u10.heap.size, 0, none⟩) 1 1) [1] := by rw [hu11]; exact (Lst.made u10 [1] 1 rfl (by unfold maxLen; omega)).q ((Q.refl _).alloc _)
      have hbs : Bk u11 (u10.heap.size + 1) 28 [.bool false, .slice (some ⟨u10.heap.size, 0, none⟩) 1 1, .int .i64 n2] := by rw [hu11, show u10.heap.size + 1 = (u10.alloc (.cells #[.int .i64 1] 3)).heap.size by simp]; exact Bk.new _ _ _
      obtain ⟨bq, hbq⟩ : ∃ b, b = u10.heap.size := ⟨_, rfl⟩
      rw [← hbq] at hlo hbs
      have HDS := Lib.hid hbs
      have HLS1 := Lib.hid hlo
      have HBS1 := Lib.hid (show bX < bq ∧ bY < bq by have h1 := HDX.out.lt; have h2 := HDY.out.lt; omega)
      have HAXS := Lib.hid (Ap.new HLX.out (b := bq + 1) (by omega))
      have HAYS := Lib.hid (Ap.new HLY.out (b := bq + 1) (by omega))
      replace HG := Lib.hid (HG.out.q hqa)
      replace HB := Lib.hid (HB.out.q hqa)
      replace HBN := Lib.hid (HBN.out.q hqa)
      replace HDX := Lib.hid (HDX.out.q hqa)
      replace HDY := Lib.hid (HDY.out.q hqa)
      replace HLX := Lib.hid (HLX.out.q hqa)
      replace HLY := Lib.hid (HLY.out.q hqa)
      replace HQ := Lib.hid (HQ.out.trans hqa)
      clear hqa hlo hbs
      go_upto_region 12 with fail
      rw [← hu11, ← hbq]
      clear hu11 hbq m2
      rcases hsm : sm with _ | _
      · subst hsm
        have g7 := HG.out.cell 7 rfl
        have g6 := HG.out.cell 6 rfl
        by_cases h0 : ls = 0
        · subst h0
          obtain rfl : d = 1 := HDD.out.trans (by unfold Km.stp; rw [if_neg (by decide), if_pos (List.eq_nil_of_length_eq_zero HLS.out)])
          go_upto_region 14 with fail
          clear g6 g7
          have HAS2 := Lib.hid (show Ap (.slice (some ⟨bq, 0, none⟩) 1 1) (w.heap.size + 1) from fun a n c e hn => by
            cases e
            have h1 := HNB.out
            have h2 := HBX.out
            have h3 := HBS1.out
            show bq ≠ w.heap.size + 1
            omega)
          have hxr : bX ≠ w.heap.size + 1 := by have h1 := HNB.out; have h2 := HBX.out; omega
          have hyr : bY ≠ w.heap.size + 1 := by have h1 := HNB.out; have h2 := HBY.out; omega
          have hsr : bq + 1 ≠ w.heap.size + 1 := by have h1 := HNB.out; have h2 := HBX.out; have h3 := HBS1.out; omega
          have hnr : bN ≠ w.heap.size + 1 := by have h1 := HNB.out; omega
          have HXR := Lib.hid hxr
          have HYR := Lib.hid hyr
          have HSR := Lib.hid hsr
          have HNR := Lib.hid hnr
          clear hxr hyr hsr hnr
          refine wp_region_held_drew (S := fun u => SB w u11 (w.heap.size + 1) u) (by kernel_rfl) (by exact SB.of _ (HQ.out)) (fun hHeld => ?_)
          have hS : SB w u11 (w.heap.size + 1) u11.drew := hHeld
          clear hHeld
          have hq : Q u11 u11.drew := (Q.refl _).drew
          have HB := Lib.hid (Bk.q HB.out hq)
          clear hq
          generalize u11.drew = yR2x0 at *
          change wpAnyH _ _ _ _ _ _ #[ff,ff,ff,ff,ff,ff,ff,ff,ff] _ _
          refine wpAnyH_take (i := 0) (v := ?vR2x1) (by (try simp only [gA, gB, gC]); rfl) (by kernel_rfl) (by kernel_rfl) (by kernel_rfl) (by exact fun _ _ _ h => h) (Or.inl ⟨by first | kernel_rfl | rfl, ?hyR2x1⟩) (by exact hS) ?rsR2x1
          case hyR2x1 => (intro uz hSw; (try dsimp only at hSw); have hxx := SB.bk hSw HDX.out HXR.out; have d0 := hxx.cell 0 rfl; have d1 := hxx.cell 1 rfl; have d2 := hxx.cell 2 rfl; clear hxx; go_simp; try with_reducible rfl)
          try simp only [Act.put, sA, sB, sC]
          change wpAnyH _ _ _ _ _ _ #[tt,ff,ff,ff,ff,ff,ff,ff,ff] _ _
          refine wpAnyH_take (i := 2) (v := ?vR2x2) (by (try simp only [gA, gB, gC]); rfl) (by kernel_rfl) (by kernel_rfl) (by kernel_rfl) (by exact fun _ _ _ h => h) (Or.inl ⟨by first | kernel_rfl | rfl, ?hyR2x2⟩) (by exact hS) ?rsR2x2
          case hyR2x2 => (intro uz hSw; (try dsimp only at hSw); have hxx := SB.bk hSw HDY.out HYR.out; have d0 := hxx.cell 0 rfl; have d1 := hxx.cell 1 rfl; have d2 := hxx.cell 2 rfl; clear hxx; go_simp; try with_reducible rfl)
          try simp only [Act.put, sA, sB, sC]
          change wpAnyH _ _ _ _ _ _ #[tt,ff,tt,ff,ff,ff,ff,ff,ff] _ _
          refine wpAnyH_take (i := 4) (v := ?vR2x3) (by (try simp only [gA, gB, gC]); rfl) (by kernel_rfl) (by kernel_rfl) (by kernel_rfl) (by exact fun _ _ _ h => h) (Or.inl ⟨by first | kernel_rfl | rfl, ?hyR2x3⟩) (by exact hS) ?rsR2x3
          case hyR2x3 => (intro uz hSw; (try dsimp only at hSw); have hxx := SB.bk hSw HDS.out HSR.out; have d0 := hxx.cell 0 rfl; have d1 := hxx.cell 1 rfl; have d2 := hxx.cell 2 rfl; clear hxx; go_simp; try with_reducible rfl)
          try simp only [Act.put, sA, sB, sC]
          change wpAnyH _ _ _ _ _ _ #[tt,ff,tt,ff,tt,ff,ff,ff,ff] _ _
          refine wpAnyH_take (i := 6) (v := ?vR2x4) (by (try simp only [gA, gB, gC]); rfl) (by kernel_rfl) (by kernel_rfl) (by kernel_rfl) (by exact fun _ _ _ h => h) (Or.inl ⟨by first | kernel_rfl | rfl, ?hyR2x4⟩) (by exact hS) ?rsR2x4
          case hyR2x4 => (intro uz hSw; (try dsimp only at hSw); have hxx := SB.bk hSw HBN.out HNR.out; have d0 := hxx.cell 0 rfl; have d1 := hxx.cell 1 rfl; have d2 := hxx.cell 2 rfl; have d3 := hxx.cell 3 rfl; have d4 := hxx.cell 4 rfl; have d5 := hxx.cell 5 rfl; have d6 := hxx.cell 6 rfl; clear hxx; go_simp; try with_reducible rfl)
          try simp only [Act.put, sA, sB, sC]
          change wpAnyH _ _ _ _ _ _ #[tt,ff,tt,ff,tt,ff,tt,ff,ff] _ _
          refine wpAnyH_ready (rs := [1]) (by kernel_rfl) (by simp) ?_
          refine (AllReadyH.cons (by (try simp only [gA, gB, gC]); rfl) (fun K hK => ?_) AllReadyH.nil)
          go_simp
          refine (HPY.out _ _ _ (Kp.SB.lst hS HLY.out HARY.out)).mono ?_
          rintro e yR2x5 ⟨rfl, hq⟩
          try (go_wp2_with fail)
          have HB := Lib.hid (Bk.q HB.out hq)
          have hS2 := Kp.SB.q hS hq
          refine hK.out _ _ (by exact hS2) (fun hHeld => ?_)
          clear hK K hHeld hS hq
          have hS := hS2
          clear hS2
          try simp only [Act.put, sA, sB, sC]
          change wpAnyH _ _ _ _ _ _ #[tt,tt,tt,ff,tt,ff,tt,ff,ff] _ _
          refine wpAnyH_ready (rs := [3]) (by kernel_rfl) (by simp) ?_
          refine (AllReadyH.cons (by (try simp only [gA, gB, gC]); rfl) (fun K hK => ?_) AllReadyH.nil)
          go_simp
          refine (HPX.out _ _ _ (Kp.SB.lst hS HLX.out HARX.out)).mono ?_
          rintro e yR2x6 ⟨rfl, hq⟩
          try (go_wp2_with fail)
          have HB := Lib.hid (Bk.q HB.out hq)
          have hS2 := Kp.SB.q hS hq
          refine hK.out _ _ (by exact hS2) (fun hHeld => ?_)
          clear hK K hHeld hS hq
          have hS := hS2
          clear hS2
          try simp only [Act.put, sA, sB, sC]
          change wpAnyH _ _ _ _ _ _ #[tt,tt,tt,tt,tt,ff,tt,ff,ff] _ _
          refine wpAnyH_ready (rs := [5]) (by kernel_rfl) (by simp) ?_
          refine (AllReadyH.cons (by (try simp only [gA, gB, gC]); rfl) (fun K hK => ?_) AllReadyH.nil)
          go_simp
          refine (HPD.out _ _ (Kp.SB.lst hS HLS1.out HAS2.out)).mono ?_
          rintro e yR2x7 ⟨rfl, hq⟩
          try (go_wp2_with fail)
          have HB := Lib.hid (Bk.q HB.out hq)
          have hS2 := Kp.SB.q hS hq
          refine hK.out _ _ (by exact hS2) (fun hHeld => ?_)
          clear hK K hHeld hS hq
          have hS := hS2
          clear hS2
          try simp only [Act.put, sA, sB, sC]
          change wpAnyH _ _ _ _ _ _ #[tt,tt,tt,tt,tt,tt,tt,ff,ff] _ _
          refine wpAnyH_take (i := 7) (v := ?vR2x8) (by (try simp only [gA, gB, gC]); rfl) (by kernel_rfl) (by kernel_rfl) (by kernel_rfl) (by exact fun _ _ _ h => h) (Or.inl ⟨by first | kernel_rfl | rfl, ?hyR2x8⟩) (by exact hS) ?rsR2x8
          case hyR2x8 => (intro uz hSw; (try dsimp only at hSw); go_simp; try with_reducible rfl)
          try simp only [Act.put, sA, sB, sC]
          change wpAnyH _ _ _ _ _ _ #[tt,tt,tt,tt,tt,tt,tt,tt,ff] _ _
          refine wpAnyH_ready (rs := [8]) (by kernel_rfl) (by simp) ?_
          refine (AllReadyH.cons (by (try simp only [gA, gB, gC]); rfl) (fun K hK => ?_) AllReadyH.nil)
          have hbs := HB.out
          have b0 := hbs.cell 0 rfl
          have f0 := hbs.free 0
          have b1 := hbs.cell 1 rfl
          have f1 := hbs.free 1
          have b2 := hbs.cell 2 rfl
          have f2 := hbs.free 2
          have b3 := hbs.cell 3 rfl
          have f3 := hbs.free 3
          have b4 := hbs.cell 4 rfl
          have f4 := hbs.free 4
          have b5 := hbs.cell 5 rfl
          have f5 := hbs.free 5
          have b6 := hbs.cell 6 rfl
          have f6 := hbs.free 6
          have b7 := hbs.cell 7 rfl
          have f7 := hbs.free 7
          have b8 := hbs.cell 8 rfl
          have f8 := hbs.free 8
          have b9 := hbs.cell 9 rfl
          have f9 := hbs.free 9
          clear hbs
          go_simp
          have hS2 := ((((((((((hS.set (Nat.le_succ _) 0 (.string (Dm.prt gh Y n2))).set (Nat.le_succ _) 1 (.string (Dm.prt gl X n2))).set (Nat.le_succ _) 2 (.string (Dm.prt false [1] n2))).set (Nat.le_succ _) 3 (.int .i64 n0)).set (Nat.le_succ _) 4 (.int .i64 n1)).set (Nat.le_succ _) 5 (.int .i64 n2)).set (Nat.le_succ _) 6 (.int .i64 n3)).set (Nat.le_succ _) 7 (.int .i64 n4)).set (Nat.le_succ _) 8 (.int .i64 n5)).set (Nat.le_succ _) 9 (.int .i64 n6))
          replace HB := Lib.hid (show Bk _ (w.heap.size + 1) 25 [.string (Dm.prt gh Y n2), .string (Dm.prt gl X n2), .string (Dm.prt false [1] n2), .int .i64 n0, .int .i64 n1, .int .i64 n2, .int .i64 n3, .int .i64 n4, .int .i64 n5, .int .i64 n6] from ((((((((((HB.out.set 0 (.string (Dm.prt gh Y n2))).set 1 (.string (Dm.prt gl X n2))).set 2 (.string (Dm.prt false [1] n2))).set 3 (.int .i64 n0)).set 4 (.int .i64 n1)).set 5 (.int .i64 n2)).set 6 (.int .i64 n3)).set 7 (.int .i64 n4)).set 8 (.int .i64 n5)).set 9 (.int .i64 n6)))
          refine hK.out _ _ (by exact hS2) (fun hHeld => ?_)
          clear hK K hHeld hS
          have hS := hS2
          clear hS2 b0 f0 b1 f1 b2 f2 b3 f3 b4 f4 b5 f5 b6 f6 b7 f7 b8 f8 b9 f9
          generalize ((((((((((yR2x7.setCell ⟨w.heap.size + 1, 0, none⟩ (.string (Dm.prt gh Y n2))).setCell ⟨w.heap.size + 1, 1, none⟩ (.string (Dm.prt gl X n2))).setCell ⟨w.heap.size + 1, 2, none⟩ (.string (Dm.prt false [1] n2))).setCell ⟨w.heap.size + 1, 3, none⟩ (.int .i64 n0)).setCell ⟨w.heap.size + 1, 4, none⟩ (.int .i64 n1)).setCell ⟨w.heap.size + 1, 5, none⟩ (.int .i64 n2)).setCell ⟨w.heap.size + 1, 6, none⟩ (.int .i64 n3)).setCell ⟨w.heap.size + 1, 7, none⟩ (.int .i64 n4)).setCell ⟨w.heap.size + 1, 8, none⟩ (.int .i64 n5)).setCell ⟨w.heap.size + 1, 9, none⟩ (.int .i64 n6)) = yR2x9 at *
          try simp only [Act.put, sA, sB, sC]
          change wpAnyH _ _ _ _ _ _ #[tt,tt,tt,tt,tt,tt,tt,tt,tt] _ _
          refine wpAnyH_done (by kernel_rfl) ?_ _
          go_wp2_with fail
          exact ret_bk (l := [.string (Dm.prt gh Y n2), .string (Dm.prt gl X n2), .string (Dm.prt false [1] n2), .int .i64 n0, .int .i64 n1, .int .i64 n2, .int .i64 n3, .int .i64 n4, .int .i64 n5, .int .i64 n6]) rfl Tryz.underlying25 (by exact infoC) rfl HB.out rfl ⟨rfl, hS.1⟩
        · have hls0 : 0 < ls := by omega
          have hls1 : (0 : Int) < (ls : Int) := by omega
          obtain ⟨dg, dof, dcp, hde, _, _, _, hdc⟩ := (HVS.out.q HQ.out).cellOf HLS.out hls0
          have hde2 : az = some ⟨dg, dof, none⟩ ∧ cs = dcp := by
            injection hde with h1 h2 h3
            exact ⟨h1, h3⟩
          obtain ⟨rfl, rfl⟩ := hde2
          have HDE := Lib.hid (show 1 + Um.around (S.getD 0 0) 9 = d from (HDD.out.trans (by unfold Km.stp; rw [if_neg (by decide), if_neg (by rintro rfl; have := HLS.out; simp at this; omega)])).symm)
          have hsb := HBS.out (S.getD 0 0) (by rw [List.getD_eq_getElem?_getD, List.getElem?_eq_getElem (show 0 < S.length by rw [HLS.out]; exact hls0)]; exact List.getElem_mem _)
          obtain ⟨s0, hs0⟩ : ∃ x, x = S.getD 0 0 := ⟨_, rfl⟩
          rw [← hs0] at hdc hsb HDE
          have hk9 := Um.around_bd s0 9 (by omega)
          have HA9 := Lib.hid (fun u => ar_q s0 9 (Um.around s0 9) hsb (by omega) rfl u)
          obtain ⟨k9, hk9e⟩ : ∃ x, x = Um.around s0 9 := ⟨_, rfl⟩
          rw [← hk9e] at HA9 HDE hk9
          rw [Nat.add_zero] at hdc
          clear hde hsb hs0 hk9e
          go_wp2_with fail
          refine (HA9.out _).mono ?_
          rintro e u ⟨rfl, hq⟩
          replace HG := Lib.hid (HG.out.q hq)
          replace HB := Lib.hid (HB.out.q hq)
          replace HBN := Lib.hid (HBN.out.q hq)
          replace HDX := Lib.hid (HDX.out.q hq)
          replace HDY := Lib.hid (HDY.out.q hq)
          replace HDS := Lib.hid (HDS.out.q hq)
          replace HLX := Lib.hid (HLX.out.q hq)
          replace HLY := Lib.hid (HLY.out.q hq)
          replace HQ := Lib.hid (HQ.out.trans hq)
          clear hq g6 g7 hdc
          have hde : 1 + k9 = d := HDE.out
          have f1 := (HDS.out.q ((Q.refl u).alloc (.cells #[.int .i64 d] 3))).free 1
          have q1 := (HDS.out.q ((Q.refl u).alloc (.cells #[.int .i64 d] 3))).cell 1 rfl
          have HQU := Lib.hid (show bq < u.heap.size from Nat.lt_trans (Nat.lt_succ_self _) HDS.out.lt)
          obtain ⟨V, hV⟩ : ∃ y, y = u.alloc (.cells #[.int .i64 d] 3) := ⟨_, rfl⟩
          obtain ⟨u12, hu12⟩ : ∃ y, y = V.setCell ⟨bq + 1, 1, none⟩ (.slice (some ⟨u.heap.size, 0, none⟩) 1 1) := ⟨_, rfl⟩
          have hqa : Q u V := by rw [hV]; exact (Q.refl _).alloc _
          have hld : Lst V (.slice (some ⟨u.heap.size, 0, none⟩) 1 1) [d] := by rw [hV]; exact Lst.made u [d] 1 rfl (by unfold maxLen; omega)
          have hap : Ap (.slice (some ⟨u.heap.size, 0, none⟩) 1 1) (bq + 1) := by
            intro a n c e hn
            cases e
            have := HDS.out.lt
            show u.heap.size ≠ bq + 1
            omega
          replace HG := Lib.hid (HG.out.q hqa)
          replace HB := Lib.hid (HB.out.q hqa)
          replace HBN := Lib.hid (HBN.out.q hqa)
          replace HDX := Lib.hid (HDX.out.q hqa)
          replace HDY := Lib.hid (HDY.out.q hqa)
          replace HDS := Lib.hid (HDS.out.q hqa)
          replace HLX := Lib.hid (HLX.out.q hqa)
          replace HLY := Lib.hid (HLY.out.q hqa)
          replace HQ := Lib.hid (HQ.out.trans hqa)
          clear HG
          replace HB := Lib.hid (show Bk u12 (w.heap.size + 1) 25 [.string ⟨#[]⟩, .string ⟨#[]⟩, .string ⟨#[]⟩, .int .i64 0, .int .i64 0, .int .i64 0, .int .i64 0, .int .i64 0, .int .i64 0, .int .i64 0] by
            rw [hu12]; exact HB.out.past (by have h1 := HNB.out; have h2 := HBX.out; have h3 := HBS1.out; omega) _)
          replace HBN := Lib.hid (show Bk u12 bN 23 [.int .i64 n0, .int .i64 n1, .int .i64 n2, .int .i64 n3, .int .i64 n4, .int .i64 n5, .int .i64 n6] by
            rw [hu12]; exact HBN.out.past (by have h1 := HNB.out; have h2 := HBX.out; have h3 := HBS1.out; omega) _)
          replace HDX := Lib.hid (show Bk u12 bX 28 [.bool gh, .slice aY yn cY, .int .i64 n2] by
            rw [hu12]; exact HDX.out.past (by have h1 := HNB.out; have h2 := HBX.out; have h3 := HBS1.out; omega) _)
          replace HDY := Lib.hid (show Bk u12 bY 28 [.bool gl, .slice aX xn cX, .int .i64 n2] by
            rw [hu12]; exact HDY.out.past (by have h1 := HNB.out; have h2 := HBX.out; have h3 := HBS1.out; omega) _)
          replace HLX := Lib.hid (show Lst u12 (.slice aX xn cX) X by rw [hu12]; exact HLX.out.setCell (ad := ⟨bq + 1, 1, none⟩) _ HAXS.out)
          replace HLY := Lib.hid (show Lst u12 (.slice aY yn cY) Y by rw [hu12]; exact HLY.out.setCell (ad := ⟨bq + 1, 1, none⟩) _ HAYS.out)
          have HLS2 := Lib.hid (show Lst u12 (.slice (some ⟨u.heap.size, 0, none⟩) 1 1) [d] by rw [hu12]; exact hld.setCell (ad := ⟨bq + 1, 1, none⟩) _ hap)
          replace HDS := Lib.hid (show Bk u12 (bq + 1) 28 [.bool false, .slice (some ⟨u.heap.size, 0, none⟩) 1 1, .int .i64 n2] by rw [hu12]; exact HDS.out.set 1 _)
          replace HQ := Lib.hid (show Q w u12 by rw [hu12]; exact HQ.out.setCell (ad := ⟨bq + 1, 1, none⟩) (show w.heap.size ≤ bq + 1 by have h1 := HNB.out; have h2 := HBX.out; have h3 := HBS1.out; omega) _)
          have HAS2 := Lib.hid (show Ap (.slice (some ⟨u.heap.size, 0, none⟩) 1 1) (w.heap.size + 1) from fun a n c e hn => by
            cases e
            have h1 := HNB.out
            have h2 := HBX.out
            have h3 := HBS1.out
            have h4 : bq < u.heap.size := HQU.out
            show u.heap.size ≠ w.heap.size + 1
            omega)
          go_upto_region 14 with fail
          rw [← hV, ← hu12]
          clear hqa hld hap hu12 hV f1 q1
          have hxr : bX ≠ w.heap.size + 1 := by have h1 := HNB.out; have h2 := HBX.out; omega
          have hyr : bY ≠ w.heap.size + 1 := by have h1 := HNB.out; have h2 := HBY.out; omega
          have hsr : bq + 1 ≠ w.heap.size + 1 := by have h1 := HNB.out; have h2 := HBX.out; have h3 := HBS1.out; omega
          have hnr : bN ≠ w.heap.size + 1 := by have h1 := HNB.out; omega
          have HXR := Lib.hid hxr
          have HYR := Lib.hid hyr
          have HSR := Lib.hid hsr
          have HNR := Lib.hid hnr
          clear hxr hyr hsr hnr
          refine wp_region_held_drew (S := fun u => SB w u12 (w.heap.size + 1) u) (by kernel_rfl) (by exact SB.of _ (HQ.out)) (fun hHeld => ?_)
          have hS : SB w u12 (w.heap.size + 1) u12.drew := hHeld
          clear hHeld
          have hq : Q u12 u12.drew := (Q.refl _).drew
          have HB := Lib.hid (Bk.q HB.out hq)
          clear hq
          generalize u12.drew = yR3x0 at *
          change wpAnyH _ _ _ _ _ _ #[ff,ff,ff,ff,ff,ff,ff,ff,ff] _ _
          refine wpAnyH_take (i := 0) (v := ?vR3x1) (by (try simp only [gA, gB, gC]); rfl) (by kernel_rfl) (by kernel_rfl) (by kernel_rfl) (by exact fun _ _ _ h => h) (Or.inl ⟨by first | kernel_rfl | rfl, ?hyR3x1⟩) (by exact hS) ?rsR3x1
          case hyR3x1 => (intro uz hSw; (try dsimp only at hSw); have hxx := SB.bk hSw HDX.out HXR.out; have d0 := hxx.cell 0 rfl; have d1 := hxx.cell 1 rfl; have d2 := hxx.cell 2 rfl; clear hxx; go_simp; try with_reducible rfl)
          try simp only [Act.put, sA, sB, sC]
          change wpAnyH _ _ _ _ _ _ #[tt,ff,ff,ff,ff,ff,ff,ff,ff] _ _
          refine wpAnyH_take (i := 2) (v := ?vR3x2) (by (try simp only [gA, gB, gC]); rfl) (by kernel_rfl) (by kernel_rfl) (by kernel_rfl) (by exact fun _ _ _ h => h) (Or.inl ⟨by first | kernel_rfl | rfl, ?hyR3x2⟩) (by exact hS) ?rsR3x2
          case hyR3x2 => (intro uz hSw; (try dsimp only at hSw); have hxx := SB.bk hSw HDY.out HYR.out; have d0 := hxx.cell 0 rfl; have d1 := hxx.cell 1 rfl; have d2 := hxx.cell 2 rfl; clear hxx; go_simp; try with_reducible rfl)
          try simp only [Act.put, sA, sB, sC]
          change wpAnyH _ _ _ _ _ _ #[tt,ff,tt,ff,ff,ff,ff,ff,ff] _ _
          refine wpAnyH_take (i := 4) (v := ?vR3x3) (by (try simp only [gA, gB, gC]); rfl) (by kernel_rfl) (by kernel_rfl) (by kernel_rfl) (by exact fun _ _ _ h => h) (Or.inl ⟨by first | kernel_rfl | rfl, ?hyR3x3⟩) (by exact hS) ?rsR3x3
          case hyR3x3 => (intro uz hSw; (try dsimp only at hSw); have hxx := SB.bk hSw HDS.out HSR.out; have d0 := hxx.cell 0 rfl; have d1 := hxx.cell 1 rfl; have d2 := hxx.cell 2 rfl; clear hxx; go_simp; try with_reducible rfl)
          try simp only [Act.put, sA, sB, sC]
          change wpAnyH _ _ _ _ _ _ #[tt,ff,tt,ff,tt,ff,ff,ff,ff] _ _
          refine wpAnyH_take (i := 6) (v := ?vR3x4) (by (try simp only [gA, gB, gC]); rfl) (by kernel_rfl) (by kernel_rfl) (by kernel_rfl) (by exact fun _ _ _ h => h) (Or.inl ⟨by first | kernel_rfl | rfl, ?hyR3x4⟩) (by exact hS) ?rsR3x4
          case hyR3x4 => (intro uz hSw; (try dsimp only at hSw); have hxx := SB.bk hSw HBN.out HNR.out; have d0 := hxx.cell 0 rfl; have d1 := hxx.cell 1 rfl; have d2 := hxx.cell 2 rfl; have d3 := hxx.cell 3 rfl; have d4 := hxx.cell 4 rfl; have d5 := hxx.cell 5 rfl; have d6 := hxx.cell 6 rfl; clear hxx; go_simp; try with_reducible rfl)
          try simp only [Act.put, sA, sB, sC]
          change wpAnyH _ _ _ _ _ _ #[tt,ff,tt,ff,tt,ff,tt,ff,ff] _ _
          refine wpAnyH_ready (rs := [1]) (by kernel_rfl) (by simp) ?_
          refine (AllReadyH.cons (by (try simp only [gA, gB, gC]); rfl) (fun K hK => ?_) AllReadyH.nil)
          go_simp
          refine (HPY.out _ _ _ (Kp.SB.lst hS HLY.out HARY.out)).mono ?_
          rintro e yR3x5 ⟨rfl, hq⟩
          try (go_wp2_with fail)
          have HB := Lib.hid (Bk.q HB.out hq)
          have hS2 := Kp.SB.q hS hq
          refine hK.out _ _ (by exact hS2) (fun hHeld => ?_)
          clear hK K hHeld hS hq
          have hS := hS2
          clear hS2
          try simp only [Act.put, sA, sB, sC]
          change wpAnyH _ _ _ _ _ _ #[tt,tt,tt,ff,tt,ff,tt,ff,ff] _ _
          refine wpAnyH_ready (rs := [3]) (by kernel_rfl) (by simp) ?_
          refine (AllReadyH.cons (by (try simp only [gA, gB, gC]); rfl) (fun K hK => ?_) AllReadyH.nil)
          go_simp
          refine (HPX.out _ _ _ (Kp.SB.lst hS HLX.out HARX.out)).mono ?_
          rintro e yR3x6 ⟨rfl, hq⟩
          try (go_wp2_with fail)
          have HB := Lib.hid (Bk.q HB.out hq)
          have hS2 := Kp.SB.q hS hq
          refine hK.out _ _ (by exact hS2) (fun hHeld => ?_)
          clear hK K hHeld hS hq
          have hS := hS2
          clear hS2
          try simp only [Act.put, sA, sB, sC]
          change wpAnyH _ _ _ _ _ _ #[tt,tt,tt,tt,tt,ff,tt,ff,ff] _ _
          refine wpAnyH_ready (rs := [5]) (by kernel_rfl) (by simp) ?_
          refine (AllReadyH.cons (by (try simp only [gA, gB, gC]); rfl) (fun K hK => ?_) AllReadyH.nil)
          go_simp
          refine (HPD.out _ _ (Kp.SB.lst hS HLS2.out HAS2.out)).mono ?_
          rintro e yR3x7 ⟨rfl, hq⟩
          try (go_wp2_with fail)
          have HB := Lib.hid (Bk.q HB.out hq)
          have hS2 := Kp.SB.q hS hq
          refine hK.out _ _ (by exact hS2) (fun hHeld => ?_)
          clear hK K hHeld hS hq
          have hS := hS2
          clear hS2
          try simp only [Act.put, sA, sB, sC]
          change wpAnyH _ _ _ _ _ _ #[tt,tt,tt,tt,tt,tt,tt,ff,ff] _ _
          refine wpAnyH_take (i := 7) (v := ?vR3x8) (by (try simp only [gA, gB, gC]); rfl) (by kernel_rfl) (by kernel_rfl) (by kernel_rfl) (by exact fun _ _ _ h => h) (Or.inl ⟨by first | kernel_rfl | rfl, ?hyR3x8⟩) (by exact hS) ?rsR3x8
          case hyR3x8 => (intro uz hSw; (try dsimp only at hSw); go_simp; try with_reducible rfl)
          try simp only [Act.put, sA, sB, sC]
          change wpAnyH _ _ _ _ _ _ #[tt,tt,tt,tt,tt,tt,tt,tt,ff] _ _
          refine wpAnyH_ready (rs := [8]) (by kernel_rfl) (by simp) ?_
          refine (AllReadyH.cons (by (try simp only [gA, gB, gC]); rfl) (fun K hK => ?_) AllReadyH.nil)
          have hbs := HB.out
          have b0 := hbs.cell 0 rfl
          have f0 := hbs.free 0
          have b1 := hbs.cell 1 rfl
          have f1 := hbs.free 1
          have b2 := hbs.cell 2 rfl
          have f2 := hbs.free 2
          have b3 := hbs.cell 3 rfl
          have f3 := hbs.free 3
          have b4 := hbs.cell 4 rfl
          have f4 := hbs.free 4
          have b5 := hbs.cell 5 rfl
          have f5 := hbs.free 5
          have b6 := hbs.cell 6 rfl
          have f6 := hbs.free 6
          have b7 := hbs.cell 7 rfl
          have f7 := hbs.free 7
          have b8 := hbs.cell 8 rfl
          have f8 := hbs.free 8
          have b9 := hbs.cell 9 rfl
          have f9 := hbs.free 9
          clear hbs
          go_simp
          have hS2 := ((((((((((hS.set (Nat.le_succ _) 0 (.string (Dm.prt gh Y n2))).set (Nat.le_succ _) 1 (.string (Dm.prt gl X n2))).set (Nat.le_succ _) 2 (.string (Dm.prt false [d] n2))).set (Nat.le_succ _) 3 (.int .i64 n0)).set (Nat.le_succ _) 4 (.int .i64 n1)).set (Nat.le_succ _) 5 (.int .i64 n2)).set (Nat.le_succ _) 6 (.int .i64 n3)).set (Nat.le_succ _) 7 (.int .i64 n4)).set (Nat.le_succ _) 8 (.int .i64 n5)).set (Nat.le_succ _) 9 (.int .i64 n6))
          replace HB := Lib.hid (show Bk _ (w.heap.size + 1) 25 [.string (Dm.prt gh Y n2), .string (Dm.prt gl X n2), .string (Dm.prt false [d] n2), .int .i64 n0, .int .i64 n1, .int .i64 n2, .int .i64 n3, .int .i64 n4, .int .i64 n5, .int .i64 n6] from ((((((((((HB.out.set 0 (.string (Dm.prt gh Y n2))).set 1 (.string (Dm.prt gl X n2))).set 2 (.string (Dm.prt false [d] n2))).set 3 (.int .i64 n0)).set 4 (.int .i64 n1)).set 5 (.int .i64 n2)).set 6 (.int .i64 n3)).set 7 (.int .i64 n4)).set 8 (.int .i64 n5)).set 9 (.int .i64 n6)))
          refine hK.out _ _ (by exact hS2) (fun hHeld => ?_)
          clear hK K hHeld hS
          have hS := hS2
          clear hS2 b0 f0 b1 f1 b2 f2 b3 f3 b4 f4 b5 f5 b6 f6 b7 f7 b8 f8 b9 f9
          generalize ((((((((((yR3x7.setCell ⟨w.heap.size + 1, 0, none⟩ (.string (Dm.prt gh Y n2))).setCell ⟨w.heap.size + 1, 1, none⟩ (.string (Dm.prt gl X n2))).setCell ⟨w.heap.size + 1, 2, none⟩ (.string (Dm.prt false [d] n2))).setCell ⟨w.heap.size + 1, 3, none⟩ (.int .i64 n0)).setCell ⟨w.heap.size + 1, 4, none⟩ (.int .i64 n1)).setCell ⟨w.heap.size + 1, 5, none⟩ (.int .i64 n2)).setCell ⟨w.heap.size + 1, 6, none⟩ (.int .i64 n3)).setCell ⟨w.heap.size + 1, 7, none⟩ (.int .i64 n4)).setCell ⟨w.heap.size + 1, 8, none⟩ (.int .i64 n5)).setCell ⟨w.heap.size + 1, 9, none⟩ (.int .i64 n6)) = yR3x9 at *
          try simp only [Act.put, sA, sB, sC]
          change wpAnyH _ _ _ _ _ _ #[tt,tt,tt,tt,tt,tt,tt,tt,tt] _ _
          refine wpAnyH_done (by kernel_rfl) ?_ _
          go_wp2_with fail
          exact ret_bk (l := [.string (Dm.prt gh Y n2), .string (Dm.prt gl X n2), .string (Dm.prt false [d] n2), .int .i64 n0, .int .i64 n1, .int .i64 n2, .int .i64 n3, .int .i64 n4, .int .i64 n5, .int .i64 n6]) rfl Tryz.underlying25 (by exact infoC) rfl HB.out rfl ⟨rfl, hS.1⟩
      · subst hsm
        have g7 := HG.out.cell 7 rfl
        have g6 := HG.out.cell 6 rfl
        obtain rfl : d = 1 := HDD.out.trans (by unfold Km.stp; rw [if_pos rfl])
        go_upto_region 14 with fail
        clear g6 g7
        have HAS2 := Lib.hid (show Ap (.slice (some ⟨bq, 0, none⟩) 1 1) (w.heap.size + 1) from fun a n c e hn => by
          cases e
          have h1 := HNB.out
          have h2 := HBX.out
          have h3 := HBS1.out
          show bq ≠ w.heap.size + 1
          omega)
        have hxr : bX ≠ w.heap.size + 1 := by have h1 := HNB.out; have h2 := HBX.out; omega
        have hyr : bY ≠ w.heap.size + 1 := by have h1 := HNB.out; have h2 := HBY.out; omega
        have hsr : bq + 1 ≠ w.heap.size + 1 := by have h1 := HNB.out; have h2 := HBX.out; have h3 := HBS1.out; omega
        have hnr : bN ≠ w.heap.size + 1 := by have h1 := HNB.out; omega
        have HXR := Lib.hid hxr
        have HYR := Lib.hid hyr
        have HSR := Lib.hid hsr
        have HNR := Lib.hid hnr
        clear hxr hyr hsr hnr
        refine wp_region_held_drew (S := fun u => SB w u11 (w.heap.size + 1) u) (by kernel_rfl) (by exact SB.of _ (HQ.out)) (fun hHeld => ?_)
        have hS : SB w u11 (w.heap.size + 1) u11.drew := hHeld
        clear hHeld
        have hq : Q u11 u11.drew := (Q.refl _).drew
        have HB := Lib.hid (Bk.q HB.out hq)
        clear hq
        generalize u11.drew = yR4x0 at *
        change wpAnyH _ _ _ _ _ _ #[ff,ff,ff,ff,ff,ff,ff,ff,ff] _ _
        refine wpAnyH_take (i := 0) (v := ?vR4x1) (by (try simp only [gA, gB, gC]); rfl) (by kernel_rfl) (by kernel_rfl) (by kernel_rfl) (by exact fun _ _ _ h => h) (Or.inl ⟨by first | kernel_rfl | rfl, ?hyR4x1⟩) (by exact hS) ?rsR4x1
        case hyR4x1 => (intro uz hSw; (try dsimp only at hSw); have hxx := SB.bk hSw HDX.out HXR.out; have d0 := hxx.cell 0 rfl; have d1 := hxx.cell 1 rfl; have d2 := hxx.cell 2 rfl; clear hxx; go_simp; try with_reducible rfl)
        try simp only [Act.put, sA, sB, sC]
        change wpAnyH _ _ _ _ _ _ #[tt,ff,ff,ff,ff,ff,ff,ff,ff] _ _
        refine wpAnyH_take (i := 2) (v := ?vR4x2) (by (try simp only [gA, gB, gC]); rfl) (by kernel_rfl) (by kernel_rfl) (by kernel_rfl) (by exact fun _ _ _ h => h) (Or.inl ⟨by first | kernel_rfl | rfl, ?hyR4x2⟩) (by exact hS) ?rsR4x2
        case hyR4x2 => (intro uz hSw; (try dsimp only at hSw); have hxx := SB.bk hSw HDY.out HYR.out; have d0 := hxx.cell 0 rfl; have d1 := hxx.cell 1 rfl; have d2 := hxx.cell 2 rfl; clear hxx; go_simp; try with_reducible rfl)
        try simp only [Act.put, sA, sB, sC]
        change wpAnyH _ _ _ _ _ _ #[tt,ff,tt,ff,ff,ff,ff,ff,ff] _ _
        refine wpAnyH_take (i := 4) (v := ?vR4x3) (by (try simp only [gA, gB, gC]); rfl) (by kernel_rfl) (by kernel_rfl) (by kernel_rfl) (by exact fun _ _ _ h => h) (Or.inl ⟨by first | kernel_rfl | rfl, ?hyR4x3⟩) (by exact hS) ?rsR4x3
        case hyR4x3 => (intro uz hSw; (try dsimp only at hSw); have hxx := SB.bk hSw HDS.out HSR.out; have d0 := hxx.cell 0 rfl; have d1 := hxx.cell 1 rfl; have d2 := hxx.cell 2 rfl; clear hxx; go_simp; try with_reducible rfl)
        try simp only [Act.put, sA, sB, sC]
        change wpAnyH _ _ _ _ _ _ #[tt,ff,tt,ff,tt,ff,ff,ff,ff] _ _
        refine wpAnyH_take (i := 6) (v := ?vR4x4) (by (try simp only [gA, gB, gC]); rfl) (by kernel_rfl) (by kernel_rfl) (by kernel_rfl) (by exact fun _ _ _ h => h) (Or.inl ⟨by first | kernel_rfl | rfl, ?hyR4x4⟩) (by exact hS) ?rsR4x4
        case hyR4x4 => (intro uz hSw; (try dsimp only at hSw); have hxx := SB.bk hSw HBN.out HNR.out; have d0 := hxx.cell 0 rfl; have d1 := hxx.cell 1 rfl; have d2 := hxx.cell 2 rfl; have d3 := hxx.cell 3 rfl; have d4 := hxx.cell 4 rfl; have d5 := hxx.cell 5 rfl; have d6 := hxx.cell 6 rfl; clear hxx; go_simp; try with_reducible rfl)
        try simp only [Act.put, sA, sB, sC]
        change wpAnyH _ _ _ _ _ _ #[tt,ff,tt,ff,tt,ff,tt,ff,ff] _ _
        refine wpAnyH_ready (rs := [1]) (by kernel_rfl) (by simp) ?_
        refine (AllReadyH.cons (by (try simp only [gA, gB, gC]); rfl) (fun K hK => ?_) AllReadyH.nil)
        go_simp
        refine (HPY.out _ _ _ (Kp.SB.lst hS HLY.out HARY.out)).mono ?_
        rintro e yR4x5 ⟨rfl, hq⟩
        try (go_wp2_with fail)
        have HB := Lib.hid (Bk.q HB.out hq)
        have hS2 := Kp.SB.q hS hq
        refine hK.out _ _ (by exact hS2) (fun hHeld => ?_)
        clear hK K hHeld hS hq
        have hS := hS2
        clear hS2
        try simp only [Act.put, sA, sB, sC]
        change wpAnyH _ _ _ _ _ _ #[tt,tt,tt,ff,tt,ff,tt,ff,ff] _ _
        refine wpAnyH_ready (rs := [3]) (by kernel_rfl) (by simp) ?_
        refine (AllReadyH.cons (by (try simp only [gA, gB, gC]); rfl) (fun K hK => ?_) AllReadyH.nil)
        go_simp
        refine (HPX.out _ _ _ (Kp.SB.lst hS HLX.out HARX.out)).mono ?_
        rintro e yR4x6 ⟨rfl, hq⟩
        try (go_wp2_with fail)
        have HB := Lib.hid (Bk.q HB.out hq)
        have hS2 := Kp.SB.q hS hq
        refine hK.out _ _ (by exact hS2) (fun hHeld => ?_)
        clear hK K hHeld hS hq
        have hS := hS2
        clear hS2
        try simp only [Act.put, sA, sB, sC]
        change wpAnyH _ _ _ _ _ _ #[tt,tt,tt,tt,tt,ff,tt,ff,ff] _ _
        refine wpAnyH_ready (rs := [5]) (by kernel_rfl) (by simp) ?_
        refine (AllReadyH.cons (by (try simp only [gA, gB, gC]); rfl) (fun K hK => ?_) AllReadyH.nil)
        go_simp
        refine (HPD.out _ _ (Kp.SB.lst hS HLS1.out HAS2.out)).mono ?_
        rintro e yR4x7 ⟨rfl, hq⟩
        try (go_wp2_with fail)
        have HB := Lib.hid (Bk.q HB.out hq)
        have hS2 := Kp.SB.q hS hq
        refine hK.out _ _ (by exact hS2) (fun hHeld => ?_)
        clear hK K hHeld hS hq
        have hS := hS2
        clear hS2
        try simp only [Act.put, sA, sB, sC]
        change wpAnyH _ _ _ _ _ _ #[tt,tt,tt,tt,tt,tt,tt,ff,ff] _ _
        refine wpAnyH_take (i := 7) (v := ?vR4x8) (by (try simp only [gA, gB, gC]); rfl) (by kernel_rfl) (by kernel_rfl) (by kernel_rfl) (by exact fun _ _ _ h => h) (Or.inl ⟨by first | kernel_rfl | rfl, ?hyR4x8⟩) (by exact hS) ?rsR4x8
        case hyR4x8 => (intro uz hSw; (try dsimp only at hSw); go_simp; try with_reducible rfl)
        try simp only [Act.put, sA, sB, sC]
        change wpAnyH _ _ _ _ _ _ #[tt,tt,tt,tt,tt,tt,tt,tt,ff] _ _
        refine wpAnyH_ready (rs := [8]) (by kernel_rfl) (by simp) ?_
        refine (AllReadyH.cons (by (try simp only [gA, gB, gC]); rfl) (fun K hK => ?_) AllReadyH.nil)
        have hbs := HB.out
        have b0 := hbs.cell 0 rfl
        have f0 := hbs.free 0
        have b1 := hbs.cell 1 rfl
        have f1 := hbs.free 1
        have b2 := hbs.cell 2 rfl
        have f2 := hbs.free 2
        have b3 := hbs.cell 3 rfl
        have f3 := hbs.free 3
        have b4 := hbs.cell 4 rfl
        have f4 := hbs.free 4
        have b5 := hbs.cell 5 rfl
        have f5 := hbs.free 5
        have b6 := hbs.cell 6 rfl
        have f6 := hbs.free 6
        have b7 := hbs.cell 7 rfl
        have f7 := hbs.free 7
        have b8 := hbs.cell 8 rfl
        have f8 := hbs.free 8
        have b9 := hbs.cell 9 rfl
        have f9 := hbs.free 9
        clear hbs
        go_simp
        have hS2 := ((((((((((hS.set (Nat.le_succ _) 0 (.string (Dm.prt gh Y n2))).set (Nat.le_succ _) 1 (.string (Dm.prt gl X n2))).set (Nat.le_succ _) 2 (.string (Dm.prt false [1] n2))).set (Nat.le_succ _) 3 (.int .i64 n0)).set (Nat.le_succ _) 4 (.int .i64 n1)).set (Nat.le_succ _) 5 (.int .i64 n2)).set (Nat.le_succ _) 6 (.int .i64 n3)).set (Nat.le_succ _) 7 (.int .i64 n4)).set (Nat.le_succ _) 8 (.int .i64 n5)).set (Nat.le_succ _) 9 (.int .i64 n6))
        replace HB := Lib.hid (show Bk _ (w.heap.size + 1) 25 [.string (Dm.prt gh Y n2), .string (Dm.prt gl X n2), .string (Dm.prt false [1] n2), .int .i64 n0, .int .i64 n1, .int .i64 n2, .int .i64 n3, .int .i64 n4, .int .i64 n5, .int .i64 n6] from ((((((((((HB.out.set 0 (.string (Dm.prt gh Y n2))).set 1 (.string (Dm.prt gl X n2))).set 2 (.string (Dm.prt false [1] n2))).set 3 (.int .i64 n0)).set 4 (.int .i64 n1)).set 5 (.int .i64 n2)).set 6 (.int .i64 n3)).set 7 (.int .i64 n4)).set 8 (.int .i64 n5)).set 9 (.int .i64 n6)))
        refine hK.out _ _ (by exact hS2) (fun hHeld => ?_)
        clear hK K hHeld hS
        have hS := hS2
        clear hS2 b0 f0 b1 f1 b2 f2 b3 f3 b4 f4 b5 f5 b6 f6 b7 f7 b8 f8 b9 f9
        generalize ((((((((((yR4x7.setCell ⟨w.heap.size + 1, 0, none⟩ (.string (Dm.prt gh Y n2))).setCell ⟨w.heap.size + 1, 1, none⟩ (.string (Dm.prt gl X n2))).setCell ⟨w.heap.size + 1, 2, none⟩ (.string (Dm.prt false [1] n2))).setCell ⟨w.heap.size + 1, 3, none⟩ (.int .i64 n0)).setCell ⟨w.heap.size + 1, 4, none⟩ (.int .i64 n1)).setCell ⟨w.heap.size + 1, 5, none⟩ (.int .i64 n2)).setCell ⟨w.heap.size + 1, 6, none⟩ (.int .i64 n3)).setCell ⟨w.heap.size + 1, 7, none⟩ (.int .i64 n4)).setCell ⟨w.heap.size + 1, 8, none⟩ (.int .i64 n5)).setCell ⟨w.heap.size + 1, 9, none⟩ (.int .i64 n6)) = yR4x9 at *
        try simp only [Act.put, sA, sB, sC]
        change wpAnyH _ _ _ _ _ _ #[tt,tt,tt,tt,tt,tt,tt,tt,tt] _ _
        refine wpAnyH_done (by kernel_rfl) ?_ _
        go_wp2_with fail
        exact ret_bk (l := [.string (Dm.prt gh Y n2), .string (Dm.prt gl X n2), .string (Dm.prt false [1] n2), .int .i64 n0, .int .i64 n1, .int .i64 n2, .int .i64 n3, .int .i64 n4, .int .i64 n5, .int .i64 n6]) rfl Tryz.underlying25 (by exact infoC) rfl HB.out rfl ⟨rfl, hS.1⟩
    · skip
      obtain ⟨rfl, rfl, rfl, rfl⟩ : gl = ga ∧ X = A ∧ gh = gb ∧ Y = B := by
        have h := HAB.out
        rw [if_neg hsw] at h
        injection h with h1 h
        injection h with h2 h
        injection h with h3 h4
        exact ⟨h1.symm, h2.symm, h3.symm, h4.symm⟩
      clear HAB HCM HA0 HA1 HA2 HA3 HA4 HA5 HA6 HGL HGH
      go_upto_region 11 with fail
      have m2 := (HBN.out.q ((Q.refl u9).alloc (.cells #[.int .i64 1] 3))).cell 2 rfl
      obtain ⟨u13, hu13⟩ : ∃ y, y = (u9.alloc (.cells #[.int .i64 1] 3)).alloc (.cells #[.bool false, .slice (some ⟨u9.heap.size, 0, none⟩) 1 1, .int .i64 n2] 28) := ⟨_, rfl⟩
      have hqa : Q u9 u13 := by rw [hu13]; exact ((Q.refl _).alloc _).alloc _
      have hlo : Lst u13 (.slice (some ⟨u9.heap.size, 0, none⟩) 1 1) [1] := by rw [hu13]; exact (Lst.made u9 [1] 1 rfl (by unfold maxLen; omega)).q ((Q.refl _).alloc _)
      have hbs : Bk u13 (u9.heap.size + 1) 28 [.bool false, .slice (some ⟨u9.heap.size, 0, none⟩) 1 1, .int .i64 n2] := by rw [hu13, show u9.heap.size + 1 = (u9.alloc (.cells #[.int .i64 1] 3)).heap.size by simp]; exact Bk.new _ _ _
      obtain ⟨bq, hbq⟩ : ∃ b, b = u9.heap.size := ⟨_, rfl⟩
      rw [← hbq] at hlo hbs
      have HDS := Lib.hid hbs
      have HLS1 := Lib.hid hlo
      have HBS1 := Lib.hid (show bX < bq ∧ bY < bq by have h1 := HDX.out.lt; have h2 := HDY.out.lt; omega)
      have HAXS := Lib.hid (Ap.new HLX.out (b := bq + 1) (by omega))
      have HAYS := Lib.hid (Ap.new HLY.out (b := bq + 1) (by omega))
      replace HG := Lib.hid (HG.out.q hqa)
      replace HB := Lib.hid (HB.out.q hqa)
      replace HBN := Lib.hid (HBN.out.q hqa)
      replace HDX := Lib.hid (HDX.out.q hqa)
      replace HDY := Lib.hid (HDY.out.q hqa)
      replace HLX := Lib.hid (HLX.out.q hqa)
      replace HLY := Lib.hid (HLY.out.q hqa)
      replace HQ := Lib.hid (HQ.out.trans hqa)
      clear hqa hlo hbs
      go_upto_region 12 with fail
      rw [← hu13, ← hbq]
      clear hu13 hbq m2
      rcases hsm : sm with _ | _
      · subst hsm
        have g7 := HG.out.cell 7 rfl
        have g6 := HG.out.cell 6 rfl
        by_cases h0 : ls = 0
        · subst h0
          obtain rfl : d = 1 := HDD.out.trans (by unfold Km.stp; rw [if_neg (by decide), if_pos (List.eq_nil_of_length_eq_zero HLS.out)])
          go_upto_region 14 with fail
          clear g6 g7
          have HAS2 := Lib.hid (show Ap (.slice (some ⟨bq, 0, none⟩) 1 1) (w.heap.size + 1) from fun a n c e hn => by
            cases e
            have h1 := HNB.out
            have h2 := HBX.out
            have h3 := HBS1.out
            show bq ≠ w.heap.size + 1
            omega)
          have hxr : bX ≠ w.heap.size + 1 := by have h1 := HNB.out; have h2 := HBX.out; omega
          have hyr : bY ≠ w.heap.size + 1 := by have h1 := HNB.out; have h2 := HBY.out; omega
          have hsr : bq + 1 ≠ w.heap.size + 1 := by have h1 := HNB.out; have h2 := HBX.out; have h3 := HBS1.out; omega
          have hnr : bN ≠ w.heap.size + 1 := by have h1 := HNB.out; omega
          have HXR := Lib.hid hxr
          have HYR := Lib.hid hyr
          have HSR := Lib.hid hsr
          have HNR := Lib.hid hnr
          clear hxr hyr hsr hnr
          refine wp_region_held_drew (S := fun u => SB w u13 (w.heap.size + 1) u) (by kernel_rfl) (by exact SB.of _ (HQ.out)) (fun hHeld => ?_)
          have hS : SB w u13 (w.heap.size + 1) u13.drew := hHeld
          clear hHeld
          have hq : Q u13 u13.drew := (Q.refl _).drew
          have HB := Lib.hid (Bk.q HB.out hq)
          clear hq
          generalize u13.drew = yR5x0 at *
          change wpAnyH _ _ _ _ _ _ #[ff,ff,ff,ff,ff,ff,ff,ff,ff] _ _
          refine wpAnyH_take (i := 0) (v := ?vR5x1) (by (try simp only [gA, gB, gC]); rfl) (by kernel_rfl) (by kernel_rfl) (by kernel_rfl) (by exact fun _ _ _ h => h) (Or.inl ⟨by first | kernel_rfl | rfl, ?hyR5x1⟩) (by exact hS) ?rsR5x1
          case hyR5x1 => (intro uz hSw; (try dsimp only at hSw); have hxx := SB.bk hSw HDX.out HXR.out; have d0 := hxx.cell 0 rfl; have d1 := hxx.cell 1 rfl; have d2 := hxx.cell 2 rfl; clear hxx; go_simp; try with_reducible rfl)
          try simp only [Act.put, sA, sB, sC]
          change wpAnyH _ _ _ _ _ _ #[tt,ff,ff,ff,ff,ff,ff,ff,ff] _ _
          refine wpAnyH_take (i := 2) (v := ?vR5x2) (by (try simp only [gA, gB, gC]); rfl) (by kernel_rfl) (by kernel_rfl) (by kernel_rfl) (by exact fun _ _ _ h => h) (Or.inl ⟨by first | kernel_rfl | rfl, ?hyR5x2⟩) (by exact hS) ?rsR5x2
          case hyR5x2 => (intro uz hSw; (try dsimp only at hSw); have hxx := SB.bk hSw HDY.out HYR.out; have d0 := hxx.cell 0 rfl; have d1 := hxx.cell 1 rfl; have d2 := hxx.cell 2 rfl; clear hxx; go_simp; try with_reducible rfl)
          try simp only [Act.put, sA, sB, sC]
          change wpAnyH _ _ _ _ _ _ #[tt,ff,tt,ff,ff,ff,ff,ff,ff] _ _
          refine wpAnyH_take (i := 4) (v := ?vR5x3) (by (try simp only [gA, gB, gC]); rfl) (by kernel_rfl) (by kernel_rfl) (by kernel_rfl) (by exact fun _ _ _ h => h) (Or.inl ⟨by first | kernel_rfl | rfl, ?hyR5x3⟩) (by exact hS) ?rsR5x3
          case hyR5x3 => (intro uz hSw; (try dsimp only at hSw); have hxx := SB.bk hSw HDS.out HSR.out; have d0 := hxx.cell 0 rfl; have d1 := hxx.cell 1 rfl; have d2 := hxx.cell 2 rfl; clear hxx; go_simp; try with_reducible rfl)
          try simp only [Act.put, sA, sB, sC]
          change wpAnyH _ _ _ _ _ _ #[tt,ff,tt,ff,tt,ff,ff,ff,ff] _ _
          refine wpAnyH_take (i := 6) (v := ?vR5x4) (by (try simp only [gA, gB, gC]); rfl) (by kernel_rfl) (by kernel_rfl) (by kernel_rfl) (by exact fun _ _ _ h => h) (Or.inl ⟨by first | kernel_rfl | rfl, ?hyR5x4⟩) (by exact hS) ?rsR5x4
          case hyR5x4 => (intro uz hSw; (try dsimp only at hSw); have hxx := SB.bk hSw HBN.out HNR.out; have d0 := hxx.cell 0 rfl; have d1 := hxx.cell 1 rfl; have d2 := hxx.cell 2 rfl; have d3 := hxx.cell 3 rfl; have d4 := hxx.cell 4 rfl; have d5 := hxx.cell 5 rfl; have d6 := hxx.cell 6 rfl; clear hxx; go_simp; try with_reducible rfl)
          try simp only [Act.put, sA, sB, sC]
          change wpAnyH _ _ _ _ _ _ #[tt,ff,tt,ff,tt,ff,tt,ff,ff] _ _
          refine wpAnyH_ready (rs := [1]) (by kernel_rfl) (by simp) ?_
          refine (AllReadyH.cons (by (try simp only [gA, gB, gC]); rfl) (fun K hK => ?_) AllReadyH.nil)
          go_simp
          refine (HPX.out _ _ _ (Kp.SB.lst hS HLX.out HARX.out)).mono ?_
          rintro e yR5x5 ⟨rfl, hq⟩
          try (go_wp2_with fail)
          have HB := Lib.hid (Bk.q HB.out hq)
          have hS2 := Kp.SB.q hS hq
          refine hK.out _ _ (by exact hS2) (fun hHeld => ?_)
          clear hK K hHeld hS hq
          have hS := hS2
          clear hS2
          try simp only [Act.put, sA, sB, sC]
          change wpAnyH _ _ _ _ _ _ #[tt,tt,tt,ff,tt,ff,tt,ff,ff] _ _
          refine wpAnyH_ready (rs := [3]) (by kernel_rfl) (by simp) ?_
          refine (AllReadyH.cons (by (try simp only [gA, gB, gC]); rfl) (fun K hK => ?_) AllReadyH.nil)
          go_simp
          refine (HPY.out _ _ _ (Kp.SB.lst hS HLY.out HARY.out)).mono ?_
          rintro e yR5x6 ⟨rfl, hq⟩
          try (go_wp2_with fail)
          have HB := Lib.hid (Bk.q HB.out hq)
          have hS2 := Kp.SB.q hS hq
          refine hK.out _ _ (by exact hS2) (fun hHeld => ?_)
          clear hK K hHeld hS hq
          have hS := hS2
          clear hS2
          try simp only [Act.put, sA, sB, sC]
          change wpAnyH _ _ _ _ _ _ #[tt,tt,tt,tt,tt,ff,tt,ff,ff] _ _
          refine wpAnyH_ready (rs := [5]) (by kernel_rfl) (by simp) ?_
          refine (AllReadyH.cons (by (try simp only [gA, gB, gC]); rfl) (fun K hK => ?_) AllReadyH.nil)
          go_simp
          refine (HPD.out _ _ (Kp.SB.lst hS HLS1.out HAS2.out)).mono ?_
          rintro e yR5x7 ⟨rfl, hq⟩
          try (go_wp2_with fail)
          have HB := Lib.hid (Bk.q HB.out hq)
          have hS2 := Kp.SB.q hS hq
          refine hK.out _ _ (by exact hS2) (fun hHeld => ?_)
          clear hK K hHeld hS hq
          have hS := hS2
          clear hS2
          try simp only [Act.put, sA, sB, sC]
          change wpAnyH _ _ _ _ _ _ #[tt,tt,tt,tt,tt,tt,tt,ff,ff] _ _
          refine wpAnyH_take (i := 7) (v := ?vR5x8) (by (try simp only [gA, gB, gC]); rfl) (by kernel_rfl) (by kernel_rfl) (by kernel_rfl) (by exact fun _ _ _ h => h) (Or.inl ⟨by first | kernel_rfl | rfl, ?hyR5x8⟩) (by exact hS) ?rsR5x8
          case hyR5x8 => (intro uz hSw; (try dsimp only at hSw); go_simp; try with_reducible rfl)
          try simp only [Act.put, sA, sB, sC]
          change wpAnyH _ _ _ _ _ _ #[tt,tt,tt,tt,tt,tt,tt,tt,ff] _ _
          refine wpAnyH_ready (rs := [8]) (by kernel_rfl) (by simp) ?_
          refine (AllReadyH.cons (by (try simp only [gA, gB, gC]); rfl) (fun K hK => ?_) AllReadyH.nil)
          have hbs := HB.out
          have b0 := hbs.cell 0 rfl
          have f0 := hbs.free 0
          have b1 := hbs.cell 1 rfl
          have f1 := hbs.free 1
          have b2 := hbs.cell 2 rfl
          have f2 := hbs.free 2
          have b3 := hbs.cell 3 rfl
          have f3 := hbs.free 3
          have b4 := hbs.cell 4 rfl
          have f4 := hbs.free 4
          have b5 := hbs.cell 5 rfl
          have f5 := hbs.free 5
          have b6 := hbs.cell 6 rfl
          have f6 := hbs.free 6
          have b7 := hbs.cell 7 rfl
          have f7 := hbs.free 7
          have b8 := hbs.cell 8 rfl
          have f8 := hbs.free 8
          have b9 := hbs.cell 9 rfl
          have f9 := hbs.free 9
          clear hbs
          go_simp
          have hS2 := ((((((((((hS.set (Nat.le_succ _) 0 (.string (Dm.prt gl X n2))).set (Nat.le_succ _) 1 (.string (Dm.prt gh Y n2))).set (Nat.le_succ _) 2 (.string (Dm.prt false [1] n2))).set (Nat.le_succ _) 3 (.int .i64 n0)).set (Nat.le_succ _) 4 (.int .i64 n1)).set (Nat.le_succ _) 5 (.int .i64 n2)).set (Nat.le_succ _) 6 (.int .i64 n3)).set (Nat.le_succ _) 7 (.int .i64 n4)).set (Nat.le_succ _) 8 (.int .i64 n5)).set (Nat.le_succ _) 9 (.int .i64 n6))
          replace HB := Lib.hid (show Bk _ (w.heap.size + 1) 25 [.string (Dm.prt gl X n2), .string (Dm.prt gh Y n2), .string (Dm.prt false [1] n2), .int .i64 n0, .int .i64 n1, .int .i64 n2, .int .i64 n3, .int .i64 n4, .int .i64 n5, .int .i64 n6] from ((((((((((HB.out.set 0 (.string (Dm.prt gl X n2))).set 1 (.string (Dm.prt gh Y n2))).set 2 (.string (Dm.prt false [1] n2))).set 3 (.int .i64 n0)).set 4 (.int .i64 n1)).set 5 (.int .i64 n2)).set 6 (.int .i64 n3)).set 7 (.int .i64 n4)).set 8 (.int .i64 n5)).set 9 (.int .i64 n6)))
          refine hK.out _ _ (by exact hS2) (fun hHeld => ?_)
          clear hK K hHeld hS
          have hS := hS2
          clear hS2 b0 f0 b1 f1 b2 f2 b3 f3 b4 f4 b5 f5 b6 f6 b7 f7 b8 f8 b9 f9
          generalize ((((((((((yR5x7.setCell ⟨w.heap.size + 1, 0, none⟩ (.string (Dm.prt gl X n2))).setCell ⟨w.heap.size + 1, 1, none⟩ (.string (Dm.prt gh Y n2))).setCell ⟨w.heap.size + 1, 2, none⟩ (.string (Dm.prt false [1] n2))).setCell ⟨w.heap.size + 1, 3, none⟩ (.int .i64 n0)).setCell ⟨w.heap.size + 1, 4, none⟩ (.int .i64 n1)).setCell ⟨w.heap.size + 1, 5, none⟩ (.int .i64 n2)).setCell ⟨w.heap.size + 1, 6, none⟩ (.int .i64 n3)).setCell ⟨w.heap.size + 1, 7, none⟩ (.int .i64 n4)).setCell ⟨w.heap.size + 1, 8, none⟩ (.int .i64 n5)).setCell ⟨w.heap.size + 1, 9, none⟩ (.int .i64 n6)) = yR5x9 at *
          try simp only [Act.put, sA, sB, sC]
          change wpAnyH _ _ _ _ _ _ #[tt,tt,tt,tt,tt,tt,tt,tt,tt] _ _
          refine wpAnyH_done (by kernel_rfl) ?_ _
          go_wp2_with fail
          exact ret_bk (l := [.string (Dm.prt gl X n2), .string (Dm.prt gh Y n2), .string (Dm.prt false [1] n2), .int .i64 n0, .int .i64 n1, .int .i64 n2, .int .i64 n3, .int .i64 n4, .int .i64 n5, .int .i64 n6]) rfl Tryz.underlying25 (by exact infoC) rfl HB.out rfl ⟨rfl, hS.1⟩
        · have hls0 : 0 < ls := by omega
          have hls1 : (0 : Int) < (ls : Int) := by omega
          obtain ⟨dg, dof, dcp, hde, _, _, _, hdc⟩ := (HVS.out.q HQ.out).cellOf HLS.out hls0
          have hde2 : az = some ⟨dg, dof, none⟩ ∧ cs = dcp := by
            injection hde with h1 h2 h3
            exact ⟨h1, h3⟩
          obtain ⟨rfl, rfl⟩ := hde2
          have HDE := Lib.hid (show 1 + Um.around (S.getD 0 0) 9 = d from (HDD.out.trans (by unfold Km.stp; rw [if_neg (by decide), if_neg (by rintro rfl; have := HLS.out; simp at this; omega)])).symm)
          have hsb := HBS.out (S.getD 0 0) (by rw [List.getD_eq_getElem?_getD, List.getElem?_eq_getElem (show 0 < S.length by rw [HLS.out]; exact hls0)]; exact List.getElem_mem _)
          obtain ⟨s0, hs0⟩ : ∃ x, x = S.getD 0 0 := ⟨_, rfl⟩
          rw [← hs0] at hdc hsb HDE
          have hk9 := Um.around_bd s0 9 (by omega)
          have HA9 := Lib.hid (fun u => ar_q s0 9 (Um.around s0 9) hsb (by omega) rfl u)
          obtain ⟨k9, hk9e⟩ : ∃ x, x = Um.around s0 9 := ⟨_, rfl⟩
          rw [← hk9e] at HA9 HDE hk9
          rw [Nat.add_zero] at hdc
          clear hde hsb hs0 hk9e
          go_wp2_with fail
          refine (HA9.out _).mono ?_
          rintro e u ⟨rfl, hq⟩
          replace HG := Lib.hid (HG.out.q hq)
          replace HB := Lib.hid (HB.out.q hq)
          replace HBN := Lib.hid (HBN.out.q hq)
          replace HDX := Lib.hid (HDX.out.q hq)
          replace HDY := Lib.hid (HDY.out.q hq)
          replace HDS := Lib.hid (HDS.out.q hq)
          replace HLX := Lib.hid (HLX.out.q hq)
          replace HLY := Lib.hid (HLY.out.q hq)
          replace HQ := Lib.hid (HQ.out.trans hq)
          clear hq g6 g7 hdc
          have hde : 1 + k9 = d := HDE.out
          have f1 := (HDS.out.q ((Q.refl u).alloc (.cells #[.int .i64 d] 3))).free 1
          have q1 := (HDS.out.q ((Q.refl u).alloc (.cells #[.int .i64 d] 3))).cell 1 rfl
          have HQU := Lib.hid (show bq < u.heap.size from Nat.lt_trans (Nat.lt_succ_self _) HDS.out.lt)
          obtain ⟨V, hV⟩ : ∃ y, y = u.alloc (.cells #[.int .i64 d] 3) := ⟨_, rfl⟩
          obtain ⟨u14, hu14⟩ : ∃ y, y = V.setCell ⟨bq + 1, 1, none⟩ (.slice (some ⟨u.heap.size, 0, none⟩) 1 1) := ⟨_, rfl⟩
          have hqa : Q u V := by rw [hV]; exact (Q.refl _).alloc _
          have hld : Lst V (.slice (some ⟨u.heap.size, 0, none⟩) 1 1) [d] := by rw [hV]; exact Lst.made u [d] 1 rfl (by unfold maxLen; omega)
          have hap : Ap (.slice (some ⟨u.heap.size, 0, none⟩) 1 1) (bq + 1) := by
            intro a n c e hn
            cases e
            have := HDS.out.lt
            show u.heap.size ≠ bq + 1
            omega
          replace HG := Lib.hid (HG.out.q hqa)
          replace HB := Lib.hid (HB.out.q hqa)
          replace HBN := Lib.hid (HBN.out.q hqa)
          replace HDX := Lib.hid (HDX.out.q hqa)
          replace HDY := Lib.hid (HDY.out.q hqa)
          replace HDS := Lib.hid (HDS.out.q hqa)
          replace HLX := Lib.hid (HLX.out.q hqa)
          replace HLY := Lib.hid (HLY.out.q hqa)
          replace HQ := Lib.hid (HQ.out.trans hqa)
          clear HG
          replace HB := Lib.hid (show Bk u14 (w.heap.size + 1) 25 [.string ⟨#[]⟩, .string ⟨#[]⟩, .string ⟨#[]⟩, .int .i64 0, .int .i64 0, .int .i64 0, .int .i64 0, .int .i64 0, .int .i64 0, .int .i64 0] by
            rw [hu14]; exact HB.out.past (by have h1 := HNB.out; have h2 := HBX.out; have h3 := HBS1.out; omega) _)
          replace HBN := Lib.hid (show Bk u14 bN 23 [.int .i64 n0, .int .i64 n1, .int .i64 n2, .int .i64 n3, .int .i64 n4, .int .i64 n5, .int .i64 n6] by
            rw [hu14]; exact HBN.out.past (by have h1 := HNB.out; have h2 := HBX.out; have h3 := HBS1.out; omega) _)
          replace HDX := Lib.hid (show Bk u14 bX 28 [.bool gl, .slice aX xn cX, .int .i64 n2] by
            rw [hu14]; exact HDX.out.past (by have h1 := HNB.out; have h2 := HBX.out; have h3 := HBS1.out; omega) _)
          replace HDY := Lib.hid (show Bk u14 bY 28 [.bool gh, .slice aY yn cY, .int .i64 n2] by
            rw [hu14]; exact HDY.out.past (by have h1 := HNB.out; have h2 := HBX.out; have h3 := HBS1.out; omega) _)
          replace HLX := Lib.hid (show Lst u14 (.slice aX xn cX) X by rw [hu14]; exact HLX.out.setCell (ad := ⟨bq + 1, 1, none⟩) _ HAXS.out)
          replace HLY := Lib.hid (show Lst u14 (.slice aY yn cY) Y by rw [hu14]; exact HLY.out.setCell (ad := ⟨bq + 1, 1, none⟩) _ HAYS.out)
          have HLS2 := Lib.hid (show Lst u14 (.slice (some ⟨u.heap.size, 0, none⟩) 1 1) [d] by rw [hu14]; exact hld.setCell (ad := ⟨bq + 1, 1, none⟩) _ hap)
          replace HDS := Lib.hid (show Bk u14 (bq + 1) 28 [.bool false, .slice (some ⟨u.heap.size, 0, none⟩) 1 1, .int .i64 n2] by rw [hu14]; exact HDS.out.set 1 _)
          replace HQ := Lib.hid (show Q w u14 by rw [hu14]; exact HQ.out.setCell (ad := ⟨bq + 1, 1, none⟩) (show w.heap.size ≤ bq + 1 by have h1 := HNB.out; have h2 := HBX.out; have h3 := HBS1.out; omega) _)
          have HAS2 := Lib.hid (show Ap (.slice (some ⟨u.heap.size, 0, none⟩) 1 1) (w.heap.size + 1) from fun a n c e hn => by
            cases e
            have h1 := HNB.out
            have h2 := HBX.out
            have h3 := HBS1.out
            have h4 : bq < u.heap.size := HQU.out
            show u.heap.size ≠ w.heap.size + 1
            omega)
          go_upto_region 14 with fail
          rw [← hV, ← hu14]
          clear hqa hld hap hu14 hV f1 q1
          have hxr : bX ≠ w.heap.size + 1 := by have h1 := HNB.out; have h2 := HBX.out; omega
          have hyr : bY ≠ w.heap.size + 1 := by have h1 := HNB.out; have h2 := HBY.out; omega
          have hsr : bq + 1 ≠ w.heap.size + 1 := by have h1 := HNB.out; have h2 := HBX.out; have h3 := HBS1.out; omega
          have hnr : bN ≠ w.heap.size + 1 := by have h1 := HNB.out; omega
          have HXR := Lib.hid hxr
          have HYR := Lib.hid hyr
          have HSR := Lib.hid hsr
          have HNR := Lib.hid hnr
          clear hxr hyr hsr hnr
          refine wp_region_held_drew (S := fun u => SB w u14 (w.heap.size + 1) u) (by kernel_rfl) (by exact SB.of _ (HQ.out)) (fun hHeld => ?_)
          have hS : SB w u14 (w.heap.size + 1) u14.drew := hHeld
          clear hHeld
          have hq : Q u14 u14.drew := (Q.refl _).drew
          have HB := Lib.hid (Bk.q HB.out hq)
          clear hq
          generalize u14.drew = yR6x0 at *
          change wpAnyH _ _ _ _ _ _ #[ff,ff,ff,ff,ff,ff,ff,ff,ff] _ _
          refine wpAnyH_take (i := 0) (v := ?vR6x1) (by (try simp only [gA, gB, gC]); rfl) (by kernel_rfl) (by kernel_rfl) (by kernel_rfl) (by exact fun _ _ _ h => h) (Or.inl ⟨by first | kernel_rfl | rfl, ?hyR6x1⟩) (by exact hS) ?rsR6x1
          case hyR6x1 => (intro uz hSw; (try dsimp only at hSw); have hxx := SB.bk hSw HDX.out HXR.out; have d0 := hxx.cell 0 rfl; have d1 := hxx.cell 1 rfl; have d2 := hxx.cell 2 rfl; clear hxx; go_simp; try with_reducible rfl)
          try simp only [Act.put, sA, sB, sC]
          change wpAnyH _ _ _ _ _ _ #[tt,ff,ff,ff,ff,ff,ff,ff,ff] _ _
          refine wpAnyH_take (i := 2) (v := ?vR6x2) (by (try simp only [gA, gB, gC]); rfl) (by kernel_rfl) (by kernel_rfl) (by kernel_rfl) (by exact fun _ _ _ h => h) (Or.inl ⟨by first | kernel_rfl | rfl, ?hyR6x2⟩) (by exact hS) ?rsR6x2
          case hyR6x2 => (intro uz hSw; (try dsimp only at hSw); have hxx := SB.bk hSw HDY.out HYR.out; have d0 := hxx.cell 0 rfl; have d1 := hxx.cell 1 rfl; have d2 := hxx.cell 2 rfl; clear hxx; go_simp; try with_reducible rfl)
          try simp only [Act.put, sA, sB, sC]
          change wpAnyH _ _ _ _ _ _ #[tt,ff,tt,ff,ff,ff,ff,ff,ff] _ _
          refine wpAnyH_take (i := 4) (v := ?vR6x3) (by (try simp only [gA, gB, gC]); rfl) (by kernel_rfl) (by kernel_rfl) (by kernel_rfl) (by exact fun _ _ _ h => h) (Or.inl ⟨by first | kernel_rfl | rfl, ?hyR6x3⟩) (by exact hS) ?rsR6x3
          case hyR6x3 => (intro uz hSw; (try dsimp only at hSw); have hxx := SB.bk hSw HDS.out HSR.out; have d0 := hxx.cell 0 rfl; have d1 := hxx.cell 1 rfl; have d2 := hxx.cell 2 rfl; clear hxx; go_simp; try with_reducible rfl)
          try simp only [Act.put, sA, sB, sC]
          change wpAnyH _ _ _ _ _ _ #[tt,ff,tt,ff,tt,ff,ff,ff,ff] _ _
          refine wpAnyH_take (i := 6) (v := ?vR6x4) (by (try simp only [gA, gB, gC]); rfl) (by kernel_rfl) (by kernel_rfl) (by kernel_rfl) (by exact fun _ _ _ h => h) (Or.inl ⟨by first | kernel_rfl | rfl, ?hyR6x4⟩) (by exact hS) ?rsR6x4
          case hyR6x4 => (intro uz hSw; (try dsimp only at hSw); have hxx := SB.bk hSw HBN.out HNR.out; have d0 := hxx.cell 0 rfl; have d1 := hxx.cell 1 rfl; have d2 := hxx.cell 2 rfl; have d3 := hxx.cell 3 rfl; have d4 := hxx.cell 4 rfl; have d5 := hxx.cell 5 rfl; have d6 := hxx.cell 6 rfl; clear hxx; go_simp; try with_reducible rfl)
          try simp only [Act.put, sA, sB, sC]
          change wpAnyH _ _ _ _ _ _ #[tt,ff,tt,ff,tt,ff,tt,ff,ff] _ _
          refine wpAnyH_ready (rs := [1]) (by kernel_rfl) (by simp) ?_
          refine (AllReadyH.cons (by (try simp only [gA, gB, gC]); rfl) (fun K hK => ?_) AllReadyH.nil)
          go_simp
          refine (HPX.out _ _ _ (Kp.SB.lst hS HLX.out HARX.out)).mono ?_
          rintro e yR6x5 ⟨rfl, hq⟩
          try (go_wp2_with fail)
          have HB := Lib.hid (Bk.q HB.out hq)
          have hS2 := Kp.SB.q hS hq
          refine hK.out _ _ (by exact hS2) (fun hHeld => ?_)
          clear hK K hHeld hS hq
          have hS := hS2
          clear hS2
          try simp only [Act.put, sA, sB, sC]
          change wpAnyH _ _ _ _ _ _ #[tt,tt,tt,ff,tt,ff,tt,ff,ff] _ _
          refine wpAnyH_ready (rs := [3]) (by kernel_rfl) (by simp) ?_
          refine (AllReadyH.cons (by (try simp only [gA, gB, gC]); rfl) (fun K hK => ?_) AllReadyH.nil)
          go_simp
          refine (HPY.out _ _ _ (Kp.SB.lst hS HLY.out HARY.out)).mono ?_
          rintro e yR6x6 ⟨rfl, hq⟩
          try (go_wp2_with fail)
          have HB := Lib.hid (Bk.q HB.out hq)
          have hS2 := Kp.SB.q hS hq
          refine hK.out _ _ (by exact hS2) (fun hHeld => ?_)
          clear hK K hHeld hS hq
          have hS := hS2
          clear hS2
          try simp only [Act.put, sA, sB, sC]
          change wpAnyH _ _ _ _ _ _ #[tt,tt,tt,tt,tt,ff,tt,ff,ff] _ _
          refine wpAnyH_ready (rs := [5]) (by kernel_rfl) (by simp) ?_
          refine (AllReadyH.cons (by (try simp only [gA, gB, gC]); rfl) (fun K hK => ?_) AllReadyH.nil)
          go_simp
          refine (HPD.out _ _ (Kp.SB.lst hS HLS2.out HAS2.out)).mono ?_
          rintro e yR6x7 ⟨rfl, hq⟩
          try (go_wp2_with fail)
          have HB := Lib.hid (Bk.q HB.out hq)
          have hS2 := Kp.SB.q hS hq
          refine hK.out _ _ (by exact hS2) (fun hHeld => ?_)
          clear hK K hHeld hS hq
          have hS := hS2
          clear hS2
          try simp only [Act.put, sA, sB, sC]
          change wpAnyH _ _ _ _ _ _ #[tt,tt,tt,tt,tt,tt,tt,ff,ff] _ _
          refine wpAnyH_take (i := 7) (v := ?vR6x8) (by (try simp only [gA, gB, gC]); rfl) (by kernel_rfl) (by kernel_rfl) (by kernel_rfl) (by exact fun _ _ _ h => h) (Or.inl ⟨by first | kernel_rfl | rfl, ?hyR6x8⟩) (by exact hS) ?rsR6x8
          case hyR6x8 => (intro uz hSw; (try dsimp only at hSw); go_simp; try with_reducible rfl)
          try simp only [Act.put, sA, sB, sC]
          change wpAnyH _ _ _ _ _ _ #[tt,tt,tt,tt,tt,tt,tt,tt,ff] _ _
          refine wpAnyH_ready (rs := [8]) (by kernel_rfl) (by simp) ?_
          refine (AllReadyH.cons (by (try simp only [gA, gB, gC]); rfl) (fun K hK => ?_) AllReadyH.nil)
          have hbs := HB.out
          have b0 := hbs.cell 0 rfl
          have f0 := hbs.free 0
          have b1 := hbs.cell 1 rfl
          have f1 := hbs.free 1
          have b2 := hbs.cell 2 rfl
          have f2 := hbs.free 2
          have b3 := hbs.cell 3 rfl
          have f3 := hbs.free 3
          have b4 := hbs.cell 4 rfl
          have f4 := hbs.free 4
          have b5 := hbs.cell 5 rfl
          have f5 := hbs.free 5
          have b6 := hbs.cell 6 rfl
          have f6 := hbs.free 6
          have b7 := hbs.cell 7 rfl
          have f7 := hbs.free 7
          have b8 := hbs.cell 8 rfl
          have f8 := hbs.free 8
          have b9 := hbs.cell 9 rfl
          have f9 := hbs.free 9
          clear hbs
          go_simp
          have hS2 := ((((((((((hS.set (Nat.le_succ _) 0 (.string (Dm.prt gl X n2))).set (Nat.le_succ _) 1 (.string (Dm.prt gh Y n2))).set (Nat.le_succ _) 2 (.string (Dm.prt false [d] n2))).set (Nat.le_succ _) 3 (.int .i64 n0)).set (Nat.le_succ _) 4 (.int .i64 n1)).set (Nat.le_succ _) 5 (.int .i64 n2)).set (Nat.le_succ _) 6 (.int .i64 n3)).set (Nat.le_succ _) 7 (.int .i64 n4)).set (Nat.le_succ _) 8 (.int .i64 n5)).set (Nat.le_succ _) 9 (.int .i64 n6))
          replace HB := Lib.hid (show Bk _ (w.heap.size + 1) 25 [.string (Dm.prt gl X n2), .string (Dm.prt gh Y n2), .string (Dm.prt false [d] n2), .int .i64 n0, .int .i64 n1, .int .i64 n2, .int .i64 n3, .int .i64 n4, .int .i64 n5, .int .i64 n6] from ((((((((((HB.out.set 0 (.string (Dm.prt gl X n2))).set 1 (.string (Dm.prt gh Y n2))).set 2 (.string (Dm.prt false [d] n2))).set 3 (.int .i64 n0)).set 4 (.int .i64 n1)).set 5 (.int .i64 n2)).set 6 (.int .i64 n3)).set 7 (.int .i64 n4)).set 8 (.int .i64 n5)).set 9 (.int .i64 n6)))
          refine hK.out _ _ (by exact hS2) (fun hHeld => ?_)
          clear hK K hHeld hS
          have hS := hS2
          clear hS2 b0 f0 b1 f1 b2 f2 b3 f3 b4 f4 b5 f5 b6 f6 b7 f7 b8 f8 b9 f9
          generalize ((((((((((yR6x7.setCell ⟨w.heap.size + 1, 0, none⟩ (.string (Dm.prt gl X n2))).setCell ⟨w.heap.size + 1, 1, none⟩ (.string (Dm.prt gh Y n2))).setCell ⟨w.heap.size + 1, 2, none⟩ (.string (Dm.prt false [d] n2))).setCell ⟨w.heap.size + 1, 3, none⟩ (.int .i64 n0)).setCell ⟨w.heap.size + 1, 4, none⟩ (.int .i64 n1)).setCell ⟨w.heap.size + 1, 5, none⟩ (.int .i64 n2)).setCell ⟨w.heap.size + 1, 6, none⟩ (.int .i64 n3)).setCell ⟨w.heap.size + 1, 7, none⟩ (.int .i64 n4)).setCell ⟨w.heap.size + 1, 8, none⟩ (.int .i64 n5)).setCell ⟨w.heap.size + 1, 9, none⟩ (.int .i64 n6)) = yR6x9 at *
          try simp only [Act.put, sA, sB, sC]
          change wpAnyH _ _ _ _ _ _ #[tt,tt,tt,tt,tt,tt,tt,tt,tt] _ _
          refine wpAnyH_done (by kernel_rfl) ?_ _
          go_wp2_with fail
          exact ret_bk (l := [.string (Dm.prt gl X n2), .string (Dm.prt gh Y n2), .string (Dm.prt false [d] n2), .int .i64 n0, .int .i64 n1, .int .i64 n2, .int .i64 n3, .int .i64 n4, .int .i64 n5, .int .i64 n6]) rfl Tryz.underlying25 (by exact infoC) rfl HB.out rfl ⟨rfl, hS.1⟩
      · subst hsm
        have g7 := HG.out.cell 7 rfl
        have g6 := HG.out.cell 6 rfl
        obtain rfl : d = 1 := HDD.out.trans (by unfold Km.stp; rw [if_pos rfl])
        go_upto_region 14 with fail
        clear g6 g7
        have HAS2 := Lib.hid (show Ap (.slice (some ⟨bq, 0, none⟩) 1 1) (w.heap.size + 1) from fun a n c e hn => by
          cases e
          have h1 := HNB.out
          have h2 := HBX.out
          have h3 := HBS1.out
          show bq ≠ w.heap.size + 1
          omega)
        have hxr : bX ≠ w.heap.size + 1 := by have h1 := HNB.out; have h2 := HBX.out; omega
        have hyr : bY ≠ w.heap.size + 1 := by have h1 := HNB.out; have h2 := HBY.out; omega
        have hsr : bq + 1 ≠ w.heap.size + 1 := by have h1 := HNB.out; have h2 := HBX.out; have h3 := HBS1.out; omega
        have hnr : bN ≠ w.heap.size + 1 := by have h1 := HNB.out; omega
        have HXR := Lib.hid hxr
        have HYR := Lib.hid hyr
        have HSR := Lib.hid hsr
        have HNR := Lib.hid hnr
        clear hxr hyr hsr hnr
        refine wp_region_held_drew (S := fun u => SB w u13 (w.heap.size + 1) u) (by kernel_rfl) (by exact SB.of _ (HQ.out)) (fun hHeld => ?_)
        have hS : SB w u13 (w.heap.size + 1) u13.drew := hHeld
        clear hHeld
        have hq : Q u13 u13.drew := (Q.refl _).drew
        have HB := Lib.hid (Bk.q HB.out hq)
        clear hq
        generalize u13.drew = yR7x0 at *
        change wpAnyH _ _ _ _ _ _ #[ff,ff,ff,ff,ff,ff,ff,ff,ff] _ _
        refine wpAnyH_take (i := 0) (v := ?vR7x1) (by (try simp only [gA, gB, gC]); rfl) (by kernel_rfl) (by kernel_rfl) (by kernel_rfl) (by exact fun _ _ _ h => h) (Or.inl ⟨by first | kernel_rfl | rfl, ?hyR7x1⟩) (by exact hS) ?rsR7x1
        case hyR7x1 => (intro uz hSw; (try dsimp only at hSw); have hxx := SB.bk hSw HDX.out HXR.out; have d0 := hxx.cell 0 rfl; have d1 := hxx.cell 1 rfl; have d2 := hxx.cell 2 rfl; clear hxx; go_simp; try with_reducible rfl)
        try simp only [Act.put, sA, sB, sC]
        change wpAnyH _ _ _ _ _ _ #[tt,ff,ff,ff,ff,ff,ff,ff,ff] _ _
        refine wpAnyH_take (i := 2) (v := ?vR7x2) (by (try simp only [gA, gB, gC]); rfl) (by kernel_rfl) (by kernel_rfl) (by kernel_rfl) (by exact fun _ _ _ h => h) (Or.inl ⟨by first | kernel_rfl | rfl, ?hyR7x2⟩) (by exact hS) ?rsR7x2
        case hyR7x2 => (intro uz hSw; (try dsimp only at hSw); have hxx := SB.bk hSw HDY.out HYR.out; have d0 := hxx.cell 0 rfl; have d1 := hxx.cell 1 rfl; have d2 := hxx.cell 2 rfl; clear hxx; go_simp; try with_reducible rfl)
        try simp only [Act.put, sA, sB, sC]
        change wpAnyH _ _ _ _ _ _ #[tt,ff,tt,ff,ff,ff,ff,ff,ff] _ _
        refine wpAnyH_take (i := 4) (v := ?vR7x3) (by (try simp only [gA, gB, gC]); rfl) (by kernel_rfl) (by kernel_rfl) (by kernel_rfl) (by exact fun _ _ _ h => h) (Or.inl ⟨by first | kernel_rfl | rfl, ?hyR7x3⟩) (by exact hS) ?rsR7x3
        case hyR7x3 => (intro uz hSw; (try dsimp only at hSw); have hxx := SB.bk hSw HDS.out HSR.out; have d0 := hxx.cell 0 rfl; have d1 := hxx.cell 1 rfl; have d2 := hxx.cell 2 rfl; clear hxx; go_simp; try with_reducible rfl)
        try simp only [Act.put, sA, sB, sC]
        change wpAnyH _ _ _ _ _ _ #[tt,ff,tt,ff,tt,ff,ff,ff,ff] _ _
        refine wpAnyH_take (i := 6) (v := ?vR7x4) (by (try simp only [gA, gB, gC]); rfl) (by kernel_rfl) (by kernel_rfl) (by kernel_rfl) (by exact fun _ _ _ h => h) (Or.inl ⟨by first | kernel_rfl | rfl, ?hyR7x4⟩) (by exact hS) ?rsR7x4
        case hyR7x4 => (intro uz hSw; (try dsimp only at hSw); have hxx := SB.bk hSw HBN.out HNR.out; have d0 := hxx.cell 0 rfl; have d1 := hxx.cell 1 rfl; have d2 := hxx.cell 2 rfl; have d3 := hxx.cell 3 rfl; have d4 := hxx.cell 4 rfl; have d5 := hxx.cell 5 rfl; have d6 := hxx.cell 6 rfl; clear hxx; go_simp; try with_reducible rfl)
        try simp only [Act.put, sA, sB, sC]
        change wpAnyH _ _ _ _ _ _ #[tt,ff,tt,ff,tt,ff,tt,ff,ff] _ _
        refine wpAnyH_ready (rs := [1]) (by kernel_rfl) (by simp) ?_
        refine (AllReadyH.cons (by (try simp only [gA, gB, gC]); rfl) (fun K hK => ?_) AllReadyH.nil)
        go_simp
        refine (HPX.out _ _ _ (Kp.SB.lst hS HLX.out HARX.out)).mono ?_
        rintro e yR7x5 ⟨rfl, hq⟩
        try (go_wp2_with fail)
        have HB := Lib.hid (Bk.q HB.out hq)
        have hS2 := Kp.SB.q hS hq
        refine hK.out _ _ (by exact hS2) (fun hHeld => ?_)
        clear hK K hHeld hS hq
        have hS := hS2
        clear hS2
        try simp only [Act.put, sA, sB, sC]
        change wpAnyH _ _ _ _ _ _ #[tt,tt,tt,ff,tt,ff,tt,ff,ff] _ _
        refine wpAnyH_ready (rs := [3]) (by kernel_rfl) (by simp) ?_
        refine (AllReadyH.cons (by (try simp only [gA, gB, gC]); rfl) (fun K hK => ?_) AllReadyH.nil)
        go_simp
        refine (HPY.out _ _ _ (Kp.SB.lst hS HLY.out HARY.out)).mono ?_
        rintro e yR7x6 ⟨rfl, hq⟩
        try (go_wp2_with fail)
        have HB := Lib.hid (Bk.q HB.out hq)
        have hS2 := Kp.SB.q hS hq
        refine hK.out _ _ (by exact hS2) (fun hHeld => ?_)
        clear hK K hHeld hS hq
        have hS := hS2
        clear hS2
        try simp only [Act.put, sA, sB, sC]
        change wpAnyH _ _ _ _ _ _ #[tt,tt,tt,tt,tt,ff,tt,ff,ff] _ _
        refine wpAnyH_ready (rs := [5]) (by kernel_rfl) (by simp) ?_
        refine (AllReadyH.cons (by (try simp only [gA, gB, gC]); rfl) (fun K hK => ?_) AllReadyH.nil)
        go_simp
        refine (HPD.out _ _ (Kp.SB.lst hS HLS1.out HAS2.out)).mono ?_
        rintro e yR7x7 ⟨rfl, hq⟩
        try (go_wp2_with fail)
        have HB := Lib.hid (Bk.q HB.out hq)
        have hS2 := Kp.SB.q hS hq
        refine hK.out _ _ (by exact hS2) (fun hHeld => ?_)
        clear hK K hHeld hS hq
        have hS := hS2
        clear hS2
        try simp only [Act.put, sA, sB, sC]
        change wpAnyH _ _ _ _ _ _ #[tt,tt,tt,tt,tt,tt,tt,ff,ff] _ _
        refine wpAnyH_take (i := 7) (v := ?vR7x8) (by (try simp only [gA, gB, gC]); rfl) (by kernel_rfl) (by kernel_rfl) (by kernel_rfl) (by exact fun _ _ _ h => h) (Or.inl ⟨by first | kernel_rfl | rfl, ?hyR7x8⟩) (by exact hS) ?rsR7x8
        case hyR7x8 => (intro uz hSw; (try dsimp only at hSw); go_simp; try with_reducible rfl)
        try simp only [Act.put, sA, sB, sC]
        change wpAnyH _ _ _ _ _ _ #[tt,tt,tt,tt,tt,tt,tt,tt,ff] _ _
        refine wpAnyH_ready (rs := [8]) (by kernel_rfl) (by simp) ?_
        refine (AllReadyH.cons (by (try simp only [gA, gB, gC]); rfl) (fun K hK => ?_) AllReadyH.nil)
        have hbs := HB.out
        have b0 := hbs.cell 0 rfl
        have f0 := hbs.free 0
        have b1 := hbs.cell 1 rfl
        have f1 := hbs.free 1
        have b2 := hbs.cell 2 rfl
        have f2 := hbs.free 2
        have b3 := hbs.cell 3 rfl
        have f3 := hbs.free 3
        have b4 := hbs.cell 4 rfl
        have f4 := hbs.free 4
        have b5 := hbs.cell 5 rfl
        have f5 := hbs.free 5
        have b6 := hbs.cell 6 rfl
        have f6 := hbs.free 6
        have b7 := hbs.cell 7 rfl
        have f7 := hbs.free 7
        have b8 := hbs.cell 8 rfl
        have f8 := hbs.free 8
        have b9 := hbs.cell 9 rfl
        have f9 := hbs.free 9
        clear hbs
        go_simp
        have hS2 := ((((((((((hS.set (Nat.le_succ _) 0 (.string (Dm.prt gl X n2))).set (Nat.le_succ _) 1 (.string (Dm.prt gh Y n2))).set (Nat.le_succ _) 2 (.string (Dm.prt false [1] n2))).set (Nat.le_succ _) 3 (.int .i64 n0)).set (Nat.le_succ _) 4 (.int .i64 n1)).set (Nat.le_succ _) 5 (.int .i64 n2)).set (Nat.le_succ _) 6 (.int .i64 n3)).set (Nat.le_succ _) 7 (.int .i64 n4)).set (Nat.le_succ _) 8 (.int .i64 n5)).set (Nat.le_succ _) 9 (.int .i64 n6))
        replace HB := Lib.hid (show Bk _ (w.heap.size + 1) 25 [.string (Dm.prt gl X n2), .string (Dm.prt gh Y n2), .string (Dm.prt false [1] n2), .int .i64 n0, .int .i64 n1, .int .i64 n2, .int .i64 n3, .int .i64 n4, .int .i64 n5, .int .i64 n6] from ((((((((((HB.out.set 0 (.string (Dm.prt gl X n2))).set 1 (.string (Dm.prt gh Y n2))).set 2 (.string (Dm.prt false [1] n2))).set 3 (.int .i64 n0)).set 4 (.int .i64 n1)).set 5 (.int .i64 n2)).set 6 (.int .i64 n3)).set 7 (.int .i64 n4)).set 8 (.int .i64 n5)).set 9 (.int .i64 n6)))
        refine hK.out _ _ (by exact hS2) (fun hHeld => ?_)
        clear hK K hHeld hS
        have hS := hS2
        clear hS2 b0 f0 b1 f1 b2 f2 b3 f3 b4 f4 b5 f5 b6 f6 b7 f7 b8 f8 b9 f9
        generalize ((((((((((yR7x7.setCell ⟨w.heap.size + 1, 0, none⟩ (.string (Dm.prt gl X n2))).setCell ⟨w.heap.size + 1, 1, none⟩ (.string (Dm.prt gh Y n2))).setCell ⟨w.heap.size + 1, 2, none⟩ (.string (Dm.prt false [1] n2))).setCell ⟨w.heap.size + 1, 3, none⟩ (.int .i64 n0)).setCell ⟨w.heap.size + 1, 4, none⟩ (.int .i64 n1)).setCell ⟨w.heap.size + 1, 5, none⟩ (.int .i64 n2)).setCell ⟨w.heap.size + 1, 6, none⟩ (.int .i64 n3)).setCell ⟨w.heap.size + 1, 7, none⟩ (.int .i64 n4)).setCell ⟨w.heap.size + 1, 8, none⟩ (.int .i64 n5)).setCell ⟨w.heap.size + 1, 9, none⟩ (.int .i64 n6)) = yR7x9 at *
        try simp only [Act.put, sA, sB, sC]
        change wpAnyH _ _ _ _ _ _ #[tt,tt,tt,tt,tt,tt,tt,tt,tt] _ _
        refine wpAnyH_done (by kernel_rfl) ?_ _
        go_wp2_with fail
        exact ret_bk (l := [.string (Dm.prt gl X n2), .string (Dm.prt gh Y n2), .string (Dm.prt false [1] n2), .int .i64 n0, .int .i64 n1, .int .i64 n2, .int .i64 n3, .int .i64 n4, .int .i64 n5, .int .i64 n6]) rfl Tryz.underlying25 (by exact infoC) rfl HB.out rfl ⟨rfl, hS.1⟩
end Kr
end Go.Proofs.YtagpofhencpliaaGreatDoor
