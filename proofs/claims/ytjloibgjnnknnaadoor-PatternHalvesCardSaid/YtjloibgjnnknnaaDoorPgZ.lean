/- The law PatternHalves: a pattern without a second half is that whose second half has a minus ahead of the prefix. Our own work. -/
import Derived.Deep.Cut
import Derived.Deep.DeepCutAuto
import Derived.Test.YtjloibgjnnknnaaDoorRows
import Derived.Test.YtjloibgjnnknnaaDoorInts
import Derived.Test.YtjloibgjnnknnaaDoorUtfM
import Derived.Test.YtjloibgjnnknnaaDoorUtfG
import Derived.Test.YtjloibgjnnknnaaDoorUtfR
import Derived.Test.YtjloibgjnnknnaaDoorBlk
import Derived.Test.YtjloibgjnnknnaaDoorSto
import Derived.Test.YtjloibgjnnknnaaDoorPcs
import Derived.Test.YtjloibgjnnknnaaDoorPatM
import Derived.Test.YtjloibgjnnknnaaDoorPatN
import Derived.Test.YtjloibgjnnknnaaDoorPgA
import Derived.Test.YtjloibgjnnknnaaDoorPgH
import Derived.Test.YtjloibgjnnknnaaDoorPgJ
import Derived.Test.YtjloibgjnnknnaaDoorPgO
import Derived.Test.YtjloibgjnnknnaaDoorPgS
import Derived.Test.YtjloibgjnnknnaaDoorPgT
import Derived.Test.YtjloibgjnnknnaaDoorPgL2
import Derived.Test.YtjloibgjnnknnaaDoorPgX
import Derived.Test.YtjloibgjnnknnaaDoorPgY
import Derived.Deep.QuietTactic
import Derived.BigQuiet
import Derived.Deep.RegionHeld3
set_option linter.unusedVariables false
set_option linter.unusedSimpArgs false
namespace Go.Proofs.YtjloibgjnnknnaaDoor
open Go.RowKit
namespace Pg
open Pt Um Tx

theorem Lst_len {w : World} {v : Value} {xs : List Int} (h : Lst w v xs) : xs.length ≤ maxLen := by
  rcases h with ⟨h, _⟩ | ⟨g, off, cap, _, _, h1, h2, _⟩
  · rw [h]; exact Nat.zero_le _
  · omega
/-- The text ';-' between a half and itself, parsed. -/
theorem ph3 (pre suf : List Int) {z p q a b : Nat} (hz : z < 7) (hp : p < 5) (hq : q < 5) (ha : a < 4) (hb : b < 4) (w : World) :
    Calls Tryd.prog 15 #[.string (sB (hfT pre suf z p q a b) ++ ⟨#[59, 45]⟩ ++ sB (hfT pre suf z p q a b))] w fun e w' => ∃ v, e = .returned (.tuple #[v, .int .i64 0]) ∧ PV w' w.heap.size v (parseC (hfT pre suf z p q a b)).1 ∧ Q w w' := by
  obtain ⟨P, N, S, c, ho, hv, hN, hN1⟩ := hfT_out pre suf hz hp hq ha hb
  obtain ⟨h1, h2⟩ := hfT_vl pre suf hz hp hq ha hb
  have ho' : outS false false (45 :: hfT pre suf z p q a b) = some ((3, 45) :: P ++ N ++ S, c, c) := by
    rw [outS_cons, if_neg (by decide), if_neg (by decide), if_neg (by decide), ho]; rfl
  have hv' : Hv ((3, 45) :: P) N S := ⟨fun x hx => by
    rcases List.mem_cons.1 hx with rfl | hx
    · simp
    · exact hv.p x hx, hv.s, hv.n⟩
  have := (ph2 pre suf hz hp hq ha hb (T := 45 :: hfT pre suf z p q a b) (fun x hx => by
    rcases List.mem_cons.1 hx with rfl | hx
    · decide +kernel
    · exact h1 x hx) (by rw [List.length_cons]; omega) ho' hv' hN1 (by rw [hN]; exact nmT_okPr hz hp hq ha hb)).1 w
  obtain ⟨X, e1, e2, _⟩ := halves pre suf hz hp hq ha hb
  rw [e2] at this
  rw [e1]
  rw [show sB (hfT pre suf z p q a b) ++ ⟨#[59, 45]⟩ ++ sB (hfT pre suf z p q a b) = sB (hfT pre suf z p q a b ++ 59 :: 45 :: hfT pre suf z p q a b) by
    rw [show (⟨#[59, 45]⟩ : ByteArray) = sB [59, 45] by decide +kernel, sB_app, sB_app]; simp]
  exact this

set_option maxHeartbeats 4000000 in
set_option maxRecDepth 100000 in
theorem law_halves (f0 f1 f3 f4 : Value) (x0 x1 x3 x4 : List Int) (two : Bool) (i5 i6 i7 i8 i9 : Int) (w : World)
    (w0 : Lst w f0 x0) (w1 : Lst w f1 x1) (w3 : Lst w f3 x3) (w4 : Lst w f4 x4)
    (b0 : ∀ n ∈ x0, -9223372036854775808 ≤ n ∧ n ≤ 9223372036854775807) (b1 : ∀ n ∈ x1, -9223372036854775808 ≤ n ∧ n ≤ 9223372036854775807) (b3 : ∀ n ∈ x3, -9223372036854775808 ≤ n ∧ n ≤ 9223372036854775807) (b4 : ∀ n ∈ x4, -9223372036854775808 ≤ n ∧ n ≤ 9223372036854775807)
    (h5 : -9223372036854775808 ≤ i5 ∧ i5 ≤ 9223372036854775807) (h6 : -9223372036854775808 ≤ i6 ∧ i6 ≤ 9223372036854775807) (h7 : -9223372036854775808 ≤ i7 ∧ i7 ≤ 9223372036854775807) (h8 : -9223372036854775808 ≤ i8 ∧ i8 ≤ 9223372036854775807) (h9 : -9223372036854775808 ≤ i9 ∧ i9 ≤ 9223372036854775807) :
    Calls Tryd.prog 4 #[.agg #[f0, f1, .bool two, f3, f4, .int .i64 i5, .int .i64 i6, .int .i64 i7, .int .i64 i8, .int .i64 i9]] w fun e w' => e = .returned (.bool true) ∧ Q w w' := by
  obtain ⟨z, ez⟩ : ∃ n : Nat, around i5 7 = n := ⟨(around i5 7).toNat, by have := around_bd i5 7 (by decide); omega⟩
  have hzl : z < 7 := by have := around_bd i5 7 (by decide); omega
  obtain ⟨p, ep⟩ : ∃ n : Nat, around i6 5 = n := ⟨(around i6 5).toNat, by have := around_bd i6 5 (by decide); omega⟩
  have hpl : p < 5 := by have := around_bd i6 5 (by decide); omega
  obtain ⟨q, eq⟩ : ∃ n : Nat, around i7 5 = n := ⟨(around i7 5).toNat, by have := around_bd i7 5 (by decide); omega⟩
  have hql : q < 5 := by have := around_bd i7 5 (by decide); omega
  obtain ⟨a, ea⟩ : ∃ n : Nat, around i8 4 = n := ⟨(around i8 4).toNat, by have := around_bd i8 4 (by decide); omega⟩
  have hal : a < 4 := by have := around_bd i8 4 (by decide); omega
  obtain ⟨b, eb⟩ : ∃ n : Nat, around i9 4 = n := ⟨(around i9 4).toNat, by have := around_bd i9 4 (by decide); omega⟩
  have hbl : b < 4 := by have := around_bd i9 4 (by decide); omega
  have l0 := Lst_len w0
  have l1 := Lst_len w1
  have l3 := Lst_len w3
  have l4 := Lst_len w4
  obtain ⟨n0, hn0⟩ : ∃ n, x0.length = n := ⟨_, rfl⟩
  obtain ⟨e0, s0, rfl, _, _⟩ := w0.form0 hn0
  obtain ⟨n1, hn1⟩ : ∃ n, x1.length = n := ⟨_, rfl⟩
  obtain ⟨e1, s1, rfl, _, _⟩ := w1.form0 hn1
  obtain ⟨n3, hn3⟩ : ∃ n, x3.length = n := ⟨_, rfl⟩
  obtain ⟨e3, s3, rfl, _, _⟩ := w3.form0 hn3
  obtain ⟨n4, hn4⟩ : ∃ n, x4.length = n := ⟨_, rfl⟩
  obtain ⟨e4, s4, rfl, _, _⟩ := w4.form0 hn4
  obtain ⟨y, hy⟩ : ∃ y, y = w.alloc (.cells #[.slice e0 n0 s0, .slice e1 n1 s1, .bool false, .slice e3 n3 s3, .slice e4 n4 s4, .int .i64 i5, .int .i64 i6, .int .i64 i7, .int .i64 i8, .int .i64 i9] 36) := ⟨_, rfl⟩
  have hqy : Q w y := by rw [hy]; exact (Q.refl w).alloc _
  have HBY := Lib.hid (show Bk y w.heap.size 36 [.slice e0 n0 s0, .slice e1 n1 s1, .bool false, .slice e3 n3 s3, .slice e4 n4 s4, .int .i64 i5, .int .i64 i6, .int .i64 i7, .int .i64 i8, .int .i64 i9] by rw [hy]; exact Bk.new _ _ _)
  have htx := Tx.text_any _ _ _ _ x0 x1 x3 x4 false i5 i6 i7 i8 i9 z p q a b y (w0.q hqy) (w1.q hqy) (w3.q hqy) (w4.q hqy) l0 l1 l3 l4 b0 b1 b3 b4 h5 h6 h7 h8 h9 ez ep eq ea eb
  rw [show hfT x0 x1 z p q a b ++ twoT false x3 x4 = hfT x0 x1 z p q a b by simp [twoT]] at htx
  have HTX := Lib.hid htx
  have HP1 := Lib.hid (fun u => ph1 x0 x1 hzl hpl hql hal hbl u)
  have HP2 := Lib.hid (fun u => ph3 x0 x1 hzl hpl hql hal hbl u)
  obtain ⟨hps, hnp⟩ := ps1 x0 x1 hzl hpl hql hal hbl
  have htl := (hfT_vl x0 x1 hzl hpl hql hal hbl).2
  have hts := sB_size (hfT x0 x1 z p q a b)
  generalize (parseC (hfT x0 x1 z p q a b)).1 = X at *
  generalize sB (hfT x0 x1 z p q a b) = TT at *
  have HSM0 := Lib.hid (fun (u : World) (B C : Nat) (v x : Value) (h : PV u B v X) (h' : PV u C x X) => (by
    have := same_any v x _ _ u B C h h' hps hps
    rwa [decide_eq_true rfl] at this : Calls Tryd.prog 16 #[v, x] u fun e w' => e = .returned (.bool true) ∧ Q u w'))
  obtain ⟨CN, hCN⟩ : ∃ c, c = X.pre.countP fun p => p.1 == 3 := ⟨_, rfl⟩
  have hcn : CN ≤ 1000000 := by rw [hCN]; exact Nat.le_trans List.countP_le_length hps.1
  have HC10 := Lib.hid (fun (u : World) (v : Value) (h : Pc.LstP u v X.npre) => (by
    have := countP_any v X.npre 3 u h hps.2.2.1
    rw [hnp, List.countP_cons, ← hCN] at this
    simpa using this : Calls Tryd.prog 12 #[v, .int .i64 3] u fun e w' => e = .returned (.int .i64 ((CN : Int) + 1)) ∧ Q u w'))
  have HC20 := Lib.hid (fun (u : World) (v : Value) (h : Pc.LstP u v X.pre) => (by
    have := countP_any v X.pre 3 u h hps.1
    rwa [← hCN] at this : Calls Tryd.prog 12 #[v, .int .i64 3] u fun e w' => e = .returned (.int .i64 (CN : Int)) ∧ Q u w'))
  have hcni : (CN : Int) ≤ 1000000 := by omega
  have hcn0 : (0 : Int) ≤ (CN : Int) := by omega
  have hwr : IntKind.i64.wrap ((CN : Int) + 1) = (CN : Int) + 1 := by rw [IntKind.wrap_i64]; omega
  have HQY := Lib.hid hqy
  have hd1 : ¬ 9223372036854775807 < TT.size + 2 := by omega
  have hd2 : ¬ 9223372036854775807 < TT.size + 2 + TT.size := by omega
  obtain ⟨la, hla⟩ : ∃ n, X.pre.length = n := ⟨_, rfl⟩
  obtain ⟨lb, hlb⟩ : ∃ n, X.suf.length = n := ⟨_, rfl⟩
  obtain ⟨lc, hlc⟩ : ∃ n, X.npre.length = n := ⟨_, rfl⟩
  obtain ⟨ld, hld⟩ : ∃ n, X.nsuf.length = n := ⟨_, rfl⟩
  clear w0 w1 w3 w4 l0 l1 l3 l4 b0 b1 b3 b4 h5 h6 h7 h8 h9 ez ep eq ea eb hqy htx hn0 hn1 hn3 hn4 hps hnp htl hts hCN hcn hzl hpl hql hal hbl
  go_enter Tryd.func4, Tryd.ntmps4
  go_upto_region 2 with fail
  rw [← hy]
  clear hy
  have k0 := HBY.out.cell 0 rfl
  have k1 := HBY.out.cell 1 rfl
  have k2 := HBY.out.cell 2 rfl
  have k3 := HBY.out.cell 3 rfl
  have k4 := HBY.out.cell 4 rfl
  have k5 := HBY.out.cell 5 rfl
  have k6 := HBY.out.cell 6 rfl
  have k7 := HBY.out.cell 7 rfl
  have k8 := HBY.out.cell 8 rfl
  have k9 := HBY.out.cell 9 rfl
  go_wp2_with fail
  refine HTX.out.mono ?_
  rintro e u1 ⟨rfl, hq1⟩
  clear k0 k1 k2 k3 k4 k5 k6 k7 k8 k9
  go_wp2_with fail
  refine (HP1.out _).mono ?_
  rintro e u2 ⟨v1, rfl, hpv1, hq2⟩
  have HPV1 := Lib.hid hpv1
  obtain ⟨va, vb, vc, vd, rfl, ha, hb, hc, hd⟩ := hpv1
  obtain ⟨ae1, ae2, rfl, _, _⟩ := ha.1.form0 hla
  obtain ⟨be1, be2, rfl, _, _⟩ := hb.1.form0 hlb
  obtain ⟨ce1, ce2, rfl, _, _⟩ := hc.1.form0 hlc
  obtain ⟨de1, de2, rfl, _, _⟩ := hd.1.form0 hld
  have HB10 := Lib.hid (Bk.new u2 39 [.slice ae1 la ae2, .slice be1 lb be2, .slice ce1 lc ce2, .slice de1 ld de2, .int .i64 X.pr, .int .i64 X.se, .int .i64 X.mi, .int .i64 X.mf, .int .i64 X.xf])
  have HPV2 := Lib.hid (HPV1.out.q ((Q.refl u2).alloc (.cells #[.slice ae1 la ae2, .slice be1 lb be2, .slice ce1 lc ce2, .slice de1 ld de2, .int .i64 X.pr, .int .i64 X.se, .int .i64 X.mi, .int .i64 X.mf, .int .i64 X.xf] 39)))
  have HQ1 := Lib.hid (HQY.out.trans (hq1.trans (hq2.alloc (.cells #[.slice ae1 la ae2, .slice be1 lb be2, .slice ce1 lc ce2, .slice de1 ld de2, .int .i64 X.pr, .int .i64 X.se, .int .i64 X.mi, .int .i64 X.mf, .int .i64 X.xf] 39))))
  clear ha hb hc hd hq1 hq2 HPV1
  go_wp2_with fail
  refine (HP2.out _).mono ?_
  rintro e u3 ⟨v2, rfl, hpv2, hq3⟩
  have HPV3 := Lib.hid hpv2
  obtain ⟨va, vb, vc, vd, rfl, ha, hb, hc, hd⟩ := hpv2
  obtain ⟨ag1, ag2, rfl, _, _⟩ := ha.1.form0 hla
  obtain ⟨bg1, bg2, rfl, _, _⟩ := hb.1.form0 hlb
  obtain ⟨cg1, cg2, rfl, _, _⟩ := hc.1.form0 hlc
  obtain ⟨dg1, dg2, rfl, _, _⟩ := hd.1.form0 hld
  obtain ⟨t2, ht2⟩ : ∃ t, t = u3.alloc (.cells #[.slice ag1 la ag2, .slice bg1 lb bg2, .slice cg1 lc cg2, .slice dg1 ld dg2, .int .i64 X.pr, .int .i64 X.se, .int .i64 X.mi, .int .i64 X.mf, .int .i64 X.xf] 39) := ⟨_, rfl⟩
  have HB2 := Lib.hid (show Bk t2 u3.heap.size 39 [.slice ag1 la ag2, .slice bg1 lb bg2, .slice cg1 lc cg2, .slice dg1 ld dg2, .int .i64 X.pr, .int .i64 X.se, .int .i64 X.mi, .int .i64 X.mf, .int .i64 X.xf] by rw [ht2]; exact Bk.new _ _ _)
  have hq3t := hq3.alloc (.cells #[.slice ag1 la ag2, .slice bg1 lb bg2, .slice cg1 lc cg2, .slice dg1 ld dg2, .int .i64 X.pr, .int .i64 X.se, .int .i64 X.mi, .int .i64 X.mf, .int .i64 X.xf] 39)
  rw [← ht2] at hq3t
  have HB1 := Lib.hid (HB10.out.q hq3t)
  have HPV4 := Lib.hid (HPV2.out.q hq3t)
  have HPV5 := Lib.hid (show PV t2 _ _ X by rw [ht2]; exact HPV3.out.q ((Q.refl u3).alloc (.cells #[.slice ag1 la ag2, .slice bg1 lb bg2, .slice cg1 lc cg2, .slice dg1 ld dg2, .int .i64 X.pr, .int .i64 X.se, .int .i64 X.mi, .int .i64 X.mf, .int .i64 X.xf] 39)))
  have HQ2 := Lib.hid (HQ1.out.trans hq3t)
  have HSM := Lib.hid (fun u (h : Q t2 u) => HSM0.out u _ _ _ _ (HPV4.out.q h) (HPV5.out.q h))
  obtain ⟨_, _, _, _, hve, hpa, _, hpc, _⟩ := HPV4.out
  cases hve
  have HC1 := Lib.hid (fun u (h : Q t2 u) => HC10.out u _ (hpc.1.q h))
  have HC2 := Lib.hid (fun u (h : Q t2 u) => HC20.out u _ (hpa.1.q h))
  clear ha hb hc hd hq3 hq3t HB10 HPV2 HPV3 HPV4 HPV5 hpa hpc HSM0 HC10 HC20 HP1 HP2
  go_upto_region 5 with fail
  rw [← ht2]
  clear ht2
  refine wp_region_held_drew (S := fun u => Q t2 u) (by kernel_rfl) (by exact (Q.refl t2).drew) (fun hHeld => ?_)
  have hS : Q t2 t2.drew := hHeld
  clear hHeld
  have hq : Q t2 t2.drew := (Q.refl _).drew
  clear hq
  generalize t2.drew = yR1x0 at *
  refine wpAnyH_take (i := 0) (v := ?vR1x1) rfl (by kernel_rfl) (by kernel_rfl) (by kernel_rfl) (fun _ _ _ h => h) (Or.inl ⟨by rfl, ?hyR1x1⟩) (by exact hS) ?rsR1x1
  case hyR1x1 => (intro uz hSw; (try dsimp only at hSw); go_simp; try with_reducible rfl)
  try simp only [Act.put, List.setIfInBounds_toArray, List.set_cons_zero, List.set_cons_succ]
  refine wpAnyH_take (i := 1) (v := ?vR1x2) rfl (by kernel_rfl) (by kernel_rfl) (by kernel_rfl) (fun _ _ _ h => h) (Or.inl ⟨by rfl, ?hyR1x2⟩) (by exact hS) ?rsR1x2
  case hyR1x2 => (intro uz hSw; (try dsimp only at hSw); go_simp; try with_reducible rfl)
  try simp only [Act.put, List.setIfInBounds_toArray, List.set_cons_zero, List.set_cons_succ]
  refine wpAnyH_take (i := 2) (v := ?vR1x3) rfl (by kernel_rfl) (by kernel_rfl) (by kernel_rfl) (fun _ _ _ h => h) (Or.inl ⟨by rfl, ?hyR1x3⟩) (by exact hS) ?rsR1x3
  case hyR1x3 => (intro uz hSw; (try dsimp only at hSw); go_simp; try with_reducible rfl)
  try simp only [Act.put, List.setIfInBounds_toArray, List.set_cons_zero, List.set_cons_succ]
  refine wpAnyH_take (i := 3) (v := ?vR1x4) rfl (by kernel_rfl) (by kernel_rfl) (by kernel_rfl) (fun _ _ _ h => h) (Or.inl ⟨by rfl, ?hyR1x4⟩) (by exact hS) ?rsR1x4
  case hyR1x4 => (intro uz hSw; (try dsimp only at hSw); go_simp; try with_reducible rfl)
  try simp only [Act.put, List.setIfInBounds_toArray, List.set_cons_zero, List.set_cons_succ]
  refine wpAnyH_take (i := 4) (v := ?vR1x5) rfl (by kernel_rfl) (by kernel_rfl) (by kernel_rfl) (fun _ _ _ h => h) (Or.inl ⟨by rfl, ?hyR1x5⟩) (by exact hS) ?rsR1x5
  case hyR1x5 => (intro uz hSw; (try dsimp only at hSw); go_simp; try with_reducible rfl)
  try simp only [Act.put, List.setIfInBounds_toArray, List.set_cons_zero, List.set_cons_succ]
  refine wpAnyH_take (i := 5) (v := ?vR1x6) rfl (by kernel_rfl) (by kernel_rfl) (by kernel_rfl) (fun _ _ _ h => h) (Or.inl ⟨by rfl, ?hyR1x6⟩) (by exact hS) ?rsR1x6
  case hyR1x6 => (intro uz hSw; (try dsimp only at hSw); go_simp; try with_reducible rfl)
  try simp only [Act.put, List.setIfInBounds_toArray, List.set_cons_zero, List.set_cons_succ]
  refine wpAnyH_take (i := 6) (v := ?vR1x7) rfl (by kernel_rfl) (by kernel_rfl) (by kernel_rfl) (fun _ _ _ h => h) (Or.inl ⟨by rfl, ?hyR1x7⟩) (by exact hS) ?rsR1x7
  case hyR1x7 => (intro uz hSw; (try dsimp only at hSw); go_simp; try with_reducible rfl)
  try simp only [Act.put, List.setIfInBounds_toArray, List.set_cons_zero, List.set_cons_succ]
  refine wpAnyH_take (i := 7) (v := ?vR1x8) rfl (by kernel_rfl) (by kernel_rfl) (by kernel_rfl) (fun _ _ _ h => h) (Or.inl ⟨by rfl, ?hyR1x8⟩) (by exact hS) ?rsR1x8
  case hyR1x8 => (intro uz hSw; (try dsimp only at hSw); have kp := HB1.out.q hSw; have kq := HB2.out.q hSw; have p0 := kp.cell 0 rfl; have q0 := kq.cell 0 rfl; have p1 := kp.cell 1 rfl; have q1 := kq.cell 1 rfl; have p2 := kp.cell 2 rfl; have q2 := kq.cell 2 rfl; have p3 := kp.cell 3 rfl; have q3 := kq.cell 3 rfl; have p4 := kp.cell 4 rfl; have q4 := kq.cell 4 rfl; have p5 := kp.cell 5 rfl; have q5 := kq.cell 5 rfl; have p6 := kp.cell 6 rfl; have q6 := kq.cell 6 rfl; have p7 := kp.cell 7 rfl; have q7 := kq.cell 7 rfl; have p8 := kp.cell 8 rfl; have q8 := kq.cell 8 rfl; clear kp kq; go_simp; try with_reducible rfl)
  try simp only [Act.put, List.setIfInBounds_toArray, List.set_cons_zero, List.set_cons_succ]
  refine wpAnyH_take (i := 8) (v := ?vR1x9) rfl (by kernel_rfl) (by kernel_rfl) (by kernel_rfl) (fun _ _ _ h => h) (Or.inl ⟨by rfl, ?hyR1x9⟩) (by exact hS) ?rsR1x9
  case hyR1x9 => (intro uz hSw; (try dsimp only at hSw); have kp := HB1.out.q hSw; have kq := HB2.out.q hSw; have p0 := kp.cell 0 rfl; have q0 := kq.cell 0 rfl; have p1 := kp.cell 1 rfl; have q1 := kq.cell 1 rfl; have p2 := kp.cell 2 rfl; have q2 := kq.cell 2 rfl; have p3 := kp.cell 3 rfl; have q3 := kq.cell 3 rfl; have p4 := kp.cell 4 rfl; have q4 := kq.cell 4 rfl; have p5 := kp.cell 5 rfl; have q5 := kq.cell 5 rfl; have p6 := kp.cell 6 rfl; have q6 := kq.cell 6 rfl; have p7 := kp.cell 7 rfl; have q7 := kq.cell 7 rfl; have p8 := kp.cell 8 rfl; have q8 := kq.cell 8 rfl; clear kp kq; go_simp; try with_reducible rfl)
  try simp only [Act.put, List.setIfInBounds_toArray, List.set_cons_zero, List.set_cons_succ]
  refine wpAnyH_ready (rs := [9]) (by kernel_rfl) (by simp) ?_
  refine (AllReadyH.cons rfl (fun K hK => ?_) AllReadyH.nil)
  go_simp
  refine (HSM.out _ hS).mono ?_
  rintro e yR1x10 ⟨rfl, hq⟩
  try (go_wp2_with fail)
  have hS2 := Q.trans hS hq
  refine hK.out _ _ (by exact hS2) (fun hHeld => ?_)
  clear hK K hHeld hS hq
  have hS := hS2
  clear hS2
  try simp only [Act.put, List.setIfInBounds_toArray, List.set_cons_zero, List.set_cons_succ]
  refine wpAnyH_take (i := 10) (v := ?vR1x11) rfl (by kernel_rfl) (by kernel_rfl) (by kernel_rfl) (fun _ _ _ h => h) (Or.inl ⟨by rfl, ?hyR1x11⟩) (by exact hS) ?rsR1x11
  case hyR1x11 => (intro uz hSw; (try dsimp only at hSw); go_simp; try with_reducible rfl)
  try simp only [Act.put, List.setIfInBounds_toArray, List.set_cons_zero, List.set_cons_succ]
  refine wpAnyH_take (i := 11) (v := ?vR1x12) rfl (by kernel_rfl) (by kernel_rfl) (by kernel_rfl) (fun _ _ _ h => h) (Or.inl ⟨by rfl, ?hyR1x12⟩) (by exact hS) ?rsR1x12
  case hyR1x12 => (intro uz hSw; (try dsimp only at hSw); go_simp; try with_reducible rfl)
  try simp only [Act.put, List.setIfInBounds_toArray, List.set_cons_zero, List.set_cons_succ]
  refine wpAnyH_take (i := 12) (v := ?vR1x13) rfl (by kernel_rfl) (by kernel_rfl) (by kernel_rfl) (fun _ _ _ h => h) (Or.inl ⟨by rfl, ?hyR1x13⟩) (by exact hS) ?rsR1x13
  case hyR1x13 => (intro uz hSw; (try dsimp only at hSw); go_simp; try with_reducible rfl)
  try simp only [Act.put, List.setIfInBounds_toArray, List.set_cons_zero, List.set_cons_succ]
  refine wpAnyH_take (i := 13) (v := ?vR1x14) rfl (by kernel_rfl) (by kernel_rfl) (by kernel_rfl) (fun _ _ _ h => h) (Or.inl ⟨by rfl, ?hyR1x14⟩) (by exact hS) ?rsR1x14
  case hyR1x14 => (intro uz hSw; (try dsimp only at hSw); have kp := HB1.out.q hSw; have kq := HB2.out.q hSw; have p0 := kp.cell 0 rfl; have q0 := kq.cell 0 rfl; have p1 := kp.cell 1 rfl; have q1 := kq.cell 1 rfl; have p2 := kp.cell 2 rfl; have q2 := kq.cell 2 rfl; have p3 := kp.cell 3 rfl; have q3 := kq.cell 3 rfl; have p4 := kp.cell 4 rfl; have q4 := kq.cell 4 rfl; have p5 := kp.cell 5 rfl; have q5 := kq.cell 5 rfl; have p6 := kp.cell 6 rfl; have q6 := kq.cell 6 rfl; have p7 := kp.cell 7 rfl; have q7 := kq.cell 7 rfl; have p8 := kp.cell 8 rfl; have q8 := kq.cell 8 rfl; clear kp kq; go_simp; try with_reducible rfl)
  try simp only [Act.put, List.setIfInBounds_toArray, List.set_cons_zero, List.set_cons_succ]
  refine wpAnyH_take (i := 15) (v := ?vR1x15) rfl (by kernel_rfl) (by kernel_rfl) (by kernel_rfl) (fun _ _ _ h => h) (Or.inl ⟨by rfl, ?hyR1x15⟩) (by exact hS) ?rsR1x15
  case hyR1x15 => (intro uz hSw; (try dsimp only at hSw); go_simp; try with_reducible rfl)
  try simp only [Act.put, List.setIfInBounds_toArray, List.set_cons_zero, List.set_cons_succ]
  refine wpAnyH_take (i := 16) (v := ?vR1x16) rfl (by kernel_rfl) (by kernel_rfl) (by kernel_rfl) (fun _ _ _ h => h) (Or.inl ⟨by rfl, ?hyR1x16⟩) (by exact hS) ?rsR1x16
  case hyR1x16 => (intro uz hSw; (try dsimp only at hSw); have kp := HB1.out.q hSw; have kq := HB2.out.q hSw; have p0 := kp.cell 0 rfl; have q0 := kq.cell 0 rfl; have p1 := kp.cell 1 rfl; have q1 := kq.cell 1 rfl; have p2 := kp.cell 2 rfl; have q2 := kq.cell 2 rfl; have p3 := kp.cell 3 rfl; have q3 := kq.cell 3 rfl; have p4 := kp.cell 4 rfl; have q4 := kq.cell 4 rfl; have p5 := kp.cell 5 rfl; have q5 := kq.cell 5 rfl; have p6 := kp.cell 6 rfl; have q6 := kq.cell 6 rfl; have p7 := kp.cell 7 rfl; have q7 := kq.cell 7 rfl; have p8 := kp.cell 8 rfl; have q8 := kq.cell 8 rfl; clear kp kq; go_simp; try with_reducible rfl)
  try simp only [Act.put, List.setIfInBounds_toArray, List.set_cons_zero, List.set_cons_succ]
  refine wpAnyH_ready (rs := [14]) (by kernel_rfl) (by simp) ?_
  refine (AllReadyH.cons rfl (fun K hK => ?_) AllReadyH.nil)
  go_simp
  refine (HC1.out _ hS).mono ?_
  rintro e yR1x17 ⟨rfl, hq⟩
  try (go_wp2_with fail)
  have hS2 := Q.trans hS hq
  refine hK.out _ _ (by exact hS2) (fun hHeld => ?_)
  clear hK K hHeld hS hq
  have hS := hS2
  clear hS2
  try simp only [Act.put, List.setIfInBounds_toArray, List.set_cons_zero, List.set_cons_succ]
  refine wpAnyH_ready (rs := [17]) (by kernel_rfl) (by simp) ?_
  refine (AllReadyH.cons rfl (fun K hK => ?_) AllReadyH.nil)
  go_simp
  refine (HC2.out _ hS).mono ?_
  rintro e yR1x18 ⟨rfl, hq⟩
  try (go_wp2_with fail)
  have hS2 := Q.trans hS hq
  refine hK.out _ _ (by exact hS2) (fun hHeld => ?_)
  clear hK K hHeld hS hq
  have hS := hS2
  clear hS2
  try simp only [Act.put, List.setIfInBounds_toArray, List.set_cons_zero, List.set_cons_succ]
  refine wpAnyH_take (i := 18) (v := ?vR1x19) rfl (by kernel_rfl) (by kernel_rfl) (by kernel_rfl) (fun _ _ _ h => h) (Or.inl ⟨by rfl, ?hyR1x19⟩) (by exact hS) ?rsR1x19
  case hyR1x19 => (intro uz hSw; (try dsimp only at hSw); go_simp; try with_reducible rfl)
  try simp only [Act.put, List.setIfInBounds_toArray, List.set_cons_zero, List.set_cons_succ]
  refine wpAnyH_take (i := 19) (v := ?vR1x20) rfl (by kernel_rfl) (by kernel_rfl) (by kernel_rfl) (fun _ _ _ h => h) (Or.inl ⟨by rfl, ?hyR1x20⟩) (by exact hS) ?rsR1x20
  case hyR1x20 => (intro uz hSw; (try dsimp only at hSw); go_simp; try with_reducible rfl)
  try simp only [Act.put, List.setIfInBounds_toArray, List.set_cons_zero, List.set_cons_succ]
  refine wpAnyH_take (i := 20) (v := ?vR1x21) rfl (by kernel_rfl) (by kernel_rfl) (by kernel_rfl) (fun _ _ _ h => h) (Or.inl ⟨by rfl, ?hyR1x21⟩) (by exact hS) ?rsR1x21
  case hyR1x21 => (intro uz hSw; (try dsimp only at hSw); go_simp; try with_reducible rfl)
  try simp only [Act.put, List.setIfInBounds_toArray, List.set_cons_zero, List.set_cons_succ]
  refine wpAnyH_take (i := 21) (v := ?vR1x22) rfl (by kernel_rfl) (by kernel_rfl) (by kernel_rfl) (fun _ _ _ h => h) (Or.inl ⟨by rfl, ?hyR1x22⟩) (by exact hS) ?rsR1x22
  case hyR1x22 => (intro uz hSw; (try dsimp only at hSw); go_simp; try with_reducible rfl)
  try simp only [Act.put, List.setIfInBounds_toArray, List.set_cons_zero, List.set_cons_succ]
  refine wpAnyH_ready (rs := [22]) (by kernel_rfl) (by simp) ?_
  refine (AllReadyH.cons rfl (fun K hK => ?_) AllReadyH.nil)
  go_simp
  refine (lives_any _).mono ?_
  rintro e yR1x23 ⟨rfl, hq⟩
  try (go_wp2_with fail)
  have hS2 := Q.trans hS hq
  refine hK.out _ _ (by exact hS2) (fun hHeld => ?_)
  clear hK K hHeld hS hq
  have hS := hS2
  clear hS2
  try simp only [Act.put, List.setIfInBounds_toArray, List.set_cons_zero, List.set_cons_succ]
  refine wpAnyH_take (i := 23) (v := ?vR1x24) rfl (by kernel_rfl) (by kernel_rfl) (by kernel_rfl) (fun _ _ _ h => h) (Or.inl ⟨by rfl, ?hyR1x24⟩) (by exact hS) ?rsR1x24
  case hyR1x24 => (intro uz hSw; (try dsimp only at hSw); go_simp; try with_reducible rfl)
  try simp only [Act.put, List.setIfInBounds_toArray, List.set_cons_zero, List.set_cons_succ]
  refine wpAnyH_take (i := 24) (v := ?vR1x25) rfl (by kernel_rfl) (by kernel_rfl) (by kernel_rfl) (fun _ _ _ h => h) (Or.inl ⟨by rfl, ?hyR1x25⟩) (by exact hS) ?rsR1x25
  case hyR1x25 => (intro uz hSw; (try dsimp only at hSw); go_simp; try with_reducible rfl)
  try simp only [Act.put, List.setIfInBounds_toArray, List.set_cons_zero, List.set_cons_succ]
  refine wpAnyH_done (by kernel_rfl) ?_ _
  go_wp2_with fail
  rename_i dx1 d1 hx1 dx2 d2 hx2
  have hy1 : (some 2 : Option Tmp) = some d1 := hx1
  have hy2 : (some 47 : Option Tmp) = some d2 := hx2
  obtain rfl := Option.some.inj hy1
  obtain rfl := Option.some.inj hy2
  clear hx1 hx2 hy1 hy2
  go_ret
  exact ⟨rfl, HQ2.out.trans hS⟩
end Pg
end Go.Proofs.YtjloibgjnnknnaaDoor
