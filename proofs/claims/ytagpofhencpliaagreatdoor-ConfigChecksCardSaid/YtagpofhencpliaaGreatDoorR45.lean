/- Configurations that Good makes: what holds of them: the mathematics. (and more) -/
import Derived.Test.YtagpofhencpliaaGreatDoorR00
import Derived.Test.YtagpofhencpliaaGreatDoorR36
import Derived.Test.YtagpofhencpliaaGreatDoorR21
import Derived.Test.YtagpofhencpliaaGreatDoorR22
import Derived.Test.YtagpofhencpliaaGreatDoorR08
import Derived.Test.YtagpofhencpliaaGreatDoorR02
import Derived.Test.YtagpofhencpliaaGreatDoorR06
import Derived.Test.YtagpofhencpliaaGreatDoorR05
import Derived.Test.YtagpofhencpliaaGreatDoorR04
import Derived.Test.YtagpofhencpliaaGreatDoorR10
import Derived.Test.YtagpofhencpliaaGreatDoorR13
import Derived.Test.YtagpofhencpliaaGreatDoorR03
import Derived.Test.YtagpofhencpliaaGreatDoorRows
import Derived.Test.YtagpofhencpliaaGreatDoorR28
import Derived.Test.YtagpofhencpliaaGreatDoorR29
import Derived.Test.YtagpofhencpliaaGreatDoorR14
import Derived.Test.YtagpofhencpliaaGreatDoorR15
import Derived.Test.YtagpofhencpliaaGreatDoorR34
import Derived.Test.YtagpofhencpliaaGreatDoorR43
import Derived.Test.YtagpofhencpliaaGreatDoorR35
import Derived.Test.YtagpofhencpliaaGreatDoorR44
import Derived.Deep.Cut
set_option linter.unusedVariables false
set_option linter.unusedSimpArgs false
namespace Go.Proofs.YtagpofhencpliaaGreatDoor
open Go.RowKit
namespace Km
theorem cmp_tr (a b : De) : cmp (tr a) (tr b) = cmp a b := by
  have ha : a.s ≤ max a.s b.s := by omega
  have hb : b.s ≤ max a.s b.s := by omega
  rw [cmp_z (tr a) (tr b) _ (Nat.le_trans (tr_s a) ha) (Nat.le_trans (tr_s b) hb), cmp_z a b _ ha hb, zv_tr _ _ ha, zv_tr _ _ hb]
structure Gok (ga gb : Bool) (A B : List Int) (d : Int) (n0 n1 n2 n3 n4 n5 n6 : Nat) : Prop where
  a : Dm.okD A
  b : Dm.okD B
  al : A.length ≤ n0 + n2
  bl : B.length ≤ n0 + n2
  d : 1 ≤ d ∧ d ≤ 9
  m0 : 1 ≤ n0 ∧ n0 ≤ 8
  m1 : n1 ≤ 5
  m2 : n2 ≤ n1
  m3 : n3 ≤ n0
  m4 : n4 ≤ n2
  m5 : n5 ≤ 6
  m6 : 1 ≤ n6 ∧ n6 ≤ 6
  c : ¬ 0 < Dm.cmpD ga (Dm.num A) n2 gb (Dm.num B) n2
theorem nums (i0 i1 i2 i3 i4 i5 i6 : Int) : ∃ n0 n1 n2 n3 n4 n5 n6 : Nat, 1 + Um.around i0 8 = (n0 : Int) ∧ Um.around i1 6 = (n1 : Int) ∧ Um.around i2 ((n1 : Int) + 1) = (n2 : Int) ∧ Um.around i3 ((n0 : Int) + 1) = (n3 : Int) ∧ Um.around i4 ((n2 : Int) + 1) = (n4 : Int) ∧ Um.around i5 7 = (n5 : Int) ∧ 1 + Um.around i6 6 = (n6 : Int) := by
  have r0 := Um.around_bd i0 8 (by omega)
  have r1 := Um.around_bd i1 6 (by omega)
  have r5 := Um.around_bd i5 7 (by omega)
  have r6 := Um.around_bd i6 6 (by omega)
  obtain ⟨n0, h0⟩ : ∃ n : Nat, 1 + Um.around i0 8 = (n : Int) := ⟨(1 + Um.around i0 8).toNat, by omega⟩
  obtain ⟨n1, h1⟩ : ∃ n : Nat, Um.around i1 6 = (n : Int) := ⟨(Um.around i1 6).toNat, by omega⟩
  have r2 := Um.around_bd i2 ((n1 : Int) + 1) (by omega)
  have r3 := Um.around_bd i3 ((n0 : Int) + 1) (by omega)
  obtain ⟨n2, h2⟩ : ∃ n : Nat, Um.around i2 ((n1 : Int) + 1) = (n : Int) := ⟨(Um.around i2 ((n1 : Int) + 1)).toNat, by omega⟩
  have r4 := Um.around_bd i4 ((n2 : Int) + 1) (by omega)
  exact ⟨n0, n1, n2, (Um.around i3 ((n0 : Int) + 1)).toNat, (Um.around i4 ((n2 : Int) + 1)).toNat, (Um.around i5 7).toNat, (1 + Um.around i6 6).toNat, h0, h1, h2, by omega, by omega, by omega, by omega⟩
theorem stp_bd (sm : Bool) (S : List Int) : 1 ≤ stp sm S ∧ stp sm S ≤ 9 := by
  have h := Um.around_bd (S.getD 0 0) 9 (by omega)
  unfold stp
  by_cases h1 : sm = true
  · rw [if_pos h1]; omega
  · rw [if_neg h1]
    by_cases h2 : S = []
    · rw [if_pos h2]; omega
    · rw [if_neg h2]; omega
theorem gok_of (gl gh sm : Bool) (L H S : List Int) (i0 i1 i2 i3 i4 i5 i6 : Int) (n0 n1 n2 n3 n4 n5 n6 : Nat) (e0 : 1 + Um.around i0 8 = (n0 : Int)) (e1 : Um.around i1 6 = (n1 : Int)) (e2 : Um.around i2 ((n1 : Int) + 1) = (n2 : Int)) (e3 : Um.around i3 ((n0 : Int) + 1) = (n3 : Int)) (e4 : Um.around i4 ((n2 : Int) + 1) = (n4 : Int)) (e5 : Um.around i5 7 = (n5 : Int)) (e6 : 1 + Um.around i6 6 = (n6 : Int))
    (d : Int) (hd : d = stp sm S) (ga gb : Bool) (A B : List Int)
    (hAB : (ga, A, gb, B) = if 0 < Dm.cmpD gl (Dm.num (Dm.gdL L (n0 + n2))) n2 gh (Dm.num (Dm.gdL H (n0 + n2))) n2 then (gh, Dm.gdL H (n0 + n2), gl, Dm.gdL L (n0 + n2)) else (gl, Dm.gdL L (n0 + n2), gh, Dm.gdL H (n0 + n2))) : Gok ga gb A B d n0 n1 n2 n3 n4 n5 n6 := by
  have r0 := Um.around_bd i0 8 (by omega)
  have r1 := Um.around_bd i1 6 (by omega)
  have r2 := Um.around_bd i2 ((n1 : Int) + 1) (by omega)
  have r3 := Um.around_bd i3 ((n0 : Int) + 1) (by omega)
  have r4 := Um.around_bd i4 ((n2 : Int) + 1) (by omega)
  have r5 := Um.around_bd i5 7 (by omega)
  have r6 := Um.around_bd i6 6 (by omega)
  have xl := Dm.gdL_len L (n0 + n2)
  have yl := Dm.gdL_len H (n0 + n2)
  have xk := Dm.gdL_ok L (n0 + n2)
  have yk := Dm.gdL_ok H (n0 + n2)
  have hb := stp_bd sm S
  rw [← hd] at hb
  generalize Dm.gdL L (n0 + n2) = X at *
  generalize Dm.gdL H (n0 + n2) = Y at *
  by_cases h : 0 < Dm.cmpD gl (Dm.num X) n2 gh (Dm.num Y) n2
  · rw [if_pos h] at hAB
    injection hAB with h1 hAB
    injection hAB with h2 hAB
    injection hAB with h3 h4
    subst h1 h2 h3 h4
    refine ⟨yk, xk, by omega, by omega, hb, by omega, by omega, by omega, by omega, by omega, by omega, by omega, ?_⟩
    rw [Ep.cmpD_anti]
    omega
  · rw [if_neg h] at hAB
    injection hAB with h1 hAB
    injection hAB with h2 hAB
    injection hAB with h3 h4
    subst h1 h2 h3 h4
    exact ⟨xk, yk, by omega, by omega, hb, by omega, by omega, by omega, by omega, by omega, by omega, by omega, h⟩
def dLo (g : Bool) (A : List Int) (n : Nat) : De := tr ⟨g, Dm.num A, n⟩
theorem dLo_s (g : Bool) (A : List Int) (n : Nat) : (dLo g A n).s ≤ n := tr_s _
section
variable {ga gb : Bool} {A B : List Int} {d : Int} {n0 n1 n2 n3 n4 n5 n6 : Nat}
theorem Gok.le (h : Gok ga gb A B d n0 n1 n2 n3 n4 n5 n6) : zv (dLo ga A n2) n2 ≤ zv (dLo gb B n2) n2 := by
  refine zv_le _ _ _ (dLo_s _ _ _) (dLo_s _ _ _) ?_
  unfold dLo
  rw [cmp_tr]
  exact h.c
theorem Gok.pos (h : Gok ga gb A B d n0 n1 n2 n3 n4 n5 n6) : 0 < cmp (dLo false [d] n2) ⟨false, 0, 0⟩ := by
  have e : (⟨false, 0, 0⟩ : De) = tr ⟨false, 0, 0⟩ := by unfold tr; simp [Dm.st_zero, Dm.cg]
  rw [e]
  unfold dLo
  rw [cmp_tr, cmp_z _ _ n2 (Nat.le_refl _) (Nat.zero_le _)]
  refine (Dm.cmpZ_pos _ _).2 ?_
  have hd := h.d
  have hn : Dm.num [d] = d.toNat := by unfold Dm.num; simp [Dm.num]
  unfold zv Ep.sv
  simp only [hn]
  simp
  omega
end
end Km
end Go.Proofs.YtagpofhencpliaaGreatDoor
namespace Go.Proofs.YtagpofhencpliaaGreatDoor
open Go.RowKit
namespace Kl
theorem parts (c : Prop) [Decidable c] (g h : Bool) (X Y : List Int) : ∃ (ga gb : Bool) (A B : List Int), (ga, A, gb, B) = if c then (h, Y, g, X) else (g, X, h, Y) := by
  split
  · exact ⟨_, _, _, _, rfl⟩
  · exact ⟨_, _, _, _, rfl⟩
theorem start (gl gh sm : Bool) (vl vh vs : Value) (sl sh : Int) (L H S : List Int) (i0 i1 i2 i3 i4 i5 i6 : Int) (w : World) (hvl : Lst w vl L) (hvh : Lst w vh H) (hvs : Lst w vs S)
    (bl : ∀ n ∈ L, -9223372036854775808 ≤ n ∧ n ≤ 9223372036854775807) (bh : ∀ n ∈ H, -9223372036854775808 ≤ n ∧ n ≤ 9223372036854775807) (bs : ∀ n ∈ S, -9223372036854775808 ≤ n ∧ n ≤ 9223372036854775807)
    (hsl : -9223372036854775808 ≤ sl ∧ sl ≤ 9223372036854775807) (hsh : -9223372036854775808 ≤ sh ∧ sh ≤ 9223372036854775807)
    (hi0 : -9223372036854775808 ≤ i0 ∧ i0 ≤ 9223372036854775807) (hi1 : -9223372036854775808 ≤ i1 ∧ i1 ≤ 9223372036854775807) (hi2 : -9223372036854775808 ≤ i2 ∧ i2 ≤ 9223372036854775807) (hi3 : -9223372036854775808 ≤ i3 ∧ i3 ≤ 9223372036854775807) (hi4 : -9223372036854775808 ≤ i4 ∧ i4 ≤ 9223372036854775807) (hi5 : -9223372036854775808 ≤ i5 ∧ i5 ≤ 9223372036854775807) (hi6 : -9223372036854775808 ≤ i6 ∧ i6 ≤ 9223372036854775807) :
    ∃ (ga gb : Bool) (A B : List Int) (d : Int) (n0 n1 n2 n3 n4 n5 n6 : Nat), Km.Gok ga gb A B d n0 n1 n2 n3 n4 n5 n6 ∧ ∀ u, Q w u → Calls Tryz.prog 5 #[.agg #[.bool gl, vl, .int .i64 sl, .bool gh, vh, .int .i64 sh, vs, .bool sm, .int .i64 i0, .int .i64 i1, .int .i64 i2, .int .i64 i3, .int .i64 i4, .int .i64 i5, .int .i64 i6]] u fun e w' => e = .returned (.agg #[.string (Dm.prt ga A n2), .string (Dm.prt gb B n2), .string (Dm.prt false [d] n2), .int .i64 n0, .int .i64 n1, .int .i64 n2, .int .i64 n3, .int .i64 n4, .int .i64 n5, .int .i64 n6]) ∧ Q u w' := by
  obtain ⟨n0, n1, n2, n3, n4, n5, n6, e0, e1, e2, e3, e4, e5, e6⟩ := Km.nums i0 i1 i2 i3 i4 i5 i6
  obtain ⟨ga, gb, A, B, hAB⟩ := parts (0 < Dm.cmpD gl (Dm.num (Dm.gdL L (n0 + n2))) n2 gh (Dm.num (Dm.gdL H (n0 + n2))) n2) gl gh (Dm.gdL L (n0 + n2)) (Dm.gdL H (n0 + n2))
  exact ⟨ga, gb, A, B, Km.stp sm S, n0, n1, n2, n3, n4, n5, n6, Km.gok_of gl gh sm L H S i0 i1 i2 i3 i4 i5 i6 n0 n1 n2 n3 n4 n5 n6 e0 e1 e2 e3 e4 e5 e6 _ rfl ga gb A B hAB,
    fun u q => Kr.good_any gl gh sm vl vh vs sl sh L H S i0 i1 i2 i3 i4 i5 i6 u (hvl.q q) (hvh.q q) (hvs.q q) bl bh bs hsl hsh hi0 hi1 hi2 hi3 hi4 hi5 hi6 n0 n1 n2 n3 n4 n5 n6 e0 e1 e2 e3 e4 e5 e6 _ rfl ga gb A B hAB⟩
end Kl
end Go.Proofs.YtagpofhencpliaaGreatDoor
namespace Go.Proofs.YtagpofhencpliaaGreatDoor
open Go.RowKit
namespace Kl
open Er (dv LF)
open Kr (rul)
theorem as_q (g : Bool) (a : Option Addr) (n c : Nat) (s : Int) (u : World) : Calls Tryz.prog 33 #[.agg #[.bool g, .slice a n c, .int .i64 s]] u fun e w' => e = .returned (.agg #[.bool g, .slice a n c, .int .i64 s]) ∧ Q u w' := by
  go_enter Tryz.func33, Tryz.ntmps33
  go_wp2_with fail
  refine Er.ret_dv rfl rfl (heap_alloc2_new _ _ _) rfl ⟨rfl, ((Q.refl u).alloc _).alloc _⟩
theorem infoCC : (Tryz.prog.info? 45).map (·.size) = some 10 := by kernel_rfl
theorem of_q (t0 t1 t2 : ByteArray) (i0 i1 i2 i3 i4 i5 i6 : Int) (u : World) : Calls Tryz.prog 9 #[.agg #[.string t0, .string t1, .string t2, .int .i64 i0, .int .i64 i1, .int .i64 i2, .int .i64 i3, .int .i64 i4, .int .i64 i5, .int .i64 i6]] u fun e w' => e = .returned (.agg #[.string t0, .string t1, .string t2, .int .i64 i0, .int .i64 i1, .int .i64 i2, .int .i64 i3, .int .i64 i4, .int .i64 i5, .int .i64 i6]) ∧ Q u w' := by
  have hQ := (((Q.refl u).alloc (.cells #[.string t0, .string t1, .string t2, .int .i64 i0, .int .i64 i1, .int .i64 i2, .int .i64 i3, .int .i64 i4, .int .i64 i5, .int .i64 i6] 25)).alloc (.cells #[.string t0, .string t1, .string t2, .int .i64 i0, .int .i64 i1, .int .i64 i2, .int .i64 i3, .int .i64 i4, .int .i64 i5, .int .i64 i6] 45))
  have hb : Bk ((u.alloc (.cells #[.string t0, .string t1, .string t2, .int .i64 i0, .int .i64 i1, .int .i64 i2, .int .i64 i3, .int .i64 i4, .int .i64 i5, .int .i64 i6] 25)).alloc (.cells #[.string t0, .string t1, .string t2, .int .i64 i0, .int .i64 i1, .int .i64 i2, .int .i64 i3, .int .i64 i4, .int .i64 i5, .int .i64 i6] 45)) (u.heap.size + 1) 45 [.string t0, .string t1, .string t2, .int .i64 i0, .int .i64 i1, .int .i64 i2, .int .i64 i3, .int .i64 i4, .int .i64 i5, .int .i64 i6] := by
    rw [show u.heap.size + 1 = (u.alloc (.cells #[.string t0, .string t1, .string t2, .int .i64 i0, .int .i64 i1, .int .i64 i2, .int .i64 i3, .int .i64 i4, .int .i64 i5, .int .i64 i6] 25)).heap.size by simp]
    exact Bk.new _ _ _
  have HQ := Lib.hid hQ
  have HB := Lib.hid hb
  clear hQ hb
  go_enter Tryz.func9, Tryz.ntmps9
  go_wp2_with fail
  exact ret_bk (l := [.string t0, .string t1, .string t2, .int .i64 i0, .int .i64 i1, .int .i64 i2, .int .i64 i3, .int .i64 i4, .int .i64 i5, .int .i64 i6]) rfl Tryz.underlying45 (by exact infoCC) rfl HB.out rfl ⟨rfl, HQ.out⟩
theorem p_val (lo hi st : Km.De) (sg g : Bool) (a1 a2 a3 a : Option Addr) (k1 k2 k3 c1 c2 c3 c x : Nat) (s n m : Nat) (i0 i1 i3 i4 i6 : Int) (X : List Int) (w : World) (h1 : Lst w (.slice a1 k1 c1) (Dm.dg lo.m)) (h2 : Lst w (.slice a2 k2 c2) (Dm.dg hi.m)) (hv : Lst w (.slice a x c) X)
    (hl1 : (Dm.dg lo.m).length < 10000) (hl2 : (Dm.dg hi.m).length < 10000) (hl : X.length < 1900) (hd : Dm.okD X) (hs1 : lo.s ≤ 1000) (hs2 : hi.s ≤ 1000) (hs : s ≤ 1000) (hn : n ≤ 1000) (hm : m ≤ 6) (hk : ¬ 0 < Km.cmp lo hi) (V : Km.De) (hV : V = Km.val lo hi n m ⟨g, Dm.num X, s⟩) (vl : Nat) (hvl : (Dm.dg V.m).length = vl) :
    Calls Tryz.prog 35 #[.agg #[.bool lo.g, .slice a1 k1 c1, .int .i64 (lo.s : Nat), .bool hi.g, .slice a2 k2 c2, .int .i64 (hi.s : Nat), .bool st.g, .slice a3 k3 c3, .int .i64 (st.s : Nat), .bool sg, .int .i64 i0, .int .i64 i1, .int .i64 n, .int .i64 i3, .int .i64 i4, .int .i64 m, .int .i64 i6], .agg #[.bool g, .slice a x c, .int .i64 s]] w fun e w' => ∃ ua uc, e = .returned (.tuple #[.agg #[.bool V.g, .slice ua vl uc, .int .i64 (V.s : Nat)], .int .i64 0]) ∧ LF w' w.heap.size (.slice ua vl uc) (Dm.dg V.m) ∧ Q w w' := by
  refine (Kp.value_any lo.g hi.g st.g sg g (.slice a1 k1 c1) (.slice a2 k2 c2) (.slice a3 k3 c3) (.slice a x c) lo.s hi.s s n st.s i0 i1 i3 i4 m i6 (Dm.dg lo.m) (Dm.dg hi.m) X w h1 h2 hv hl1 hl2 hl (Dm.okD_dg _) (Dm.okD_dg _) hd hs1 hs2 hs hn (by omega) (by rw [Dm.num_dg, Dm.num_dg]; exact hk) V (by rw [Dm.num_dg, Dm.num_dg]; exact hV)).mono ?_
  rintro e w' ⟨u, rfl, hu, hq⟩
  obtain ⟨ua, uc, rfl⟩ := hu.shape
  rw [hvl] at hu ⊢
  exact ⟨ua, uc, rfl, hu, hq⟩
theorem p_mov (lo hi st : Km.De) (sg g : Bool) (a1 a2 a3 a : Option Addr) (k1 k2 k3 c1 c2 c3 c x : Nat) (s n m : Nat) (i0 i1 i3 i4 i6 k : Int) (X : List Int) (w : World) (h1 : Lst w (.slice a1 k1 c1) (Dm.dg lo.m)) (h2 : Lst w (.slice a2 k2 c2) (Dm.dg hi.m)) (h3 : Lst w (.slice a3 k3 c3) (Dm.dg st.m)) (hv : Lst w (.slice a x c) X)
    (hl1 : (Dm.dg lo.m).length < 10000) (hl2 : (Dm.dg hi.m).length < 10000) (hl3 : (Dm.dg st.m).length < 400) (hl : X.length < 500) (hd : Dm.okD X) (hs1 : lo.s ≤ 1000) (hs2 : hi.s ≤ 1000) (hs3 : st.s ≤ 1000) (hs : s ≤ 1000) (hn : n ≤ 1000) (hm : m ≤ 6) (hkk : -1000 ≤ k ∧ k ≤ 1000) (hk : ¬ 0 < Km.cmp lo hi) (V : Km.De) (hV : V = Km.mov lo hi st n m ⟨g, Dm.num X, s⟩ k) (vl : Nat) (hvl : (Dm.dg V.m).length = vl) :
    Calls Tryz.prog 36 #[.agg #[.bool lo.g, .slice a1 k1 c1, .int .i64 (lo.s : Nat), .bool hi.g, .slice a2 k2 c2, .int .i64 (hi.s : Nat), .bool st.g, .slice a3 k3 c3, .int .i64 (st.s : Nat), .bool sg, .int .i64 i0, .int .i64 i1, .int .i64 n, .int .i64 i3, .int .i64 i4, .int .i64 m, .int .i64 i6], .agg #[.bool g, .slice a x c, .int .i64 s], .int .i64 k] w fun e w' => ∃ ua uc, e = .returned (.tuple #[.agg #[.bool V.g, .slice ua vl uc, .int .i64 (V.s : Nat)], .int .i64 0]) ∧ LF w' w.heap.size (.slice ua vl uc) (Dm.dg V.m) ∧ Q w w' := by
  refine (Kp.move_any lo.g hi.g st.g sg g (.slice a1 k1 c1) (.slice a2 k2 c2) (.slice a3 k3 c3) (.slice a x c) lo.s hi.s st.s s n i0 i1 i3 i4 m i6 k (Dm.dg lo.m) (Dm.dg hi.m) (Dm.dg st.m) X w h1 h2 h3 hv hl1 hl2 hl3 hl (Dm.okD_dg _) (Dm.okD_dg _) (Dm.okD_dg _) hd hs1 hs2 hs3 hs hn (by omega) hkk (by rw [Dm.num_dg, Dm.num_dg]; exact hk) V (by rw [Dm.num_dg, Dm.num_dg, Dm.num_dg]; exact hV)).mono ?_
  rintro e w' ⟨u, rfl, hu, hq⟩
  obtain ⟨ua, uc, rfl⟩ := hu.shape
  rw [hvl] at hu ⊢
  exact ⟨ua, uc, rfl, hu, hq⟩
end Kl
end Go.Proofs.YtagpofhencpliaaGreatDoor
