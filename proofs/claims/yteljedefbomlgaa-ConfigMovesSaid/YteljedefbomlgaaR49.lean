/- Configurations that Good makes: what holds of them: the mathematics. (and more) -/
import Derived.Test.YteljedefbomlgaaR00
import Derived.Test.YteljedefbomlgaaR42
import Derived.Test.YteljedefbomlgaaR26
import Derived.Test.YteljedefbomlgaaR27
import Derived.Test.YteljedefbomlgaaR06
import Derived.Test.YteljedefbomlgaaR01
import Derived.Test.YteljedefbomlgaaR23
import Derived.Test.YteljedefbomlgaaR03
import Derived.Test.YteljedefbomlgaaR02
import Derived.Test.YteljedefbomlgaaR08
import Derived.Test.YteljedefbomlgaaR10
import Derived.Test.YteljedefbomlgaaRows
import Derived.Test.YteljedefbomlgaaR40
import Derived.Test.YteljedefbomlgaaR37
import Derived.Test.YteljedefbomlgaaR39
import Derived.Test.YteljedefbomlgaaR12
import Derived.Test.YteljedefbomlgaaR43
import Derived.Test.YteljedefbomlgaaR41
import Derived.Test.YteljedefbomlgaaR46
import Derived.Test.YteljedefbomlgaaR19
import Derived.Deep.Cut
import Derived.KernelRfl
set_option linter.unusedVariables false
set_option linter.unusedSimpArgs false
namespace Go.Proofs.Yteljedefbomlgaa
open Go.RowKit
namespace Km
theorem cmp_tr (a b : De) : cmp (tr a) (tr b) = cmp a b := by
  have ha : a.s ≤ max a.s b.s := by omega
  have hb : b.s ≤ max a.s b.s := by omega
  rw [cmp_z (tr a) (tr b) _ (Nat.le_trans (tr_s a) ha) (Nat.le_trans (tr_s b) hb), cmp_z a b _ ha hb, zv_tr _ _ ha, zv_tr _ _ hb]
structure Gok (ga gb : Bool) (A B : List Int) (d : Int) (n0 n1 n2 n3 n4 n5 n6 : Nat) : Prop where
  a : Dm.okD A
  b : Dm.okD B
  al : A.length ≤ n0 + n2
  bl : B.length ≤ n0 + n2
  d : 1 ≤ d ∧ d ≤ 9
  m0 : 1 ≤ n0 ∧ n0 ≤ 8
  m1 : n1 ≤ 5
  m2 : n2 ≤ n1
  m3 : n3 ≤ n0
  m4 : n4 ≤ n2
  m5 : n5 ≤ 6
  m6 : 1 ≤ n6 ∧ n6 ≤ 6
  c : ¬ 0 < Dm.cmpD ga (Dm.num A) n2 gb (Dm.num B) n2
theorem nums (i0 i1 i2 i3 i4 i5 i6 : Int) : ∃ n0 n1 n2 n3 n4 n5 n6 : Nat, 1 + Um.around i0 8 = (n0 : Int) ∧ Um.around i1 6 = (n1 : Int) ∧ Um.around i2 ((n1 : Int) + 1) = (n2 : Int) ∧ Um.around i3 ((n0 : Int) + 1) = (n3 : Int) ∧ Um.around i4 ((n2 : Int) + 1) = (n4 : Int) ∧ Um.around i5 7 = (n5 : Int) ∧ 1 + Um.around i6 6 = (n6 : Int) := by
  have r0 := Um.around_bd i0 8 (by omega)
  have r1 := Um.around_bd i1 6 (by omega)
  have r5 := Um.around_bd i5 7 (by omega)
  have r6 := Um.around_bd i6 6 (by omega)
  obtain ⟨n0, h0⟩ : ∃ n : Nat, 1 + Um.around i0 8 = (n : Int) := ⟨(1 + Um.around i0 8).toNat, by omega⟩
  obtain ⟨n1, h1⟩ : ∃ n : Nat, Um.around i1 6 = (n : Int) := ⟨(Um.around i1 6).toNat, by omega⟩
  have r2 := Um.around_bd i2 ((n1 : Int) + 1) (by omega)
  have r3 := Um.around_bd i3 ((n0 : Int) + 1) (by omega)
  obtain ⟨n2, h2⟩ : ∃ n : Nat, Um.around i2 ((n1 : Int) + 1) = (n : Int) := ⟨(Um.around i2 ((n1 : Int) + 1)).toNat, by omega⟩
  have r4 := Um.around_bd i4 ((n2 : Int) + 1) (by omega)
  exact ⟨n0, n1, n2, (Um.around i3 ((n0 : Int) + 1)).toNat, (Um.around i4 ((n2 : Int) + 1)).toNat, (Um.around i5 7).toNat, (1 + Um.around i6 6).toNat, h0, h1, h2, by omega, by omega, by omega, by omega⟩
theorem stp_bd (sm : Bool) (S : List Int) : 1 ≤ stp sm S ∧ stp sm S ≤ 9 := by
  have h := Um.around_bd (S.getD 0 0) 9 (by omega)
  unfold stp
  by_cases h1 : sm = true
  · rw [if_pos h1]; omega
  · rw [if_neg h1]
    by_cases h2 : S = []
    · rw [if_pos h2]; omega
    · rw [if_neg h2]; omega
theorem gok_of (gl gh sm : Bool) (L H S : List Int) (i0 i1 i2 i3 i4 i5 i6 : Int) (n0 n1 n2 n3 n4 n5 n6 : Nat) (e0 : 1 + Um.around i0 8 = (n0 : Int)) (e1 : Um.around i1 6 = (n1 : Int)) (e2 : Um.around i2 ((n1 : Int) + 1) = (n2 : Int)) (e3 : Um.around i3 ((n0 : Int) + 1) = (n3 : Int)) (e4 : Um.around i4 ((n2 : Int) + 1) = (n4 : Int)) (e5 : Um.around i5 7 = (n5 : Int)) (e6 : 1 + Um.around i6 6 = (n6 : Int))
    (d : Int) (hd : d = stp sm S) (ga gb : Bool) (A B : List Int)
    (hAB : (ga, A, gb, B) = if 0 < Dm.cmpD gl (Dm.num (Dm.gdL L (n0 + n2))) n2 gh (Dm.num (Dm.gdL H (n0 + n2))) n2 then (gh, Dm.gdL H (n0 + n2), gl, Dm.gdL L (n0 + n2)) else (gl, Dm.gdL L (n0 + n2), gh, Dm.gdL H (n0 + n2))) : Gok ga gb A B d n0 n1 n2 n3 n4 n5 n6 := by
  have r0 := Um.around_bd i0 8 (by omega)
  have r1 := Um.around_bd i1 6 (by omega)
  have r2 := Um.around_bd i2 ((n1 : Int) + 1) (by omega)
  have r3 := Um.around_bd i3 ((n0 : Int) + 1) (by omega)
  have r4 := Um.around_bd i4 ((n2 : Int) + 1) (by omega)
  have r5 := Um.around_bd i5 7 (by omega)
  have r6 := Um.around_bd i6 6 (by omega)
  have xl := Dm.gdL_len L (n0 + n2)
  have yl := Dm.gdL_len H (n0 + n2)
  have xk := Dm.gdL_ok L (n0 + n2)
  have yk := Dm.gdL_ok H (n0 + n2)
  have hb := stp_bd sm S
  rw [← hd] at hb
  generalize Dm.gdL L (n0 + n2) = X at *
  generalize Dm.gdL H (n0 + n2) = Y at *
  by_cases h : 0 < Dm.cmpD gl (Dm.num X) n2 gh (Dm.num Y) n2
  · rw [if_pos h] at hAB
    injection hAB with h1 hAB
    injection hAB with h2 hAB
    injection hAB with h3 h4
    subst h1 h2 h3 h4
    refine ⟨yk, xk, by omega, by omega, hb, by omega, by omega, by omega, by omega, by omega, by omega, by omega, ?_⟩
    rw [Ep.cmpD_anti]
    omega
  · rw [if_neg h] at hAB
    injection hAB with h1 hAB
    injection hAB with h2 hAB
    injection hAB with h3 h4
    subst h1 h2 h3 h4
    exact ⟨xk, yk, by omega, by omega, hb, by omega, by omega, by omega, by omega, by omega, by omega, by omega, h⟩
def dLo (g : Bool) (A : List Int) (n : Nat) : De := tr ⟨g, Dm.num A, n⟩
theorem dLo_s (g : Bool) (A : List Int) (n : Nat) : (dLo g A n).s ≤ n := tr_s _
theorem dLo_tr (g : Bool) (A : List Int) (n : Nat) : tr (dLo g A n) = dLo g A n := tr_tr _
theorem dLo_z (g : Bool) (A : List Int) (n : Nat) : zv (dLo g A n) n = Ep.sv g (Dm.num A) := by
  unfold dLo
  rw [zv_tr _ _ (Nat.le_refl n)]
  unfold zv
  simp
theorem dLo_abs (g : Bool) (A : List Int) (n k : Nat) (h : Dm.okD A) (hl : A.length ≤ k) : (zv (dLo g A n) n).natAbs < 10 ^ k := by
  rw [dLo_z]
  have h1 := Dm.num_lt A h
  have h2 : 10 ^ A.length ≤ 10 ^ k := Nat.pow_le_pow_right (by omega) hl
  unfold Ep.sv
  split <;> omega
theorem dLo_len (g : Bool) (A : List Int) (n : Nat) (h : Dm.okD A) : (Dm.dg (dLo g A n).m).length ≤ A.length := by
  have h1 : (dLo g A n).m ≤ Dm.num A := by
    have h2 := Dm.st_num (Dm.num A) n
    have h3 : 0 < 10 ^ (n - (Dm.st (Dm.num A) n).2) := Nat.pow_pos (by omega)
    calc (Dm.st (Dm.num A) n).1 = (Dm.st (Dm.num A) n).1 * 1 := by rw [Nat.mul_one]
      _ ≤ (Dm.st (Dm.num A) n).1 * 10 ^ (n - (Dm.st (Dm.num A) n).2) := Nat.mul_le_mul_left _ h3
      _ = Dm.num A := h2
  exact Nat.le_trans (Dm.dg_len_le _ _ h1) (Dm.dg_len A h)
section
variable {ga gb : Bool} {A B : List Int} {d : Int} {n0 n1 n2 n3 n4 n5 n6 : Nat}
theorem Gok.okd (h : Gok ga gb A B d n0 n1 n2 n3 n4 n5 n6) : Dm.okD [d] := fun x hx => by have := h.d; simp at hx; omega
theorem Gok.le (h : Gok ga gb A B d n0 n1 n2 n3 n4 n5 n6) : zv (dLo ga A n2) n2 ≤ zv (dLo gb B n2) n2 := by
  refine zv_le _ _ _ (dLo_s _ _ _) (dLo_s _ _ _) ?_
  unfold dLo
  rw [cmp_tr]
  exact h.c
theorem Gok.cle (h : Gok ga gb A B d n0 n1 n2 n3 n4 n5 n6) : ¬ 0 < cmp (dLo ga A n2) (dLo gb B n2) := by
  unfold dLo
  rw [cmp_tr]
  exact h.c
theorem Gok.pos (h : Gok ga gb A B d n0 n1 n2 n3 n4 n5 n6) : 0 < cmp (dLo false [d] n2) ⟨false, 0, 0⟩ := by
  have e : (⟨false, 0, 0⟩ : De) = tr ⟨false, 0, 0⟩ := by unfold tr; simp [Dm.st_zero, Dm.cg]
  rw [e]
  unfold dLo
  rw [cmp_tr, cmp_z _ _ n2 (Nat.le_refl _) (Nat.zero_le _)]
  refine (Dm.cmpZ_pos _ _).2 ?_
  have hd := h.d
  have hn : Dm.num [d] = d.toNat := by unfold Dm.num; simp [Dm.num]
  unfold zv Ep.sv
  simp only [hn]
  simp
  omega
end
end Km
end Go.Proofs.Yteljedefbomlgaa
namespace Go.Proofs.Yteljedefbomlgaa
open Go.RowKit
namespace Kl
theorem parts (c : Prop) [Decidable c] (g h : Bool) (X Y : List Int) : ∃ (ga gb : Bool) (A B : List Int), (ga, A, gb, B) = if c then (h, Y, g, X) else (g, X, h, Y) := by
  split
  · exact ⟨_, _, _, _, rfl⟩
  · exact ⟨_, _, _, _, rfl⟩
theorem start (gl gh sm : Bool) (vl vh vs : Value) (sl sh : Int) (L H S : List Int) (i0 i1 i2 i3 i4 i5 i6 : Int) (w : World) (hvl : Lst w vl L) (hvh : Lst w vh H) (hvs : Lst w vs S)
    (bl : ∀ n ∈ L, -9223372036854775808 ≤ n ∧ n ≤ 9223372036854775807) (bh : ∀ n ∈ H, -9223372036854775808 ≤ n ∧ n ≤ 9223372036854775807) (bs : ∀ n ∈ S, -9223372036854775808 ≤ n ∧ n ≤ 9223372036854775807)
    (hsl : -9223372036854775808 ≤ sl ∧ sl ≤ 9223372036854775807) (hsh : -9223372036854775808 ≤ sh ∧ sh ≤ 9223372036854775807)
    (hi0 : -9223372036854775808 ≤ i0 ∧ i0 ≤ 9223372036854775807) (hi1 : -9223372036854775808 ≤ i1 ∧ i1 ≤ 9223372036854775807) (hi2 : -9223372036854775808 ≤ i2 ∧ i2 ≤ 9223372036854775807) (hi3 : -9223372036854775808 ≤ i3 ∧ i3 ≤ 9223372036854775807) (hi4 : -9223372036854775808 ≤ i4 ∧ i4 ≤ 9223372036854775807) (hi5 : -9223372036854775808 ≤ i5 ∧ i5 ≤ 9223372036854775807) (hi6 : -9223372036854775808 ≤ i6 ∧ i6 ≤ 9223372036854775807) :
    ∃ (ga gb : Bool) (A B : List Int) (d : Int) (n0 n1 n2 n3 n4 n5 n6 : Nat), Km.Gok ga gb A B d n0 n1 n2 n3 n4 n5 n6 ∧ ∀ u, Q w u → Calls Try.prog 10 #[.agg #[.bool gl, vl, .int .i64 sl, .bool gh, vh, .int .i64 sh, vs, .bool sm, .int .i64 i0, .int .i64 i1, .int .i64 i2, .int .i64 i3, .int .i64 i4, .int .i64 i5, .int .i64 i6]] u fun e w' => e = .returned (.agg #[.string (Dm.prt ga A n2), .string (Dm.prt gb B n2), .string (Dm.prt false [d] n2), .int .i64 n0, .int .i64 n1, .int .i64 n2, .int .i64 n3, .int .i64 n4, .int .i64 n5, .int .i64 n6]) ∧ Q u w' := by
  obtain ⟨n0, n1, n2, n3, n4, n5, n6, e0, e1, e2, e3, e4, e5, e6⟩ := Km.nums i0 i1 i2 i3 i4 i5 i6
  obtain ⟨ga, gb, A, B, hAB⟩ := parts (0 < Dm.cmpD gl (Dm.num (Dm.gdL L (n0 + n2))) n2 gh (Dm.num (Dm.gdL H (n0 + n2))) n2) gl gh (Dm.gdL L (n0 + n2)) (Dm.gdL H (n0 + n2))
  exact ⟨ga, gb, A, B, Km.stp sm S, n0, n1, n2, n3, n4, n5, n6, Km.gok_of gl gh sm L H S i0 i1 i2 i3 i4 i5 i6 n0 n1 n2 n3 n4 n5 n6 e0 e1 e2 e3 e4 e5 e6 _ rfl ga gb A B hAB,
    fun u q => Kr.good_any gl gh sm vl vh vs sl sh L H S i0 i1 i2 i3 i4 i5 i6 u (hvl.q q) (hvh.q q) (hvs.q q) bl bh bs hsl hsh hi0 hi1 hi2 hi3 hi4 hi5 hi6 n0 n1 n2 n3 n4 n5 n6 e0 e1 e2 e3 e4 e5 e6 _ rfl ga gb A B hAB⟩
end Kl
end Go.Proofs.Yteljedefbomlgaa
namespace Go.Proofs.Yteljedefbomlgaa
open Go.RowKit
namespace Kr
open Er (dv LF)
theorem prt_size (g : Bool) (L : List Int) (s : Nat) : (Dm.prt g L s).size ≤ L.length + s + 3 := by
  have h1 := Dm.txt_size (Dm.wid L s)
  have h2 := Dm.wid_len L s
  have h3 : (Dm.ptx (Dm.txtB (Dm.wid L s)) s).size ≤ (Dm.txtB (Dm.wid L s)).size + 1 := by
    unfold Dm.ptx
    split
    · omega
    · rw [ByteArray.size_append, ByteArray.size_append, ByteArray.size_extract, ByteArray.size_extract]
      have : Dm.dotB.size = 1 := rfl
      omega
  have h4 : (Dm.prt g L s).size ≤ (Dm.ptx (Dm.txtB (Dm.wid L s)) s).size + 1 := by
    unfold Dm.prt
    split
    · rw [ByteArray.size_append]
      have : Dm.minB.size = 1 := rfl
      omega
    · omega
  omega
def gN (ga gb : Bool) : Nat → Bool
  | 0 => ga
  | 1 => gb
  | _ => false
def lN (A B : List Int) (d : Int) (n : Nat) : Nat → List Int
  | 0 => Dm.wid A n
  | 1 => Dm.wid B n
  | _ => Dm.wid [d] n
def RuV (B : Nat) (w' : World) (R : Value) (lo hi st : Km.De) (sg : Bool) (i0 i1 i2 i3 i4 i5 i6 : Int) : Prop :=
  ∃ a1 c1 a2 c2 a3 c3, R = rul lo.g hi.g st.g sg (.slice a1 (Dm.dg lo.m).length c1) (.slice a2 (Dm.dg hi.m).length c2) (.slice a3 (Dm.dg st.m).length c3) (lo.s : Nat) (hi.s : Nat) (st.s : Nat) i0 i1 i2 i3 i4 i5 i6 ∧
    LF w' B (.slice a1 (Dm.dg lo.m).length c1) (Dm.dg lo.m) ∧ LF w' B (.slice a2 (Dm.dg hi.m).length c2) (Dm.dg hi.m) ∧ LF w' B (.slice a3 (Dm.dg st.m).length c3) (Dm.dg st.m)
theorem tri_w {w : World} {g : Bool} {L : List Int} {s : Nat} {p : D3.E} (h : Tri w g (Dm.wid L s) s p) : ∃ a c, p = (((Km.dLo g L s).g, (Value.slice a (Dm.dg (Km.dLo g L s).m).length c), (((Km.dLo g L s).s : Nat) : Int)) : D3.E) ∧ Lst w (.slice a (Dm.dg (Km.dLo g L s).m).length c) (Dm.dg (Km.dLo g L s).m) := by
  obtain ⟨p1, p2, p3⟩ := p
  obtain ⟨h1, h2, h3, _⟩ := h
  simp only [Dm.wid_num] at h1 h2 h3
  obtain ⟨a, c, h4⟩ := h2.shape
  subst h4
  exact ⟨a, c, by rw [h1, h3]; rfl, h2⟩
theorem lf_fr {B : Nat} {w : World} {a : Option Addr} {c : Nat} {xs : List Int} {g : Bool} {s : Int} (h : Lst w (.slice a xs.length c) xs) (hf : Fr B (g, .slice a xs.length c, s)) : LF w B (.slice a xs.length c) xs := ⟨_, _, _, rfl, h, rfl, fun ad e hn => hf ad _ _ (by rw [e]) hn⟩
theorem fr0 (p : D3.E) : Fr 0 p := fun a n c _ _ => Nat.zero_le _
theorem ruv_tri {F : Nat} {w' : World} {ga gb : Bool} {A B : List Int} {d : Int} {n : Nat} {sg : Bool} {i0 i1 i2 i3 i4 i5 i6 : Int} {p0 p1 p2 : D3.E} (h0 : Tri w' ga (Dm.wid A n) n p0) (h1 : Tri w' gb (Dm.wid B n) n p1) (h2 : Tri w' false (Dm.wid [d] n) n p2) (f0 : Fr F p0) (f1 : Fr F p1) (f2 : Fr F p2) :
    RuV F w' (rul p0.1 p1.1 p2.1 sg p0.2.1 p1.2.1 p2.2.1 p0.2.2 p1.2.2 p2.2.2 i0 i1 i2 i3 i4 i5 i6) (Km.dLo ga A n) (Km.dLo gb B n) (Km.dLo false [d] n) sg i0 i1 i2 i3 i4 i5 i6 := by
  obtain ⟨a1, c1, rfl, l1⟩ := tri_w h0
  obtain ⟨a2, c2, rfl, l2⟩ := tri_w h1
  obtain ⟨a3, c3, rfl, l3⟩ := tri_w h2
  exact ⟨a1, c1, a2, c2, a3, c3, rfl, lf_fr l1 f0, lf_fr l2 f1, lf_fr l3 f2⟩
section
variable {ga gb : Bool} {A B : List Int} {d : Int} {n0 n1 n2 n3 n4 n5 n6 : Nat}
theorem gok_hm (h : Km.Gok ga gb A B d n0 n1 n2 n3 n4 n5 n6) : ∀ i, i < 3 → (tx (Dm.prt ga A n2) (Dm.prt gb B n2) (Dm.prt false [d] n2) i).size ≤ 1000000 := by
  intro i hi
  have h1 := prt_size ga A n2
  have h2 := prt_size gb B n2
  have h3 := prt_size false [d] n2
  have := h.al; have := h.bl; have := h.m0; have := h.m1; have := h.m2
  simp only [List.length_cons, List.length_nil] at h3
  rcases (show i = 0 ∨ i = 1 ∨ i = 2 by omega) with rfl | rfl | rfl
  · show (Dm.prt ga A n2).size ≤ 1000000; omega
  · show (Dm.prt gb B n2).size ≤ 1000000; omega
  · show (Dm.prt false [d] n2).size ≤ 1000000; omega
theorem gok_hp (h : Km.Gok ga gb A B d n0 n1 n2 n3 n4 n5 n6) : ∀ i, i < 3 → Dm.prs (tx (Dm.prt ga A n2) (Dm.prt gb B n2) (Dm.prt false [d] n2) i).data.toList = (gN ga gb i, lN A B d n2 i, n2, 0) := by
  intro i hi
  have := h.m1; have := h.m2
  rcases (show i = 0 ∨ i = 1 ∨ i = 2 by omega) with rfl | rfl | rfl
  · exact Dm.prs_prt ga A n2 h.a (by omega)
  · exact Dm.prs_prt gb B n2 h.b (by omega)
  · exact Dm.prs_prt false [d] n2 h.okd (by omega)
theorem gok_hl (h : Km.Gok ga gb A B d n0 n1 n2 n3 n4 n5 n6) : ∀ i, i < 3 → (lN A B d n2 i).length < 1900 := by
  intro i hi
  have := h.al; have := h.bl; have := h.m0; have := h.m1; have := h.m2
  rcases (show i = 0 ∨ i = 1 ∨ i = 2 by omega) with rfl | rfl | rfl
  · show (Dm.wid A n2).length < 1900; rw [Dm.wid_len]; omega
  · show (Dm.wid B n2).length < 1900; rw [Dm.wid_len]; omega
  · show (Dm.wid [d] n2).length < 1900; rw [Dm.wid_len]; simp only [List.length_cons, List.length_nil]; omega
theorem gok_hd (h : Km.Gok ga gb A B d n0 n1 n2 n3 n4 n5 n6) : ∀ i, i < 3 → Dm.okD (lN A B d n2 i) := by
  intro i hi
  rcases (show i = 0 ∨ i = 1 ∨ i = 2 by omega) with rfl | rfl | rfl
  · exact Dm.wid_ok _ _ h.a
  · exact Dm.wid_ok _ _ h.b
  · exact Dm.wid_ok _ _ h.okd
theorem gok_fit (h : Km.Gok ga gb A B d n0 n1 n2 n3 n4 n5 n6) : ∀ i, i < 3 → Km.fit n0 n2 (Dm.num (lN A B d n2 i)) n2 = true := by
  intro i hi
  have h1 := Dm.num_lt A h.a
  have h2 := Dm.num_lt B h.b
  have h3 := Dm.num_lt [d] h.okd
  have := h.m0
  have e1 : 10 ^ A.length ≤ 10 ^ (n0 + n2) := Nat.pow_le_pow_right (by omega) h.al
  have e2 : 10 ^ B.length ≤ 10 ^ (n0 + n2) := Nat.pow_le_pow_right (by omega) h.bl
  have e3 : 10 ^ [d].length ≤ 10 ^ (n0 + n2) := Nat.pow_le_pow_right (by omega) (by simp only [List.length_cons, List.length_nil]; omega)
  rcases (show i = 0 ∨ i = 1 ∨ i = 2 by omega) with rfl | rfl | rfl
  · show Km.fit n0 n2 (Dm.num (Dm.wid A n2)) n2 = true; rw [Dm.wid_num]; exact Km.fit_ok n0 n2 _ n2 (by omega) (Nat.le_refl _)
  · show Km.fit n0 n2 (Dm.num (Dm.wid B n2)) n2 = true; rw [Dm.wid_num]; exact Km.fit_ok n0 n2 _ n2 (by omega) (Nat.le_refl _)
  · show Km.fit n0 n2 (Dm.num (Dm.wid [d] n2)) n2 = true; rw [Dm.wid_num]; exact Km.fit_ok n0 n2 _ n2 (by omega) (Nat.le_refl _)
theorem fit_st (ic sc : Int) (M s : Nat) : Km.fit ic sc (Dm.st M s).1 (Dm.st M s).2 = Km.fit ic sc M s := by unfold Km.fit; rw [Dm.st_trim]
theorem new_good (h : Km.Gok ga gb A B d n0 n1 n2 n3 n4 n5 n6) (w : World) :
    Calls Try.prog 36 #[.agg #[.string (Dm.prt ga A n2), .string (Dm.prt gb B n2), .string (Dm.prt false [d] n2), .int .i64 n0, .int .i64 n1, .int .i64 n2, .int .i64 n3, .int .i64 n4, .int .i64 n5, .int .i64 n6]] w fun e w' => ∃ R, e = .returned (.tuple #[R, .string ByteArray.empty, .int .i64 0]) ∧ RuV (w.heap.size + 2) w' R (Km.dLo ga A n2) (Km.dLo gb B n2) (Km.dLo false [d] n2) (Km.dLo ga A n2).g n0 n1 n2 n3 n4 n5 n6 ∧ Q w w' := by
  have hm0 := h.m0; have hm1 := h.m1; have hm2 := h.m2; have hm3 := h.m3; have hm4 := h.m4; have hm5 := h.m5; have hm6 := h.m6
  refine (new_run (Dm.prt ga A n2) (Dm.prt gb B n2) (Dm.prt false [d] n2) n0 n1 n2 n3 n4 n5 n6 w (gN ga gb) (lN A B d n2) (fun _ => n2) (fun _ => 0) (by omega) (by omega) (by omega) (by omega) (by omega) (by omega) (by omega) (gok_hm h) (gok_hp h) (gok_hl h) (gok_hd h) (fun i hi => by omega) (fun i hi => by omega)).mono ?_
  rintro e w' ⟨hh, hq⟩
  have hb : ∀ k, k < 3 → bad n0 n2 0 (lN A B d n2 k) n2 = 0 := fun k hk => by
    unfold bad
    rw [if_neg (fun x => x rfl), if_pos (gok_fit h k hk)]
  rcases hh with ⟨k, hk, _, hne, _⟩ | ⟨_, hh⟩
  · exact absurd (hb k hk) hne
  rcases hh with ⟨hle, _⟩ | ⟨_, hlt, _⟩ | ⟨_, _, p0, p1, p2, t0, t1, t2, f0, f1, f2, rfl⟩
  · have hp := h.pos
    unfold Km.cmp Km.dLo Km.tr at hp
    simp only [lN, gN, Dm.wid_num] at hle
    simp only at hp
    omega
  · have hp := h.cle
    unfold Km.cmp Km.dLo Km.tr at hp
    simp only [lN, gN, Dm.wid_num] at hlt
    simp only at hp
    exact absurd hlt hp
  · have e1 : p0.1 = (Km.dLo ga A n2).g := by
      obtain ⟨a, c, rfl, _⟩ := tri_w t0
      rfl
    have hr := ruv_tri (sg := p0.1) (i0 := n0) (i1 := n1) (i2 := n2) (i3 := n3) (i4 := n4) (i5 := n5) (i6 := n6) t0 t1 t2 f0 f1 f2
    exact ⟨_, rfl, by rw [← e1]; exact hr, hq⟩
end
end Kr
namespace Kp
open Kr (RuV)
section
variable {ga gb : Bool} {A B : List Int} {d : Int} {n0 n1 n2 n3 n4 n5 n6 : Nat}
theorem ob_no {n a b : Int} (h : a ≤ n ∧ n ≤ b) : ob n a b = false := by unfold ob; rw [decide_eq_true h.1, decide_eq_true h.2]; rfl
theorem rws_no (i0 i1 i2 i3 i4 i6 : Int) (md : Bool) (r : Nat → Int) (ft : Nat → Bool) (c2 c01 : Int) (h0 : ob i0 1 64 = false) (h1 : ob i1 0 64 = false) (h2 : ob i2 0 i1 = false) (h3 : ob i3 0 i0 = false) (h4 : ob i4 0 i2 = false) (h5 : md = false) (h6 : ob i6 1 1024 = false) (hr : ∀ j, j < 3 → r j = 0) (hf : ∀ j, j < 3 → ft j = true) (hc : 0 < c2) (hc2 : ¬ 0 < c01) :
    ∀ k, k < 15 → ((rws i0 i1 i2 i3 i4 i6 md r ft c2 c01).getD k lk0).2.2 = false := by
  intro k hk
  have b0 : (r 0 != 0) = false := by rw [hr 0 (by omega)]; rfl
  have b1 : (r 1 != 0) = false := by rw [hr 1 (by omega)]; rfl
  have b2 : (r 2 != 0) = false := by rw [hr 2 (by omega)]; rfl
  have f0 : (!ft 0) = false := by rw [hf 0 (by omega)]; rfl
  have f1 : (!ft 1) = false := by rw [hf 1 (by omega)]; rfl
  have f2 : (!ft 2) = false := by rw [hf 2 (by omega)]; rfl
  have d0 : decide (c2 ≤ 0) = false := decide_eq_false (by omega)
  have d1 : decide (0 < c01) = false := decide_eq_false hc2
  rcases (show k = 0 ∨ k = 1 ∨ k = 2 ∨ k = 3 ∨ k = 4 ∨ k = 5 ∨ k = 6 ∨ k = 7 ∨ k = 8 ∨ k = 9 ∨ k = 10 ∨ k = 11 ∨ k = 12 ∨ k = 13 ∨ k = 14 by omega) with rfl | rfl | rfl | rfl | rfl | rfl | rfl | rfl | rfl | rfl | rfl | rfl | rfl | rfl | rfl
  · exact h0
  · exact h1
  · exact h2
  · exact h3
  · exact h4
  · exact h5
  · exact h6
  · exact b0
  · exact f0
  · exact b1
  · exact f1
  · exact b2
  · exact f2
  · exact d0
  · exact d1
theorem new_good (h : Km.Gok ga gb A B d n0 n1 n2 n3 n4 n5 n6) (w : World) :
    Calls Try.prog 8 #[.agg #[.string (Dm.prt ga A n2), .string (Dm.prt gb B n2), .string (Dm.prt false [d] n2), .int .i64 n0, .int .i64 n1, .int .i64 n2, .int .i64 n3, .int .i64 n4, .int .i64 n5, .int .i64 n6]] w fun e w' => ∃ R, e = .returned (.tuple #[R, .nilIface]) ∧ RuV 0 w' R (Km.dLo ga A n2) (Km.dLo gb B n2) (Km.dLo false [d] n2) (Km.dLo ga A n2).g n0 n1 n2 n3 n4 n5 n6 ∧ Q w w' := by
  have hm0 := h.m0; have hm1 := h.m1; have hm2 := h.m2; have hm3 := h.m3; have hm4 := h.m4; have hm5 := h.m5; have hm6 := h.m6
  refine (new_any (Dm.prt ga A n2) (Dm.prt gb B n2) (Dm.prt false [d] n2) n0 n1 n2 n3 n4 n5 n6 w (Kr.gN ga gb) (Kr.lN A B d n2) (fun _ => n2) (fun _ => 0) (fun _ => true) (Km.dLo ga A n2).g _ _ (by omega) (Kr.gok_hm h) (Kr.gok_hp h) (Kr.gok_hl h) (Kr.gok_hd h) (fun i hi => by omega) (fun i hi => by rw [Kr.fit_st]; exact (Kr.gok_fit h i hi).symm) rfl rfl (by simp only [Kr.lN, Kr.gN, Dm.wid_num]; rw [Km.neg_cmp]; rfl)).mono ?_
  rintro e w' ⟨hh, hq⟩
  have hno := rws_no n0 n1 n2 n3 n4 n6 (Rm.nm n5).toList.isEmpty (fun _ => 0) (fun _ => true) (Dm.cmpD (Dm.cg (Kr.gN ga gb 2) (Dm.num (Kr.lN A B d n2 2))) (Dm.st (Dm.num (Kr.lN A B d n2 2)) n2).1 (Dm.st (Dm.num (Kr.lN A B d n2 2)) n2).2 false 0 0) (Dm.cmpD (Dm.cg (Kr.gN ga gb 0) (Dm.num (Kr.lN A B d n2 0))) (Dm.st (Dm.num (Kr.lN A B d n2 0)) n2).1 (Dm.st (Dm.num (Kr.lN A B d n2 0)) n2).2 (Dm.cg (Kr.gN ga gb 1) (Dm.num (Kr.lN A B d n2 1))) (Dm.st (Dm.num (Kr.lN A B d n2 1)) n2).1 (Dm.st (Dm.num (Kr.lN A B d n2 1)) n2).2)
    (ob_no (by omega)) (ob_no (by omega)) (ob_no (by omega)) (ob_no (by omega)) (ob_no (by omega)) (by rw [Rm.nm_in]; exact Rm.nm_ne n5 (by omega)) (ob_no (by omega)) (fun _ _ => rfl) (fun _ _ => rfl)
    (by have hp := h.pos; unfold Km.cmp Km.dLo Km.tr at hp; simp only [Kr.lN, Kr.gN, Dm.wid_num]; exact hp) (by have hp := h.cle; unfold Km.cmp Km.dLo Km.tr at hp; simp only [Kr.lN, Kr.gN, Dm.wid_num]; exact hp)
  rcases hh with ⟨k, hk, _, hf, _⟩ | ⟨_, v, hr, rfl⟩
  · rw [hno k hk] at hf
    cases hf
  · obtain ⟨p0, p1, p2, t0, t1, t2, rfl⟩ := hr
    exact ⟨_, rfl, Kr.ruv_tri t0 t1 t2 (Kr.fr0 _) (Kr.fr0 _) (Kr.fr0 _), hq⟩
end
end Kp
end Go.Proofs.Yteljedefbomlgaa
namespace Go.Proofs.Yteljedefbomlgaa
open Go.RowKit
namespace Kl
open Er (dv LF)
open Kr (rul)
def vL : Nat → List Int
  | 0 => [0]
  | 1 => [9, 9, 5]
  | _ => [0, 5]
def vS : Nat → Nat
  | 0 => 0
  | _ => 1
theorem v_tri {w : World} {L : List Int} {s : Nat} {p : D3.E} (h : Kr.Tri w false L s p) (M q n : Nat) (Z : List Int) (hs : Dm.st (Dm.num L) s = (M, q)) (hz : Dm.dg M = Z) (hn : Z.length = n) : ∃ a c, p = ((false, Value.slice a n c, ((q : Nat) : Int)) : D3.E) ∧ Lst w (.slice a n c) Z := by
  obtain ⟨p1, p2, p3⟩ := p
  obtain ⟨h1, h2, h3, _⟩ := h
  rw [hs] at h2 h3
  simp only at h1 h2 h3
  rw [hz] at h2
  obtain ⟨a, c, h4⟩ := h2.shape
  subst h4
  rw [hn] at h2
  refine ⟨a, c, ?_, h2⟩
  rw [h1, h3, hn, show Dm.cg false (Dm.num L) = false by unfold Dm.cg; split <;> rfl]
theorem live_new (u : World) : Calls Try.prog 8 #[.agg #[.string ⟨#[48]⟩, .string ⟨#[57, 57, 46, 53]⟩, .string ⟨#[48, 46, 53]⟩, .int .i64 3, .int .i64 2, .int .i64 1, .int .i64 0, .int .i64 0, .int .i64 6, .int .i64 1]] u fun e w' => ∃ a1 c1 a2 c2 a3 c3, e = .returned (.tuple #[.agg #[.bool false, .slice a1 0 c1, .int .i64 0, .bool false, .slice a2 3 c2, .int .i64 1, .bool false, .slice a3 1 c3, .int .i64 1, .bool false, .int .i64 3, .int .i64 2, .int .i64 1, .int .i64 0, .int .i64 0, .int .i64 6, .int .i64 1], .nilIface]) ∧
      Lst w' (.slice a1 0 c1) [] ∧ Lst w' (.slice a2 3 c2) [9, 9, 5] ∧ Lst w' (.slice a3 1 c3) [5] ∧ Q u w' := by
  have h3 : ∀ {p : Nat → Prop}, p 0 → p 1 → p 2 → ∀ i, i < 3 → p i := by
    intro p a b c i hi
    rcases (show i = 0 ∨ i = 1 ∨ i = 2 by omega) with rfl | rfl | rfl
    · exact a
    · exact b
    · exact c
  refine (Kp.new_any ⟨#[48]⟩ ⟨#[57, 57, 46, 53]⟩ ⟨#[48, 46, 53]⟩ 3 2 1 0 0 6 1 u (fun _ => false) vL vS (fun _ => 0) (fun _ => true) false 1 (-1) (by omega) (h3 (by decide +kernel) (by decide +kernel) (by decide +kernel)) (h3 (by decide +kernel) (by decide +kernel) (by decide +kernel)) (h3 (by decide) (by decide) (by decide)) (h3 (by intro x hx; simp [vL] at hx; omega) (by intro x hx; simp [vL] at hx; omega) (by intro x hx; simp [vL] at hx; omega)) (h3 (by decide) (by decide) (by decide)) (h3 (by decide +kernel) (by decide +kernel) (by decide +kernel)) (by decide +kernel) (by decide +kernel) (by decide +kernel)).mono ?_
  rintro e w' ⟨hh, hq⟩
  rcases hh with ⟨k, hk, _, hf, _⟩ | ⟨_, v, hr, rfl⟩
  · exfalso
    have hk15 : k < 15 := hk
    have hno : ∀ k, k < 15 → ((Kp.rws 3 2 1 0 0 1 (Rm.nm 6).toList.isEmpty (fun _ => 0) (fun _ => true) 1 (-1)).getD k Kp.lk0).2.2 = false := by
      intro k hk
      rcases (show k = 0 ∨ k = 1 ∨ k = 2 ∨ k = 3 ∨ k = 4 ∨ k = 5 ∨ k = 6 ∨ k = 7 ∨ k = 8 ∨ k = 9 ∨ k = 10 ∨ k = 11 ∨ k = 12 ∨ k = 13 ∨ k = 14 by omega) with rfl | rfl | rfl | rfl | rfl | rfl | rfl | rfl | rfl | rfl | rfl | rfl | rfl | rfl | rfl <;> decide +kernel
    rw [hno k hk15] at hf
    cases hf
  · obtain ⟨p0, p1, p2, t0, t1, t2, rfl⟩ := hr
    obtain ⟨a1, c1, rfl, l1⟩ := v_tri t0 0 0 0 [] (by decide +kernel) (by decide +kernel) rfl
    obtain ⟨a2, c2, rfl, l2⟩ := v_tri t1 995 1 3 [9, 9, 5] (by decide +kernel) (by decide +kernel) rfl
    obtain ⟨a3, c3, rfl, l3⟩ := v_tri t2 5 1 1 [5] (by decide +kernel) (by decide +kernel) rfl
    exact ⟨a1, c1, a2, c2, a3, c3, rfl, l1, l2, l3, hq⟩
def vlo : Km.De := ⟨false, 0, 0⟩
def vhi : Km.De := ⟨false, 995, 1⟩
def vst : Km.De := ⟨false, 5, 1⟩
theorem vlo_l : Dm.dg vlo.m = [] := by decide +kernel
theorem vhi_l : Dm.dg vhi.m = [9, 9, 5] := by decide +kernel
theorem vst_l : Dm.dg vst.m = [5] := by decide +kernel
theorem v_ok {L : List Int} (h : Dm.okB L = true) : Dm.okD L := (Dm.okB_iff L).1 h
theorem live_val (u : World) (a1 a2 a3 a : Option Addr) (c1 c2 c3 c : Nat) (h1 : Lst u (.slice a1 0 c1) []) (h2 : Lst u (.slice a2 3 c2) [9, 9, 5]) (hv : Lst u (.slice a 3 c) [7, 2, 5]) :
    Calls Try.prog 14 #[.agg #[.bool false, .slice a1 0 c1, .int .i64 0, .bool false, .slice a2 3 c2, .int .i64 1, .bool false, .slice a3 1 c3, .int .i64 1, .bool false, .int .i64 3, .int .i64 2, .int .i64 1, .int .i64 0, .int .i64 0, .int .i64 6, .int .i64 1], .agg #[.bool false, .slice a 3 c, .int .i64 2]] u fun e w' => ∃ ua uc, e = .returned (.tuple #[.agg #[.bool false, .slice ua 2 uc, .int .i64 1], .int .i64 0]) ∧ Lst w' (.slice ua 2 uc) [7, 2] ∧ Q u w' := by
  have h := p_val vlo vhi vst false false a1 a2 a3 a 0 3 1 c1 c2 c3 c 3 2 1 6 3 2 0 0 1 [7, 2, 5] u (by rw [vlo_l]; exact h1) (by rw [vhi_l]; exact h2) hv (by rw [vlo_l]; decide) (by rw [vhi_l]; decide) (by decide) (v_ok (by decide)) (by decide) (by decide) (by decide) (by decide) (by decide) (by decide +kernel) ⟨false, 72, 1⟩ (by kernel_rfl) 2 (by decide +kernel)
  refine h.mono ?_
  rintro e w' ⟨ua, uc, rfl, hl, hq⟩
  rw [show Dm.dg (⟨false, 72, 1⟩ : Km.De).m = [7, 2] by decide +kernel] at hl
  exact ⟨ua, uc, rfl, hl.lst, hq⟩
theorem live_mov (u : World) (a1 a2 a3 a : Option Addr) (c1 c2 c3 c : Nat) (h1 : Lst u (.slice a1 0 c1) []) (h2 : Lst u (.slice a2 3 c2) [9, 9, 5]) (h3 : Lst u (.slice a3 1 c3) [5]) (hv : Lst u (.slice a 1 c) [7]) :
    Calls Try.prog 22 #[.agg #[.bool false, .slice a1 0 c1, .int .i64 0, .bool false, .slice a2 3 c2, .int .i64 1, .bool false, .slice a3 1 c3, .int .i64 1, .bool false, .int .i64 3, .int .i64 2, .int .i64 1, .int .i64 0, .int .i64 0, .int .i64 6, .int .i64 1], .agg #[.bool false, .slice a 1 c, .int .i64 0], .int .i64 (-3)] u fun e w' => ∃ ua uc, e = .returned (.tuple #[.agg #[.bool false, .slice ua 2 uc, .int .i64 1], .int .i64 0]) ∧ Lst w' (.slice ua 2 uc) [5, 5] ∧ Q u w' := by
  have h := p_mov vlo vhi vst false false a1 a2 a3 a 0 3 1 c1 c2 c3 c 1 0 1 6 3 2 0 0 1 (-3) [7] u (by rw [vlo_l]; exact h1) (by rw [vhi_l]; exact h2) (by rw [vst_l]; exact h3) hv (by rw [vlo_l]; decide) (by rw [vhi_l]; decide) (by rw [vst_l]; decide) (by decide) (v_ok (by decide)) (by decide) (by decide) (by decide) (by decide) (by decide) (by decide) (by decide) (by decide +kernel) ⟨false, 55, 1⟩ (by kernel_rfl) 2 (by decide +kernel)
  refine h.mono ?_
  rintro e w' ⟨ua, uc, rfl, hl, hq⟩
  rw [show Dm.dg (⟨false, 55, 1⟩ : Km.De).m = [5, 5] by decide +kernel] at hl
  exact ⟨ua, uc, rfl, hl.lst, hq⟩
theorem live_p1 (u : World) (a : Option Addr) (c : Nat) (hv : Lst u (.slice a 2 c) [7, 2]) : Calls Try.prog 44 #[.agg #[.bool false, .slice a 2 c, .int .i64 1]] u fun e w' => e = .returned (.string ⟨#[55, 46, 50]⟩) ∧ Q u w' := by
  have h := Ep.print_any false _ 1 [7, 2] u hv (by decide) (v_ok (by decide)) (by decide)
  rw [show Dm.prt false [7, 2] 1 = ⟨#[55, 46, 50]⟩ by decide +kernel] at h
  exact h
theorem live_p2 (u : World) (a : Option Addr) (c : Nat) (hv : Lst u (.slice a 2 c) [5, 5]) : Calls Try.prog 44 #[.agg #[.bool false, .slice a 2 c, .int .i64 1]] u fun e w' => e = .returned (.string ⟨#[53, 46, 53]⟩) ∧ Q u w' := by
  have h := Ep.print_any false _ 1 [5, 5] u hv (by decide) (v_ok (by decide)) (by decide)
  rw [show Dm.prt false [5, 5] 1 = ⟨#[53, 46, 53]⟩ by decide +kernel] at h
  exact h
end Kl
end Go.Proofs.Yteljedefbomlgaa
