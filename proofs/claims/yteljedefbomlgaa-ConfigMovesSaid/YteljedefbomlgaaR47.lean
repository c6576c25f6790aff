/- Configurations: what moves of whatever decimal come to, the program's and the document's alike. (and more) -/
import Derived.Test.YteljedefbomlgaaR00
import Derived.Test.YteljedefbomlgaaR02
import Derived.Test.YteljedefbomlgaaR27
import Derived.Test.YteljedefbomlgaaR46
import Derived.Test.YteljedefbomlgaaR26
import Derived.Test.YteljedefbomlgaaR37
import Derived.Test.YteljedefbomlgaaR39
import Derived.Test.YteljedefbomlgaaR38
import Derived.Test.YteljedefbomlgaaR45
import Derived.Test.YteljedefbomlgaaR12
import Derived.Test.YteljedefbomlgaaR01
import Derived.Test.YteljedefbomlgaaR13
import Derived.Test.YteljedefbomlgaaR08
import Derived.Test.YteljedefbomlgaaR10
import Derived.Test.YteljedefbomlgaaR03
import Derived.Test.YteljedefbomlgaaR32
import Derived.Test.YteljedefbomlgaaR41
import Derived.Test.YteljedefbomlgaaR44
import Derived.Test.YteljedefbomlgaaRows
set_option linter.unusedVariables false
set_option linter.unusedSimpArgs false
namespace Go.Proofs.Yteljedefbomlgaa
open Go.RowKit
namespace Kl
open Er (dv LF)
def M3 (f : FuncId) (lo hi st : Km.De) (n0 n1 n2 n3 n4 n5 n6 : Nat) (g : Bool) (s : Int) (x : Nat) (X : List Int) (k : Int) (gr : Bool) (Z : List Int) (zl : Nat) (sr er : Int) : Prop :=
  ∀ (u : World) (a1 a2 a3 a : Option Addr) (c1 c2 c3 c : Nat) (sg : Bool), Lst u (.slice a1 (Dm.dg lo.m).length c1) (Dm.dg lo.m) → Lst u (.slice a2 (Dm.dg hi.m).length c2) (Dm.dg hi.m) → Lst u (.slice a3 (Dm.dg st.m).length c3) (Dm.dg st.m) → Lst u (.slice a x c) X → Calls Try.prog f #[.agg #[.bool lo.g, .slice a1 (Dm.dg lo.m).length c1, .int .i64 (lo.s : Nat), .bool hi.g, .slice a2 (Dm.dg hi.m).length c2, .int .i64 (hi.s : Nat), .bool st.g, .slice a3 (Dm.dg st.m).length c3, .int .i64 (st.s : Nat), .bool sg, .int .i64 n0, .int .i64 n1, .int .i64 n2, .int .i64 n3, .int .i64 n4, .int .i64 n5, .int .i64 n6], .agg #[.bool g, .slice a x c, .int .i64 s], .int .i64 k] u fun e w' => ∃ ua uc, e = .returned (.tuple #[.agg #[.bool gr, .slice ua zl uc, .int .i64 sr], .int .i64 er]) ∧ LF w' u.heap.size (.slice ua zl uc) Z ∧ Q u w'
theorem d_mov (lo hi st : Km.De) (sg g : Bool) (a1 a2 a3 a : Option Addr) (k1 k2 k3 c1 c2 c3 c x : Nat) (s n m : Nat) (i0 i1 i3 i4 i6 k : Int) (X : List Int) (w : World) (h1 : Lst w (.slice a1 k1 c1) (Dm.dg lo.m)) (h2 : Lst w (.slice a2 k2 c2) (Dm.dg hi.m)) (h3 : Lst w (.slice a3 k3 c3) (Dm.dg st.m)) (hv : Lst w (.slice a x c) X)
    (hl1 : (Dm.dg lo.m).length < 10000) (hl2 : (Dm.dg hi.m).length < 10000) (hl3 : (Dm.dg st.m).length < 400) (hl : X.length < 500) (hd : Dm.okD X) (hs1 : lo.s ≤ 1000) (hs2 : hi.s ≤ 1000) (hs3 : st.s ≤ 1000) (hs : s ≤ 1000) (hn : n ≤ 1000) (hm : m ≤ 6) (hkk : -1000 ≤ k ∧ k ≤ 1000) (hk : ¬ 0 < Km.cmp lo hi) (V : Km.De) (hV : V = Km.mov lo hi st n m ⟨g, Dm.num X, s⟩ k) (vl : Nat) (hvl : (Dm.dg V.m).length = vl) :
    Calls Try.prog 23 #[.agg #[.bool lo.g, .slice a1 k1 c1, .int .i64 (lo.s : Nat), .bool hi.g, .slice a2 k2 c2, .int .i64 (hi.s : Nat), .bool st.g, .slice a3 k3 c3, .int .i64 (st.s : Nat), .bool sg, .int .i64 i0, .int .i64 i1, .int .i64 n, .int .i64 i3, .int .i64 i4, .int .i64 m, .int .i64 i6], .agg #[.bool g, .slice a x c, .int .i64 s], .int .i64 k] w fun e w' => ∃ ua uc, e = .returned (.tuple #[.agg #[.bool V.g, .slice ua vl uc, .int .i64 (V.s : Nat)], .int .i64 0]) ∧ LF w' w.heap.size (.slice ua vl uc) (Dm.dg V.m) ∧ Q w w' := by
  refine (Kr.move_any lo.g hi.g st.g sg g (.slice a1 k1 c1) (.slice a2 k2 c2) (.slice a3 k3 c3) (.slice a x c) lo.s hi.s st.s s n i0 i1 i3 i4 m i6 k (Dm.dg lo.m) (Dm.dg hi.m) (Dm.dg st.m) X w h1 h2 h3 hv hl1 hl2 hl3 hl (Dm.okD_dg _) (Dm.okD_dg _) (Dm.okD_dg _) hd hs1 hs2 hs3 hs hn (by omega) hkk (by rw [Dm.num_dg, Dm.num_dg]; exact hk) V (by rw [Dm.num_dg, Dm.num_dg, Dm.num_dg]; exact hV)).mono ?_
  rintro e w' ⟨u, rfl, hu, hq⟩
  obtain ⟨ua, uc, rfl⟩ := hu.shape
  rw [hvl] at hu ⊢
  exact ⟨ua, uc, rfl, hu, hq⟩
section
variable {lo hi st : Km.De} {n0 n1 n2 n3 n4 n5 n6 : Nat} {g : Bool} {s : Int} {x : Nat} {X : List Int}
theorem mov_both (k : Int) (hx : X.length = x) (hl1 : (Dm.dg lo.m).length ≤ 13) (hl2 : (Dm.dg hi.m).length ≤ 13) (hl3 : (Dm.dg st.m).length ≤ 13) (hs1 : lo.s ≤ n2) (hs2 : hi.s ≤ n2) (hs3 : st.s ≤ n2) (hn : n2 ≤ 5) (hm : n5 ≤ 6) (hk : ¬ 0 < Km.cmp lo hi) (hle : Km.zv lo n2 ≤ Km.zv hi n2) (z1 : (Km.zv lo n2).natAbs < 10 ^ (n0 + n2)) (z2 : (Km.zv hi n2).natAbs < 10 ^ (n0 + n2)) (h0 : n0 ≤ 8) (hl : x ≤ 100) (hs : -9223372036854775808 ≤ s ∧ s ≤ 9223372036854775807) :
    ∃ gr Z zl sr er, M3 22 lo hi st n0 n1 n2 n3 n4 n5 n6 g s x X k gr Z zl sr er ∧ M3 23 lo hi st n0 n1 n2 n3 n4 n5 n6 g s x X k gr Z zl sr er ∧ Z.length ≤ 13 := by
  by_cases hb : (Dm.okB X && decide (0 ≤ s) && decide (s ≤ 1000)) = true
  · by_cases hkk : -1000 ≤ k ∧ k ≤ 1000
    · have hb2 := hb
      simp only [Bool.and_eq_true, decide_eq_true_eq] at hb2
      have hd := (Dm.okB_iff X).1 hb2.1.1
      have e : ((s.toNat : Nat) : Int) = s := by omega
      obtain ⟨V, hV⟩ : ∃ V, V = Km.mov lo hi st n2 n5 ⟨g, Dm.num X, s.toNat⟩ k := ⟨_, rfl⟩
      have hV2 : V = Km.val lo hi n2 n5 (Km.add ⟨g, Dm.num X, s.toNat⟩ (Km.tms st k)) := hV
      have hvl := (Km.val_len lo hi (Km.add ⟨g, Dm.num X, s.toNat⟩ (Km.tms st k)) n2 (n0 + n2) n5 hs1 hs2 hle z1 z2).1
      rw [← hV2] at hvl
      refine ⟨V.g, Dm.dg V.m, (Dm.dg V.m).length, (V.s : Nat), 0, ?_, ?_, by omega⟩
      · intro u a1 a2 a3 a c1 c2 c3 c sg h1 h2 h3 hv
        have j := p_mov lo hi st sg g a1 a2 a3 a (Dm.dg lo.m).length (Dm.dg hi.m).length (Dm.dg st.m).length c1 c2 c3 c x s.toNat n2 n5 n0 n1 n3 n4 n6 k X u h1 h2 h3 hv (by omega) (by omega) (by omega) (by omega) hd (by omega) (by omega) (by omega) (by omega) (by omega) hm hkk hk V hV _ rfl
        rw [e] at j
        exact j
      · intro u a1 a2 a3 a c1 c2 c3 c sg h1 h2 h3 hv
        have j := d_mov lo hi st sg g a1 a2 a3 a (Dm.dg lo.m).length (Dm.dg hi.m).length (Dm.dg st.m).length c1 c2 c3 c x s.toNat n2 n5 n0 n1 n3 n4 n6 k X u h1 h2 h3 hv (by omega) (by omega) (by omega) (by omega) hd (by omega) (by omega) (by omega) (by omega) (by omega) hm hkk hk V hV _ rfl
        rw [e] at j
        exact j
    · have hb3 : (Dm.okB (Dm.dg st.m) && decide (0 ≤ ((st.s : Nat) : Int)) && decide (((st.s : Nat) : Int) ≤ 1000)) = true := by rw [(Dm.okB_iff _).2 (Dm.okD_dg _), decide_eq_true (by omega), decide_eq_true (by omega)]; rfl
      refine ⟨false, [], 0, 0, 3, ?_, ?_, by simp⟩
      · intro u a1 a2 a3 a c1 c2 c3 c sg h1 h2 h3 hv
        exact (Kp.move_far lo.g hi.g st.g sg g _ _ _ _ lo.s hi.s st.s s n0 n1 n2 n3 n4 n5 n6 X u hv (by omega) hs (Dm.dg st.m) h3 (by omega) (by omega) hb3 k (by omega) hb).mono fun e w' h => none3 h
      · intro u a1 a2 a3 a c1 c2 c3 c sg h1 h2 h3 hv
        exact (Kr.move_far lo.g hi.g st.g sg g _ _ _ _ lo.s hi.s st.s s n0 n1 n2 n3 n4 n5 n6 X u hv (by omega) hs (Dm.dg st.m) h3 (by omega) (by omega) hb3 k (by omega) hb).mono fun e w' h => none3 h
  · have hb' : (Dm.okB X && decide (0 ≤ s) && decide (s ≤ 1000)) = false := by simpa using hb
    refine ⟨false, [], 0, 0, 1, ?_, ?_, by simp⟩
    · intro u a1 a2 a3 a c1 c2 c3 c sg h1 h2 h3 hv
      exact (Kp.move_bad lo.g hi.g st.g sg g _ _ _ _ lo.s hi.s st.s s n0 n1 n2 n3 n4 n5 n6 X u hv (by omega) hs k hb').mono fun e w' h => none3 h
    · intro u a1 a2 a3 a c1 c2 c3 c sg h1 h2 h3 hv
      exact (Kr.move_bad lo.g hi.g st.g sg g _ _ _ _ lo.s hi.s st.s s n0 n1 n2 n3 n4 n5 n6 X u hv (by omega) hs k hb').mono fun e w' h => none3 h
end
end Kl
end Go.Proofs.Yteljedefbomlgaa
