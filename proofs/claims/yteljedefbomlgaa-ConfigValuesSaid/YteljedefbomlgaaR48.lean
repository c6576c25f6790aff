/- Configurations: a value, once more: the program's. (and more) -/
import Derived.Test.YteljedefbomlgaaR00
import Derived.Test.YteljedefbomlgaaR02
import Derived.Test.YteljedefbomlgaaR46
import Derived.Test.YteljedefbomlgaaR26
import Derived.Test.YteljedefbomlgaaR27
import Derived.Test.YteljedefbomlgaaR01
import Derived.Test.YteljedefbomlgaaR08
import Derived.Test.YteljedefbomlgaaRows
set_option linter.unusedVariables false
set_option linter.unusedSimpArgs false
namespace Go.Proofs.Yteljedefbomlgaa
open Go.RowKit
namespace Kl
def F3 (lo hi st : Km.De) (n0 n1 n2 n3 n4 n5 n6 : Nat) (gr : Bool) (Z : List Int) (zl : Nat) (sr : Int) : Prop :=
  ∀ (u : World) (v1 v2 v3 : Value) (sg : Bool) (a : Option Addr) (c : Nat), Lst u (.slice a zl c) Z → Calls Try.prog 19 #[.agg #[.bool lo.g, v1, .int .i64 (lo.s : Nat), .bool hi.g, v2, .int .i64 (hi.s : Nat), .bool st.g, v3, .int .i64 (st.s : Nat), .bool sg, .int .i64 n0, .int .i64 n1, .int .i64 n2, .int .i64 n3, .int .i64 n4, .int .i64 n5, .int .i64 n6], .agg #[.bool gr, .slice a zl c, .int .i64 sr]] u fun e w' => e = .returned (.bool true) ∧ Q u w'
def AG (lo hi st : Km.De) (n0 n1 n2 n3 n4 n5 n6 : Nat) (gr : Bool) (Z : List Int) (zl : Nat) (sr er : Int) : Prop :=
  ∃ gr2 Z2 zl2 sr2 er2, V3 14 lo hi st n0 n1 n2 n3 n4 n5 n6 gr sr zl Z gr2 Z2 zl2 sr2 er2 ∧ Z2.length ≤ 13 ∧ (er = 0 → er2 = 0 ∧ gr2 = gr ∧ Z2 = Z ∧ zl2 = zl ∧ sr2 = sr ∧ F3 lo hi st n0 n1 n2 n3 n4 n5 n6 gr Z zl sr)
theorem val_full {lo hi st : Km.De} {n0 n1 n2 n3 n4 n5 n6 : Nat} {g : Bool} {s : Int} {x : Nat} {X : List Int} (hx : X.length = x) (hl1 : (Dm.dg lo.m).length ≤ 13) (hl2 : (Dm.dg hi.m).length ≤ 13) (hs1 : lo.s ≤ n2) (hs2 : hi.s ≤ n2) (hn : n2 ≤ 5) (hm : n5 ≤ 6) (hk : ¬ 0 < Km.cmp lo hi) (hle : Km.zv lo n2 ≤ Km.zv hi n2) (z1 : (Km.zv lo n2).natAbs < 10 ^ (n0 + n2)) (z2 : (Km.zv hi n2).natAbs < 10 ^ (n0 + n2)) (h0 : n0 ≤ 8) (hl : x ≤ 100) (hs : -9223372036854775808 ≤ s ∧ s ≤ 9223372036854775807) :
    ∃ gr Z zl sr er, V3 14 lo hi st n0 n1 n2 n3 n4 n5 n6 g s x X gr Z zl sr er ∧ V3 16 lo hi st n0 n1 n2 n3 n4 n5 n6 g s x X gr Z zl sr er ∧ Z.length ≤ 13 ∧ AG lo hi st n0 n1 n2 n3 n4 n5 n6 gr Z zl sr er := by
  by_cases hb : (Dm.okB X && decide (0 ≤ s) && decide (s ≤ 1000)) = true
  · obtain ⟨V, hV⟩ : ∃ V, V = Km.val lo hi n2 n5 ⟨g, Dm.num X, s.toNat⟩ := ⟨_, rfl⟩
    have hvl := Km.val_len lo hi ⟨g, Dm.num X, s.toNat⟩ n2 (n0 + n2) n5 hs1 hs2 hle z1 z2
    rw [← hV] at hvl
    have hag := Km.val_again lo hi ⟨g, Dm.num X, s.toNat⟩ n2 n5 hs1 hs2 hle
    rw [← hV] at hag
    have hft := Km.val_fit lo hi ⟨g, Dm.num X, s.toNat⟩ n2 n0 n5 hs1 hs2 hle z1 z2
    rw [← hV] at hft
    obtain ⟨k1, k2⟩ := val_good (st := st) (n0 := n0) (n1 := n1) (n3 := n3) (n4 := n4) (n6 := n6) (g := g) (s := s) hx hl1 hl2 hs1 hs2 hn hm hk hl hb V hV _ rfl
    have hok := (Dm.okB_iff _).2 (Dm.okD_dg V.m)
    have hb2 : (Dm.okB (Dm.dg V.m) && decide (0 ≤ ((V.s : Nat) : Int)) && decide (((V.s : Nat) : Int) ≤ 1000)) = true := by rw [hok, decide_eq_true (by omega), decide_eq_true (by omega)]; rfl
    refine ⟨V.g, Dm.dg V.m, (Dm.dg V.m).length, (V.s : Nat), 0, k1, k2, by omega, V.g, Dm.dg V.m, (Dm.dg V.m).length, (V.s : Nat), 0, ?_, by omega, fun _ => ⟨rfl, rfl, rfl, rfl, rfl, ?_⟩⟩
    · exact (val_good (st := st) (n0 := n0) (n1 := n1) (n3 := n3) (n4 := n4) (n6 := n6) (g := V.g) (s := ((V.s : Nat) : Int)) (x := (Dm.dg V.m).length) (X := Dm.dg V.m) rfl hl1 hl2 hs1 hs2 hn hm hk (by omega) hb2 V (by rw [Dm.num_dg]; exact hag.symm) _ rfl).1
    · intro u v1 v2 v3 sg a c hv
      exact fits_all lo.g hi.g st.g sg V.g v1 v2 v3 a (Dm.dg V.m).length c lo.s hi.s st.s n0 n1 n2 n3 n4 n5 n6 (V.s : Nat) (Dm.dg V.m) u hv (by omega) (by omega) true hb2 true (by rw [Dm.num_dg]; exact hft.symm)
  · have hb' : (Dm.okB X && decide (0 ≤ s) && decide (s ≤ 1000)) = false := by simpa using hb
    obtain ⟨k1, k2⟩ := val_none (lo := lo) (hi := hi) (st := st) (n0 := n0) (n1 := n1) (n2 := n2) (n3 := n3) (n4 := n4) (n5 := n5) (n6 := n6) (g := g) (s := s) hx hl hm hs hb'
    obtain ⟨V, hV⟩ : ∃ V, V = Km.val lo hi n2 n5 ⟨false, Dm.num [], (0 : Int).toNat⟩ := ⟨_, rfl⟩
    have hvl := Km.val_len lo hi ⟨false, Dm.num [], (0 : Int).toNat⟩ n2 (n0 + n2) n5 hs1 hs2 hle z1 z2
    rw [← hV] at hvl
    exact ⟨false, [], 0, 0, 1, k1, k2, by simp, V.g, Dm.dg V.m, (Dm.dg V.m).length, (V.s : Nat), 0, (val_good (st := st) (n0 := n0) (n1 := n1) (n3 := n3) (n4 := n4) (n6 := n6) (g := false) (s := 0) (x := 0) (X := []) rfl hl1 hl2 hs1 hs2 hn hm hk (by omega) rfl V hV _ rfl).1, by omega, fun h => absurd h (by decide)⟩
end Kl
end Go.Proofs.Yteljedefbomlgaa
