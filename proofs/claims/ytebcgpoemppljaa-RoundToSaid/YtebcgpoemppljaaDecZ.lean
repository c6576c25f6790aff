/- The contracts in the form that the statements' walks take. -/
import Derived.Test.YtebcgpoemppljaaRows
import Derived.Test.YtebcgpoemppljaaDigL
import Derived.Test.YtebcgpoemppljaaDecM
import Derived.Test.YtebcgpoemppljaaInts
import Derived.Test.YtebcgpoemppljaaSto
import Derived.Test.YtebcgpoemppljaaStoB
import Derived.Test.YtebcgpoemppljaaDigW
import Derived.Test.YtebcgpoemppljaaDigV
import Derived.Test.YtebcgpoemppljaaDigX
import Derived.Test.YtebcgpoemppljaaDigQ
import Derived.Test.YtebcgpoemppljaaDecR
import Derived.Test.YtebcgpoemppljaaDecS
import Derived.Test.YtebcgpoemppljaaDecC
import Derived.Test.YtebcgpoemppljaaDecP
import Derived.Test.YtebcgpoemppljaaDecQ
import Derived.Test.YtebcgpoemppljaaDecH
import Derived.Test.YtebcgpoemppljaaDecI
import Derived.Test.YtebcgpoemppljaaDecO
import Derived.Deep.QuietTactic
import Derived.Deep.RegionWith
import Derived.Deep.RegionHeld3
import Derived.BigQuiet
import Derived.Laws.ResultCell
set_option linter.unusedVariables false
set_option linter.unusedSimpArgs false
namespace Go.Proofs.Ytebcgpoemppljaa
open Go.RowKit
namespace Ep
open Er (dv cellV LF LF.of LF.nil LF.mono LF.q LF.put LF.shape LF.lst block_cells some_cells block_set wrapI num_shl okD_shl)
/-- What stands while a statement's walk calls functions: the cells of 1 decimals; nothing that was there has changed. -/
def SB1 (W : World) (b1 : Nat) (g1 : Bool) (v1 : Value) (s1 : Int) (u : World) : Prop := u.cell? ⟨b1, 0, none⟩ = some (.bool g1) ∧ (u.cell? ⟨b1, 1, none⟩ = some v1 ∧ (u.cell? ⟨b1, 2, none⟩ = some (.int .i64 s1) ∧ (Q W u)))
theorem SB1.of {W u : World} {b1 : Nat} {g1 : Bool} {v1 : Value} {s1 : Int} {T1 : TypeId} (h1 : W.heap[b1]? = some (.cells #[.bool g1, v1, .int .i64 s1] T1)) (q : Q W u) : SB1 W b1 g1 v1 s1 u := by
  obtain ⟨p10, p11, p12, _, _, _⟩ := block_cells ((q.block (lt_of_block h1)).trans h1)
  exact ⟨p10, p11, p12, q⟩
theorem SB1.here {W u : World} {b1 : Nat} {g1 : Bool} {v1 : Value} {s1 : Int} (k : SB1 W b1 g1 v1 s1 u) : Q W u := by
  obtain ⟨_, _, _, q⟩ := k
  exact q
/-- What stands while a statement's walk calls functions: the cells of 2 decimals; nothing that was there has changed. -/
def SB2 (W : World) (b1 : Nat) (g1 : Bool) (v1 : Value) (s1 : Int) (b2 : Nat) (g2 : Bool) (v2 : Value) (s2 : Int) (u : World) : Prop := u.cell? ⟨b1, 0, none⟩ = some (.bool g1) ∧ (u.cell? ⟨b1, 1, none⟩ = some v1 ∧ (u.cell? ⟨b1, 2, none⟩ = some (.int .i64 s1) ∧ (u.cell? ⟨b2, 0, none⟩ = some (.bool g2) ∧ (u.cell? ⟨b2, 1, none⟩ = some v2 ∧ (u.cell? ⟨b2, 2, none⟩ = some (.int .i64 s2) ∧ (Q W u))))))
theorem SB2.of {W u : World} {b1 b2 : Nat} {g1 g2 : Bool} {v1 v2 : Value} {s1 s2 : Int} {T1 : TypeId} (h1 : W.heap[b1]? = some (.cells #[.bool g1, v1, .int .i64 s1] T1)) {T2 : TypeId} (h2 : W.heap[b2]? = some (.cells #[.bool g2, v2, .int .i64 s2] T2)) (q : Q W u) : SB2 W b1 g1 v1 s1 b2 g2 v2 s2 u := by
  obtain ⟨p10, p11, p12, _, _, _⟩ := block_cells ((q.block (lt_of_block h1)).trans h1)
  obtain ⟨p20, p21, p22, _, _, _⟩ := block_cells ((q.block (lt_of_block h2)).trans h2)
  exact ⟨p10, p11, p12, p20, p21, p22, q⟩
theorem SB2.here {W u : World} {b1 b2 : Nat} {g1 g2 : Bool} {v1 v2 : Value} {s1 s2 : Int} (k : SB2 W b1 g1 v1 s1 b2 g2 v2 s2 u) : Q W u := by
  obtain ⟨_, _, _, _, _, _, q⟩ := k
  exact q
/-- What stands while a statement's walk calls functions: the cells of 3 decimals; nothing that was there has changed. -/
def SB3 (W : World) (b1 : Nat) (g1 : Bool) (v1 : Value) (s1 : Int) (b2 : Nat) (g2 : Bool) (v2 : Value) (s2 : Int) (b3 : Nat) (g3 : Bool) (v3 : Value) (s3 : Int) (u : World) : Prop := u.cell? ⟨b1, 0, none⟩ = some (.bool g1) ∧ (u.cell? ⟨b1, 1, none⟩ = some v1 ∧ (u.cell? ⟨b1, 2, none⟩ = some (.int .i64 s1) ∧ (u.cell? ⟨b2, 0, none⟩ = some (.bool g2) ∧ (u.cell? ⟨b2, 1, none⟩ = some v2 ∧ (u.cell? ⟨b2, 2, none⟩ = some (.int .i64 s2) ∧ (u.cell? ⟨b3, 0, none⟩ = some (.bool g3) ∧ (u.cell? ⟨b3, 1, none⟩ = some v3 ∧ (u.cell? ⟨b3, 2, none⟩ = some (.int .i64 s3) ∧ (Q W u)))))))))
theorem SB3.of {W u : World} {b1 b2 b3 : Nat} {g1 g2 g3 : Bool} {v1 v2 v3 : Value} {s1 s2 s3 : Int} {T1 : TypeId} (h1 : W.heap[b1]? = some (.cells #[.bool g1, v1, .int .i64 s1] T1)) {T2 : TypeId} (h2 : W.heap[b2]? = some (.cells #[.bool g2, v2, .int .i64 s2] T2)) {T3 : TypeId} (h3 : W.heap[b3]? = some (.cells #[.bool g3, v3, .int .i64 s3] T3)) (q : Q W u) : SB3 W b1 g1 v1 s1 b2 g2 v2 s2 b3 g3 v3 s3 u := by
  obtain ⟨p10, p11, p12, _, _, _⟩ := block_cells ((q.block (lt_of_block h1)).trans h1)
  obtain ⟨p20, p21, p22, _, _, _⟩ := block_cells ((q.block (lt_of_block h2)).trans h2)
  obtain ⟨p30, p31, p32, _, _, _⟩ := block_cells ((q.block (lt_of_block h3)).trans h3)
  exact ⟨p10, p11, p12, p20, p21, p22, p30, p31, p32, q⟩
theorem SB3.here {W u : World} {b1 b2 b3 : Nat} {g1 g2 g3 : Bool} {v1 v2 v3 : Value} {s1 s2 s3 : Int} (k : SB3 W b1 g1 v1 s1 b2 g2 v2 s2 b3 g3 v3 s3 u) : Q W u := by
  obtain ⟨_, _, _, _, _, _, _, _, _, q⟩ := k
  exact q
/-- What stands while a statement's walk calls functions: the cells of 5 decimals; nothing that was there has changed. -/
def SB5 (W : World) (b1 : Nat) (g1 : Bool) (v1 : Value) (s1 : Int) (b2 : Nat) (g2 : Bool) (v2 : Value) (s2 : Int) (b3 : Nat) (g3 : Bool) (v3 : Value) (s3 : Int) (b4 : Nat) (g4 : Bool) (v4 : Value) (s4 : Int) (b5 : Nat) (g5 : Bool) (v5 : Value) (s5 : Int) (u : World) : Prop := u.cell? ⟨b1, 0, none⟩ = some (.bool g1) ∧ (u.cell? ⟨b1, 1, none⟩ = some v1 ∧ (u.cell? ⟨b1, 2, none⟩ = some (.int .i64 s1) ∧ (u.cell? ⟨b2, 0, none⟩ = some (.bool g2) ∧ (u.cell? ⟨b2, 1, none⟩ = some v2 ∧ (u.cell? ⟨b2, 2, none⟩ = some (.int .i64 s2) ∧ (u.cell? ⟨b3, 0, none⟩ = some (.bool g3) ∧ (u.cell? ⟨b3, 1, none⟩ = some v3 ∧ (u.cell? ⟨b3, 2, none⟩ = some (.int .i64 s3) ∧ (u.cell? ⟨b4, 0, none⟩ = some (.bool g4) ∧ (u.cell? ⟨b4, 1, none⟩ = some v4 ∧ (u.cell? ⟨b4, 2, none⟩ = some (.int .i64 s4) ∧ (u.cell? ⟨b5, 0, none⟩ = some (.bool g5) ∧ (u.cell? ⟨b5, 1, none⟩ = some v5 ∧ (u.cell? ⟨b5, 2, none⟩ = some (.int .i64 s5) ∧ (Q W u)))))))))))))))
theorem SB5.of {W u : World} {b1 b2 b3 b4 b5 : Nat} {g1 g2 g3 g4 g5 : Bool} {v1 v2 v3 v4 v5 : Value} {s1 s2 s3 s4 s5 : Int} {T1 : TypeId} (h1 : W.heap[b1]? = some (.cells #[.bool g1, v1, .int .i64 s1] T1)) {T2 : TypeId} (h2 : W.heap[b2]? = some (.cells #[.bool g2, v2, .int .i64 s2] T2)) {T3 : TypeId} (h3 : W.heap[b3]? = some (.cells #[.bool g3, v3, .int .i64 s3] T3)) {T4 : TypeId} (h4 : W.heap[b4]? = some (.cells #[.bool g4, v4, .int .i64 s4] T4)) {T5 : TypeId} (h5 : W.heap[b5]? = some (.cells #[.bool g5, v5, .int .i64 s5] T5)) (q : Q W u) : SB5 W b1 g1 v1 s1 b2 g2 v2 s2 b3 g3 v3 s3 b4 g4 v4 s4 b5 g5 v5 s5 u := by
  obtain ⟨p10, p11, p12, _, _, _⟩ := block_cells ((q.block (lt_of_block h1)).trans h1)
  obtain ⟨p20, p21, p22, _, _, _⟩ := block_cells ((q.block (lt_of_block h2)).trans h2)
  obtain ⟨p30, p31, p32, _, _, _⟩ := block_cells ((q.block (lt_of_block h3)).trans h3)
  obtain ⟨p40, p41, p42, _, _, _⟩ := block_cells ((q.block (lt_of_block h4)).trans h4)
  obtain ⟨p50, p51, p52, _, _, _⟩ := block_cells ((q.block (lt_of_block h5)).trans h5)
  exact ⟨p10, p11, p12, p20, p21, p22, p30, p31, p32, p40, p41, p42, p50, p51, p52, q⟩
theorem SB5.here {W u : World} {b1 b2 b3 b4 b5 : Nat} {g1 g2 g3 g4 g5 : Bool} {v1 v2 v3 v4 v5 : Value} {s1 s2 s3 s4 s5 : Int} (k : SB5 W b1 g1 v1 s1 b2 g2 v2 s2 b3 g3 v3 s3 b4 g4 v4 s4 b5 g5 v5 s5 u) : Q W u := by
  obtain ⟨_, _, _, _, _, _, _, _, _, _, _, _, _, _, _, q⟩ := k
  exact q
theorem good_sh (u : World) (g : Bool) (a : Option Addr) (n c : Nat) (s : Int) (L : List Int) (m : Nat) (hv : Lst u (.slice a n c) L) (hn : L.length = n) (hs : -9223372036854775808 ≤ s ∧ s ≤ 9223372036854775807) (hm : m < 1000000) (hb : ∀ n ∈ L, -9223372036854775808 ≤ n ∧ n ≤ 9223372036854775807) (t p : Nat) (ht : Um.around s 10 = (t : Int)) (hp : (Dm.gdL L m).length = p) :
    Calls Try.prog 10 #[.agg #[.bool g, .slice a n c, .int .i64 s], .int .i64 m] u fun e w' => ∃ a c, e = .returned (.agg #[.bool g, .slice a p c, .int .i64 t]) ∧ Lst w' (.slice a p c) (Dm.gdL L m) ∧ Q u w' := by
  refine (Er.good_any g _ s L m u hv hs hm hb).mono ?_
  rintro e w' ⟨x, rfl, hx, hq⟩
  obtain ⟨a, c, rfl⟩ := hx.shape
  rw [ht, hp]
  exact ⟨a, c, rfl, by rw [← hp]; exact hx.lst, hq⟩
theorem ptrim_sh (u : World) (g : Bool) (a : Option Addr) (n c : Nat) (s : Nat) (L : List Int) (hv : Lst u (.slice a n c) L) (hl : L.length < 10000) (hd : Dm.okD L) (hs : s ≤ 1000) (cs : Bool) (Z : List Int) (r zs : Nat) (h1 : Dm.cg g (Dm.num L) = cs) (h2 : Dm.dg (Dm.st (Dm.num L) s).1 = Z) (h3 : (Dm.st (Dm.num L) s).2 = zs) (h4 : Z.length = r) :
    Calls Try.prog 47 #[.agg #[.bool g, .slice a n c, .int .i64 (s : Int)]] u fun e w' => ∃ a c, e = .returned (.agg #[.bool cs, .slice a r c, .int .i64 (zs : Nat)]) ∧ Lst w' (.slice a r c) Z ∧ Q u w' := by
  subst h1; subst h2; subst h3; subst h4
  refine (trim_any g _ s L u hv (by omega) hd (by omega)).mono ?_
  rintro e w' ⟨x, rfl, hx, hq⟩
  obtain ⟨a, c, rfl⟩ := hx.shape
  exact ⟨a, c, rfl, hx.lst, hq⟩
theorem rtrim_sh (u : World) (g : Bool) (a : Option Addr) (n c : Nat) (s : Nat) (L : List Int) (hv : Lst u (.slice a n c) L) (hl : L.length < 10000) (hd : Dm.okD L) (hs : s ≤ 1000) (cs : Bool) (Z : List Int) (r zs : Nat) (h1 : Dm.cg g (Dm.num L) = cs) (h2 : Dm.dg (Dm.st (Dm.num L) s).1 = Z) (h3 : (Dm.st (Dm.num L) s).2 = zs) (h4 : Z.length = r) :
    Calls Try.prog 19 #[.agg #[.bool g, .slice a n c, .int .i64 (s : Int)]] u fun e w' => ∃ a c, e = .returned (.agg #[.bool cs, .slice a r c, .int .i64 (zs : Nat)]) ∧ Lst w' (.slice a r c) Z ∧ Q u w' := by
  subst h1; subst h2; subst h3; subst h4
  refine (Er.trim_any g _ s L u hv (by omega) hd (by omega)).mono ?_
  rintro e w' ⟨x, rfl, hx, hq⟩
  obtain ⟨a, c, rfl⟩ := hx.shape
  exact ⟨a, c, rfl, hx.lst, hq⟩
theorem same_sh (u : World) (g : Bool) (a b : Option Addr) (n c d : Nat) (s : Int) (L : List Int) (hv : Lst u (.slice a n c) L) (hu : Lst u (.slice b n d) L) (hl : L.length < 1000000) : Calls Try.prog 16 #[.agg #[.bool g, .slice a n c, .int .i64 s], .agg #[.bool g, .slice b n d, .int .i64 s]] u fun e w' => e = .returned (.bool true) ∧ Q u w' :=
  Er.same_eq g _ _ s L u hv hu hl
theorem cmpD_st (g : Bool) (M s : Nat) : Dm.cmpD (Dm.cg g M) (Dm.st M s).1 (Dm.st M s).2 g M s = 0 := by
  have h1 : Dm.cg (Dm.cg g M) (Dm.st M s).1 = Dm.cg g M := by rw [Dm.cg_st, Dm.cg_cg]
  have h2 : Dm.cmpS (Dm.st M s).1 (Dm.st M s).2 M s = 0 := by
    rw [← Dm.cmpS_st, Dm.st_trim]
    unfold Dm.cmpS
    exact Dm.cmpZ_eq rfl
  unfold Dm.cmpD
  rw [h1, if_pos rfl, h2]
  split <;> rfl
theorem cmpD_self (g : Bool) (M s : Nat) : Dm.cmpD g M s g M s = 0 := by
  have h2 : Dm.cmpS M s M s = 0 := by
    unfold Dm.cmpS
    exact Dm.cmpZ_eq rfl
  unfold Dm.cmpD
  rw [if_pos rfl, h2]
  split <;> rfl
theorem heap_three (w : World) (p q r : Obj) : (((w.alloc p).alloc q).alloc r).heap[w.heap.size]? = some p ∧ (((w.alloc p).alloc q).alloc r).heap[w.heap.size + 1]? = some q ∧ (((w.alloc p).alloc q).alloc r).heap[w.heap.size + 1 + 1]? = some r := by
  have e : ((w.alloc p).alloc q).heap.size = w.heap.size + 1 + 1 := by simp
  refine ⟨(heap_alloc_old _ _ (by rw [e]; omega)).trans (heap_alloc2_old _ _ _), (heap_alloc_old _ _ (by rw [e]; omega)).trans (heap_alloc2_new _ _ _), ?_⟩
  have := heap_alloc_new ((w.alloc p).alloc q) r
  rwa [e] at this
end Ep
end Go.Proofs.Ytebcgpoemppljaa
