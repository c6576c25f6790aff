/- What the document's own Same, Few and Times of decimals come to, by a walk through each. (and more) -/
import Derived.Test.YteljedefbomlgaaR00
import Derived.Test.YteljedefbomlgaaR01
import Derived.Test.YteljedefbomlgaaR08
import Derived.Test.YteljedefbomlgaaR06
import Derived.Test.YteljedefbomlgaaR03
import Derived.Test.YteljedefbomlgaaR05
import Derived.Test.YteljedefbomlgaaR02
import Derived.Test.YteljedefbomlgaaRows
import Derived.Deep.QuietTactic
import Derived.Deep.RegionWith
import Derived.Deep.RegionHeld3
import Derived.BigQuiet
import Derived.Laws.ResultCell
set_option linter.unusedVariables false
set_option linter.unusedSimpArgs false
namespace Go.Proofs.Yteljedefbomlgaa
open Go.RowKit
namespace Er
theorem ret_dv2 {fn : Func} {p q : Tmp} (h : fn.results = #[.cell p 24, .tmp q]) {R : Ending → World → Prop} {a : Act} {w : World} {g : Nat} {b : Bool} {v : Value} {s : Int} {T : TypeId} {fr : Nat × Nat} {x : Value}
    (hp : a.tmps.getD p undef = .pointer (some ⟨g, 0, none⟩)) (hq : a.tmps.getD q undef = x) (hg : w.heap[g]? = some (.cells #[.bool b, v, .int .i64 s] T fr)) (hd : a.defers = []) (hR : R (.returned (.tuple #[dv b v s, x])) w) : bodyPost Try.prog fn R .ret a w := by
  refine bodyPost_ret (v := .tuple #[dv b v s, x]) ?_ hd hR
  rw [results_cell_tmp h, hp, hq]
  simp [asAddr, Result.andThen, run_loadVar_row w g T 24 #[.bool b, v, .int .i64 s] fr _ hg Try.underlying24 rfl infoD, dv]
theorem wrapI {x : Int} (h0 : -9223372036854775808 ≤ x) (h1 : x ≤ 9223372036854775807) : IntKind.i64.wrap x = x := by
  rw [IntKind.wrap_i64]; omega
set_option maxHeartbeats 800000 in
theorem same_eq (g : Bool) (v u : Value) (s : Int) (xs : List Int) (w : World) (hv : Lst w v xs) (hu : Lst w u xs) (hl : xs.length < 1000000) :
    Calls Try.prog 17 #[dv g v s, dv g u s] w fun e w' => e = .returned (.bool true) ∧ Q w w' := by
  have M := Lib.hid (fun w' (q : Q w w') => Ur.same_any v u xs xs w' (hv.q q) (hu.q q) (by omega) (by omega))
  simp only [decide_true] at M
  obtain ⟨a, c, rfl⟩ := hv.shape
  obtain ⟨b, d, rfl⟩ := hu.shape
  generalize xs.length = n at *
  have hk := fun w' (q : Q ((w.alloc (.cells #[.bool g, .slice a n c, .int .i64 s] 24)).alloc (.cells #[.bool g, .slice b n d, .int .i64 s] 24)) w') => And.intro (block_cells ((q.block (lt_of_block (heap_alloc2_old w _ _))).trans (heap_alloc2_old w _ _))) (block_cells ((q.block (lt_of_block (heap_alloc2_new w _ _))).trans (heap_alloc2_new w _ _)))
  have HK := Lib.hid hk
  clear hv hu hk
  go_enter Try.func17, Try.ntmps17
  unfold dv
  go_wp2_with fail
  refine (M.out _ (((Q.refl w).alloc _).alloc _)).mono ?_
  rintro e w1 ⟨rfl, hq⟩
  obtain ⟨⟨a0, a1, a2, _, _, _⟩, ⟨b0, b1, b2, _, _, _⟩⟩ := HK.out w1 hq
  have HQ := Lib.hid ((((Q.refl w).alloc _).alloc _).trans hq)
  clear hq
  cases g
  all_goals
    go_wp2_with fail
    go_ret
    exact ⟨rfl, HQ.out⟩
set_option maxHeartbeats 800000 in
theorem few_any (g : Bool) (a : Option Addr) (n c : Nat) (s : Int) (m : Nat) (w : World) (hn : n ≤ c) (hc : c ≤ maxLen) (hm : m < 1000000) :
    Calls Try.prog 13 #[dv g (.slice a n c) s, .int .i64 m] w fun e w' => e = .returned (dv g (.slice a (min n m) c) s) ∧ Q w w' := by
  unfold maxLen at hc
  by_cases h : m < n
  · have HM := Lib.hid (show min n m = m from by omega)
    have hmc : (m : Int) ≤ (c : Int) := by omega
    go_enter Try.func13, Try.ntmps13
    unfold dv
    go_wp2_with fail
    rw [HM.out]
    exact ret_dv rfl rfl (heap_alloc2_new _ _ _) rfl ⟨rfl, ((Q.refl w).alloc _).alloc _⟩
  · have HM := Lib.hid (show min n m = n from by omega)
    go_enter Try.func13, Try.ntmps13
    unfold dv
    go_wp2_with fail
    rw [HM.out]
    exact ret_dv rfl rfl (heap_alloc2_new _ _ _) rfl ⟨rfl, ((Q.refl w).alloc _).alloc _⟩
set_option maxHeartbeats 3200000 in
theorem times_pos (g : Bool) (v : Value) (s k : Nat) (L : List Int) (w : World) (hv : Lst w v L) (hl : L.length < 100000) (hd : Dm.okD L) (hs : s ≤ 1000) (hk : k ≤ 1000)  :
    Calls Try.prog 47 #[dv g v s, .int .i64 (k : Int)] w fun e w' => ∃ u, e = .returned (.tuple #[dv (Dm.cg g (Dm.num L * k)) u ((Dm.st (Dm.num L * k) s).2 : Nat), .int .i64 0]) ∧ LF w' (w.heap.size + 2) u (Dm.dg (Dm.st (Dm.num L * k) s).1) ∧ Q w w' := by
  obtain ⟨a, c, rfl, hc1, hc2⟩ := hv.shape2
  have hok := (Dm.okB_iff L).2 hd
  have M := Lib.hid (fun u (h : SD w g (.slice a L.length c) s u) => (by
    have e := may_any g (.slice a L.length c) s L u (hv.q h.2.2.2.2.2.2.2.2.2.2.2) (by omega) (by omega)
    rw [hok, show decide (0 ≤ (s : Int)) = true from by simp, show decide ((s : Int) ≤ 1000) = true from by simp; omega] at e
    refine e.mono ?_
    rintro e w' ⟨rfl, hq⟩
    exact ⟨rfl, h.q hq⟩ : Calls Try.prog 24 #[.agg #[.bool g, .slice a L.length c, .int .i64 s]] u fun e w' => e = .returned (.bool true) ∧ SD w g (.slice a L.length c) s w'))
  have T := Lib.hid (fun u (h : SD w g (.slice a L.length c) s u) => (by
    refine (Dr.times_any _ L k u (hv.q h.2.2.2.2.2.2.2.2.2.2.2) (by omega) hd hk).mono ?_
    rintro e w' ⟨x, rfl, ho, hq⟩
    obtain ⟨xa, xc, rfl⟩ := ho.shape
    exact ⟨xa, xc, rfl, ho.lst, h.q hq⟩ : Calls Try.prog 79 #[.slice a L.length c, .int .i64 k] u fun e w' => ∃ xa xc, e = .returned (.slice xa (Dm.dg (Dm.num L * k)).length xc) ∧ Lst w' (.slice xa (Dm.dg (Dm.num L * k)).length xc) (Dm.dg (Dm.num L * k)) ∧ SD w g (.slice a L.length c) s w'))
  have hdl : (Dm.dg (Dm.num L * k)).length ≤ L.length + 4 := by
    refine Dm.dg_len_lt _ _ ?_
    have h1 := Dm.num_lt L hd
    have h2 : Dm.num L * k < 10 ^ L.length * 10 ^ 4 := by
      have h3 : Dm.num L * k ≤ Dm.num L * 1000 := Nat.mul_le_mul_left _ hk
      omega
    rwa [← Nat.pow_add] at h2
  have R := Lib.hid (fun u xa xc (hx : Lst u (.slice xa (Dm.dg (Dm.num L * k)).length xc) (Dm.dg (Dm.num L * k))) (h : SD w g (.slice a L.length c) s u) => (by
    have e := trim_any g _ s (Dm.dg (Dm.num L * k)) u hx (by omega) (Dm.okD_dg _) (by omega)
    rw [Dm.num_dg] at e
    refine e.mono ?_
    rintro e w' ⟨x, rfl, ho, hq⟩
    obtain ⟨ya, yc, rfl⟩ := ho.shape
    exact ⟨ya, yc, rfl, ho.mono (by have := h.room; omega), h.q hq⟩ : Calls Try.prog 51 #[.agg #[.bool g, .slice xa (Dm.dg (Dm.num L * k)).length xc, .int .i64 s]] u fun e w' => ∃ ya yc, e = .returned (.agg #[.bool (Dm.cg g (Dm.num L * k)), .slice ya (Dm.dg (Dm.st (Dm.num L * k) s).1).length yc, .int .i64 ((Dm.st (Dm.num L * k) s).2 : Nat)]) ∧ LF w' (w.heap.size + 2) (.slice ya (Dm.dg (Dm.st (Dm.num L * k) s).1).length yc) (Dm.dg (Dm.st (Dm.num L * k) s).1) ∧ SD w g (.slice a L.length c) s w'))
  have HS := Lib.hid (SD.start w g (.slice a L.length c) s)
  generalize Dm.cg g (Dm.num L * k) = cs at *
  generalize Dm.dg (Dm.st (Dm.num L * k) s).1 = Z at *
  generalize (Dm.st (Dm.num L * k) s).2 = zs at *
  generalize Dm.dg (Dm.num L * k) = Y at *
  generalize L.length = n at *
  generalize Y.length = p at *
  generalize Z.length = r at *
  have PUT := Lib.hid (fun u (h : SD w g (.slice a n c) s u) x y z => h.put x y z)
  clear hv hok hdl
  go_enter Try.func47, Try.ntmps47
  unfold dv
  go_wp2_with fail
  refine (M.out _ HS.out).mono ?_
  rintro e w1 ⟨rfl, hS⟩
  have HS1 := Lib.hid hS
  clear hS
  go_wp2_with fail
  have hst := HS1.out.q ((Q.refl _).drew)
  have hst0 := HS1.out
  unfold SD at hst hst0
  go_region_held3 (fun u => u.cell? ⟨w.heap.size, 0, none⟩ = some (.bool g) ∧ (u.cell? ⟨w.heap.size, 1, none⟩ = some (.slice a n c) ∧ (u.cell? ⟨w.heap.size, 2, none⟩ = some (.int .i64 s) ∧ (u.cell? ⟨w.heap.size + 1, 0, none⟩ = some (cellV (w.heap.size + 1) 0 u) ∧ (u.cell? ⟨w.heap.size + 1, 1, none⟩ = some (cellV (w.heap.size + 1) 1 u) ∧ (u.cell? ⟨w.heap.size + 1, 2, none⟩ = some (cellV (w.heap.size + 1) 2 u) ∧ (u.frozen? ⟨w.heap.size + 1, 0, none⟩ = false ∧ (u.frozen? ⟨w.heap.size + 1, 1, none⟩ = false ∧ (u.frozen? ⟨w.heap.size + 1, 2, none⟩ = false ∧ (u.heap[w.heap.size]? = some (.cells #[.bool g, .slice a n c, .int .i64 s] 24) ∧ ((∃ x y z, u.heap[w.heap.size + 1]? = some (.cells #[x, y, z] 24)) ∧ Q w u))))))))))) (first | exact hst | exact hst0 | assumption | exact (PUT.out _ (by assumption) _ _ _).1) (first | (go_at_call 79; refine (T.out _ ?_).mono ?_; assumption; rintro e w2 ⟨xa, xc, rfl, hlst, hS⟩; unfold SD at hS) | (go_at_call 51; refine (R.out _ _ _ ?_ ?_).mono ?_; assumption; assumption; rintro e w3 ⟨ya, yc, rfl, hlf, hS3⟩; unfold SD at hS3))
  have hfin := PUT.out w3 hS3 (.bool cs) (.slice ya r yc) (.int .i64 zs)
  have hlf2 := hlf.put (r := w.heap.size + 1) (Nat.lt_succ_self _) (.bool cs) (.slice ya r yc) (.int .i64 zs)
  have hqf : Q w _ := hfin.1.2.2.2.2.2.2.2.2.2.2.2
  have HF := Lib.hid hfin.2
  have HO := Lib.hid hlf2
  have HQ := Lib.hid hqf
  clear hfin hlf2 hqf hst hst0 hlf
  go_wp2_with fail
  exact ret_dv2 rfl rfl rfl HF.out rfl ⟨_, rfl, HO.out, HQ.out⟩
set_option maxHeartbeats 3200000 in
theorem times_neg (g : Bool) (v : Value) (s k : Nat) (L : List Int) (w : World) (hv : Lst w v L) (hl : L.length < 100000) (hd : Dm.okD L) (hs : s ≤ 1000) (hk : k ≤ 1000) (hk0 : 0 < k) :
    Calls Try.prog 47 #[dv g v s, .int .i64 (-(k : Int))] w fun e w' => ∃ u, e = .returned (.tuple #[dv (Dm.cg (!g) (Dm.num L * k)) u ((Dm.st (Dm.num L * k) s).2 : Nat), .int .i64 0]) ∧ LF w' (w.heap.size + 2) u (Dm.dg (Dm.st (Dm.num L * k) s).1) ∧ Q w w' := by
  obtain ⟨a, c, rfl, hc1, hc2⟩ := hv.shape2
  have hok := (Dm.okB_iff L).2 hd
  have M := Lib.hid (fun u (h : SD w g (.slice a L.length c) s u) => (by
    have e := may_any g (.slice a L.length c) s L u (hv.q h.2.2.2.2.2.2.2.2.2.2.2) (by omega) (by omega)
    rw [hok, show decide (0 ≤ (s : Int)) = true from by simp, show decide ((s : Int) ≤ 1000) = true from by simp; omega] at e
    refine e.mono ?_
    rintro e w' ⟨rfl, hq⟩
    exact ⟨rfl, h.q hq⟩ : Calls Try.prog 24 #[.agg #[.bool g, .slice a L.length c, .int .i64 s]] u fun e w' => e = .returned (.bool true) ∧ SD w g (.slice a L.length c) s w'))
  have T := Lib.hid (fun u (h : SD w g (.slice a L.length c) s u) => (by
    refine (Dr.times_any _ L k u (hv.q h.2.2.2.2.2.2.2.2.2.2.2) (by omega) hd hk).mono ?_
    rintro e w' ⟨x, rfl, ho, hq⟩
    obtain ⟨xa, xc, rfl⟩ := ho.shape
    exact ⟨xa, xc, rfl, ho.lst, h.q hq⟩ : Calls Try.prog 79 #[.slice a L.length c, .int .i64 k] u fun e w' => ∃ xa xc, e = .returned (.slice xa (Dm.dg (Dm.num L * k)).length xc) ∧ Lst w' (.slice xa (Dm.dg (Dm.num L * k)).length xc) (Dm.dg (Dm.num L * k)) ∧ SD w g (.slice a L.length c) s w'))
  have hdl : (Dm.dg (Dm.num L * k)).length ≤ L.length + 4 := by
    refine Dm.dg_len_lt _ _ ?_
    have h1 := Dm.num_lt L hd
    have h2 : Dm.num L * k < 10 ^ L.length * 10 ^ 4 := by
      have h3 : Dm.num L * k ≤ Dm.num L * 1000 := Nat.mul_le_mul_left _ hk
      omega
    rwa [← Nat.pow_add] at h2
  have R := Lib.hid (fun u xa xc (hx : Lst u (.slice xa (Dm.dg (Dm.num L * k)).length xc) (Dm.dg (Dm.num L * k))) (h : SD w g (.slice a L.length c) s u) => (by
    have e := trim_any (!g) _ s (Dm.dg (Dm.num L * k)) u hx (by omega) (Dm.okD_dg _) (by omega)
    rw [Dm.num_dg] at e
    refine e.mono ?_
    rintro e w' ⟨x, rfl, ho, hq⟩
    obtain ⟨ya, yc, rfl⟩ := ho.shape
    exact ⟨ya, yc, rfl, ho.mono (by have := h.room; omega), h.q hq⟩ : Calls Try.prog 51 #[.agg #[.bool (!g), .slice xa (Dm.dg (Dm.num L * k)).length xc, .int .i64 s]] u fun e w' => ∃ ya yc, e = .returned (.agg #[.bool (Dm.cg (!g) (Dm.num L * k)), .slice ya (Dm.dg (Dm.st (Dm.num L * k) s).1).length yc, .int .i64 ((Dm.st (Dm.num L * k) s).2 : Nat)]) ∧ LF w' (w.heap.size + 2) (.slice ya (Dm.dg (Dm.st (Dm.num L * k) s).1).length yc) (Dm.dg (Dm.st (Dm.num L * k) s).1) ∧ SD w g (.slice a L.length c) s w'))
  have HS := Lib.hid (SD.start w g (.slice a L.length c) s)
  generalize Dm.cg (!g) (Dm.num L * k) = cs at *
  generalize Dm.dg (Dm.st (Dm.num L * k) s).1 = Z at *
  generalize (Dm.st (Dm.num L * k) s).2 = zs at *
  generalize Dm.dg (Dm.num L * k) = Y at *
  generalize L.length = n at *
  generalize Y.length = p at *
  generalize Z.length = r at *
  have PUT := Lib.hid (fun u (h : SD w g (.slice a n c) s u) x y z => h.put x y z)
  clear hv hok hdl
  go_enter Try.func47, Try.ntmps47
  unfold dv
  go_wp2_with fail
  refine (M.out _ HS.out).mono ?_
  rintro e w1 ⟨rfl, hS⟩
  have HS1 := Lib.hid hS
  clear hS
  go_wp2_with fail
  have hwr : IntKind.i64.wrap (k : Int) = (k : Int) := wrapI (by omega) (by omega)
  have hst := HS1.out.q ((Q.refl _).drew)
  have hst0 := HS1.out
  unfold SD at hst hst0
  go_region_held3 (fun u => u.cell? ⟨w.heap.size, 0, none⟩ = some (.bool g) ∧ (u.cell? ⟨w.heap.size, 1, none⟩ = some (.slice a n c) ∧ (u.cell? ⟨w.heap.size, 2, none⟩ = some (.int .i64 s) ∧ (u.cell? ⟨w.heap.size + 1, 0, none⟩ = some (cellV (w.heap.size + 1) 0 u) ∧ (u.cell? ⟨w.heap.size + 1, 1, none⟩ = some (cellV (w.heap.size + 1) 1 u) ∧ (u.cell? ⟨w.heap.size + 1, 2, none⟩ = some (cellV (w.heap.size + 1) 2 u) ∧ (u.frozen? ⟨w.heap.size + 1, 0, none⟩ = false ∧ (u.frozen? ⟨w.heap.size + 1, 1, none⟩ = false ∧ (u.frozen? ⟨w.heap.size + 1, 2, none⟩ = false ∧ (u.heap[w.heap.size]? = some (.cells #[.bool g, .slice a n c, .int .i64 s] 24) ∧ ((∃ x y z, u.heap[w.heap.size + 1]? = some (.cells #[x, y, z] 24)) ∧ Q w u))))))))))) (first | exact hst | exact hst0 | assumption | exact (PUT.out _ (by assumption) _ _ _).1) (first | (go_at_call 79; refine (T.out _ ?_).mono ?_; assumption; rintro e w2 ⟨xa, xc, rfl, hlst, hS⟩; unfold SD at hS) | (go_at_call 51; refine (R.out _ _ _ ?_ ?_).mono ?_; assumption; assumption; rintro e w3 ⟨ya, yc, rfl, hlf, hS3⟩; unfold SD at hS3))
  have hfin := PUT.out w3 hS3 (.bool cs) (.slice ya r yc) (.int .i64 zs)
  have hlf2 := hlf.put (r := w.heap.size + 1) (Nat.lt_succ_self _) (.bool cs) (.slice ya r yc) (.int .i64 zs)
  have hqf : Q w _ := hfin.1.2.2.2.2.2.2.2.2.2.2.2
  have HF := Lib.hid hfin.2
  have HO := Lib.hid hlf2
  have HQ := Lib.hid hqf
  clear hfin hlf2 hqf hst hst0 hlf
  go_wp2_with fail
  exact ret_dv2 rfl rfl rfl HF.out rfl ⟨_, rfl, HO.out, HQ.out⟩
end Er
end Go.Proofs.Yteljedefbomlgaa
