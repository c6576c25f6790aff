/- The document's own config: what is out of bounds, what fits. (and more) -/
import Derived.Test.YtagpofhencpliaaGreatDoorR00
import Derived.Test.YtagpofhencpliaaGreatDoorR04
import Derived.Test.YtagpofhencpliaaGreatDoorR21
import Derived.Test.YtagpofhencpliaaGreatDoorR14
import Derived.Test.YtagpofhencpliaaGreatDoorR19
import Derived.Test.YtagpofhencpliaaGreatDoorR02
import Derived.Test.YtagpofhencpliaaGreatDoorR10
import Derived.Test.YtagpofhencpliaaGreatDoorR13
import Derived.Test.YtagpofhencpliaaGreatDoorR09
import Derived.Test.YtagpofhencpliaaGreatDoorR05
import Derived.Test.YtagpofhencpliaaGreatDoorR08
import Derived.Test.YtagpofhencpliaaGreatDoorR03
import Derived.Test.YtagpofhencpliaaGreatDoorRows
import Derived.Deep.Cut
import Derived.Deep.CutRange
import Derived.Deep.CutBlock
import Derived.Deep.DeepCutAuto
import Derived.Deep.QuietTactic
import Derived.Deep.RegionWith
import Derived.Deep.RegionHeld3
import Derived.BigQuiet
import Derived.Laws.ResultCell
set_option linter.unusedVariables false
set_option linter.unusedSimpArgs false
namespace Go.Proofs.YtagpofhencpliaaGreatDoor
open Go.RowKit
namespace Kr
open Er (dv LF LF.of LF.nil LF.mono LF.q LF.put LF.shape LF.lst)
theorem out_any (n a b : Int) (w : World) : Calls Tryz.prog 27 #[.int .i64 n, .int .i64 a, .int .i64 b] w fun e w' => e = .returned (.bool (!(decide (a ≤ n) && decide (n ≤ b)))) ∧ w = w' := by
  by_cases h1 : a ≤ n
  · have h1n : ¬ n < a := by omega
    by_cases h2 : n ≤ b
    · have h2n : ¬ b < n := by omega
      rw [show (!(decide (a ≤ n) && decide (n ≤ b))) = false by rw [decide_eq_true h1, decide_eq_true h2]; rfl]
      go_enter Tryz.func27, Tryz.ntmps27
      go_wp2_with fail
      go_ret
      exact ⟨rfl, rfl⟩
    · have h2n : b < n := by omega
      rw [show (!(decide (a ≤ n) && decide (n ≤ b))) = true by rw [decide_eq_true h1, decide_eq_false h2]; rfl]
      go_enter Tryz.func27, Tryz.ntmps27
      go_wp2_with fail
      go_ret
      exact ⟨rfl, rfl⟩
  · have h1n : n < a := by omega
    rw [show (!(decide (a ≤ n) && decide (n ≤ b))) = true by rw [decide_eq_false h1]; rfl]
    go_enter Tryz.func27, Tryz.ntmps27
    go_wp2_with fail
    go_ret
    exact ⟨rfl, rfl⟩
theorem st_fst_le (M s : Nat) : (Dm.st M s).1 ≤ M := by
  have h1 := Dm.st_num M s
  have h2 : 0 < 10 ^ (s - (Dm.st M s).2) := Nat.pow_pos (by omega)
  calc (Dm.st M s).1 = (Dm.st M s).1 * 1 := by rw [Nat.mul_one]
    _ ≤ (Dm.st M s).1 * 10 ^ (s - (Dm.st M s).2) := Nat.mul_le_mul_left _ h2
    _ = M := h1
set_option maxRecDepth 100000 in
set_option maxHeartbeats 2000000 in
theorem fits_any (n0 n1 n2 n3 n4 n5 n6 : Int) (g : Bool) (v : Value) (s : Nat) (L : List Int) (w : World) (hv : Lst w v L) (hl : L.length < 1900) (hd : Dm.okD L) (hs : s ≤ 1000) :
    Calls Tryz.prog 29 #[.agg #[.int .i64 n0, .int .i64 n1, .int .i64 n2, .int .i64 n3, .int .i64 n4, .int .i64 n5, .int .i64 n6], dv g v s] w fun e w' => e = .returned (.bool (Km.fit n0 n2 (Dm.num L) s)) ∧ Q w w' := by
  have HT := Lib.hid (fun u (q : Q w u) => Er.trim_sh g v s L u (hv.q q) (by omega) hd (by omega))
  have hlen := Nat.le_trans (Dm.dg_len_le _ _ (st_fst_le (Dm.num L) s)) (Dm.dg_len L hd)
  have hsc := Dm.st_le (Dm.num L) s
  have hz2 := Dm.okD_dg (Dm.st (Dm.num L) s).1
  have HP := Lib.hid (fun a c u (h : Lst u (.slice a (Dm.dg (Dm.st (Dm.num L) s).1).length c) (Dm.dg (Dm.st (Dm.num L) s).1)) => Er.parts_any (Dm.cg g (Dm.num L)) _ (Dm.st (Dm.num L) s).2 _ u h (by omega) hz2 (by omega))
  have hbl := Km.bhd_len (Dm.dg (Dm.st (Dm.num L) s).1) (Dm.st (Dm.num L) s).2
  have hfit : Km.fit n0 n2 (Dm.num L) s = (decide ((Km.ah (Dm.dg (Dm.st (Dm.num L) s).1) (Dm.st (Dm.num L) s).2 : Int) ≤ n0) && decide (((Dm.st (Dm.num L) s).2 : Int) ≤ n2)) := rfl
  have hah : (Dm.dg (Dm.num ((List.replicate ((Dm.st (Dm.num L) s).2 - (Dm.dg (Dm.st (Dm.num L) s).1).length) 0 ++ Dm.dg (Dm.st (Dm.num L) s).1).take ((Dm.dg (Dm.st (Dm.num L) s).1).length - (Dm.st (Dm.num L) s).2)))).length = Km.ah (Dm.dg (Dm.st (Dm.num L) s).1) (Dm.st (Dm.num L) s).2 := rfl
  rw [hfit]
  clear hfit hlen hsc hz2
  unfold dv at HP ⊢
  generalize Dm.cg g (Dm.num L) = gt at *
  generalize Dm.st (Dm.num L) s = ST at *
  obtain ⟨M, q⟩ := ST
  simp only at HT HP hbl hah ⊢
  generalize Dm.dg M = Z at *
  generalize (List.replicate (q - Z.length) 0 ++ Z).drop (Z.length - q) = Y at *
  generalize Dm.dg (Dm.num ((List.replicate (q - Z.length) 0 ++ Z).take (Z.length - q))) = X at *
  generalize Km.ah Z q = ah at *
  generalize Z.length = zl at *
  obtain ⟨B, hB⟩ : ∃ B, B = (decide ((ah : Int) ≤ n0) && decide ((q : Int) ≤ n2)) := ⟨_, rfl⟩
  rw [← hB]
  have HB := Lib.hid hB
  clear hB
  have HX := Lib.hid hah
  have HY := Lib.hid hbl
  obtain ⟨a, c, rfl⟩ := hv.shape
  generalize L.length = ll at *
  clear hv hd hs hl hah hbl
  obtain ⟨y, hy⟩ : ∃ y, y = w.alloc (.cells #[.int .i64 n0, .int .i64 n1, .int .i64 n2, .int .i64 n3, .int .i64 n4, .int .i64 n5, .int .i64 n6] 23) := ⟨_, rfl⟩
  have hQY : Q w y := by rw [hy]; exact (Q.refl w).alloc _
  have hbn : Bk y w.heap.size 23 [.int .i64 n0, .int .i64 n1, .int .i64 n2, .int .i64 n3, .int .i64 n4, .int .i64 n5, .int .i64 n6] := by rw [hy]; exact Bk.new _ _ _
  have hys : y.heap.size = w.heap.size + 1 := by rw [hy]; simp
  obtain ⟨z, hz⟩ : ∃ z, z = y.alloc (.cells #[.bool g, .slice a ll c, .int .i64 s] 28) := ⟨_, rfl⟩
  have HQZ := Lib.hid (show Q w z by rw [hz]; exact hQY.alloc _)
  have HN := Lib.hid (show Bk z w.heap.size 23 [.int .i64 n0, .int .i64 n1, .int .i64 n2, .int .i64 n3, .int .i64 n4, .int .i64 n5, .int .i64 n6] by rw [hz]; exact hbn.q ((Q.refl y).alloc _))
  have hbd : Bk z (w.heap.size + 1) 28 [.bool g, .slice a ll c, .int .i64 s] := by rw [hz, ← hys]; exact Bk.new _ _ _
  have d0 := hbd.cell 0 rfl
  have d1 := hbd.cell 1 rfl
  have d2 := hbd.cell 2 rfl
  go_enter Tryz.func29, Tryz.ntmps29
  go_upto_region 1 with fail
  first | rw [← hy, ← hz] | (rw [hy] at hz; rw [← hz])
  clear hQY hbn hz hy hys hbd
  go_wp2_with fail
  refine (HT.out _ HQZ.out).mono ?_
  rintro e w1 ⟨ta, tc, rfl, ht, hq1⟩
  have HTL := Lib.hid ht.lst
  have HQ1 := Lib.hid (HQZ.out.trans hq1)
  replace HN := Lib.hid (HN.out.q hq1)
  clear ht hq1 d0 d1 d2
  go_wp2_with fail
  refine (HP.out _ _ _ HTL.out).mono ?_
  rintro e w2 ⟨xv, yv, rfl, hx, hyy, hq2⟩
  have HQ2 := Lib.hid (HQ1.out.trans hq2)
  have hn := HN.out.q hq2
  have k0 := hn.cell 0 rfl
  have k2 := hn.cell 2 rfl
  obtain ⟨xa, xc, rfl, _, _⟩ := hx.form0 HX.out
  obtain ⟨ya, yc, rfl, _, _⟩ := hyy.form0 HY.out
  clear hn hx hyy hq2
  by_cases c1 : (ah : Int) ≤ n0
  · by_cases c2 : (q : Int) ≤ n2
    · go_wp2_with fail
      go_ret
      exact ⟨by rw [HB.out, decide_eq_true c1, decide_eq_true c2]; rfl, HQ2.out⟩
    · go_wp2_with fail
      go_ret
      exact ⟨by rw [HB.out, decide_eq_true c1, decide_eq_false (show ¬ ((q : Int) ≤ n2) by omega)]; first | rfl | (show Ending.returned (Value.bool (decide ((q : Int) ≤ n2))) = _; rw [decide_eq_false (show ¬ ((q : Int) ≤ n2) by omega)]; rfl), HQ2.out⟩
  · go_wp2_with fail
    go_ret
    exact ⟨by rw [HB.out, decide_eq_false (show ¬ ((ah : Int) ≤ n0) by omega)]; rfl, HQ2.out⟩
end Kr
end Go.Proofs.YtagpofhencpliaaGreatDoor
namespace Go.Proofs.YtagpofhencpliaaGreatDoor
open Go.RowKit
namespace Rr
open Er (dv cellV LF LF.of LF.nil LF.mono LF.q LF.put LF.shape LF.lst block_cells some_cells block_set wrapI SD SD.q SD.put SD.start SA SA.start SA.q SA.put ret_dv ret_dv2 trim_sh)
theorem st_fst_le (M s : Nat) : (Dm.st M s).1 ≤ M := by
  have h1 := Dm.st_num M s
  have h2 : 0 < 10 ^ (s - (Dm.st M s).2) := Nat.pow_pos (by omega)
  calc (Dm.st M s).1 = (Dm.st M s).1 * 1 := by rw [Nat.mul_one]
    _ ≤ (Dm.st M s).1 * 10 ^ (s - (Dm.st M s).2) := Nat.mul_le_mul_left _ h2
    _ = M := h1
end Rr
end Go.Proofs.YtagpofhencpliaaGreatDoor
namespace Go.Proofs.YtagpofhencpliaaGreatDoor
open Go.RowKit
namespace Kr
theorem ret_rtt {fn : Func} {p x y : Tmp} {T : TypeId} (h : fn.results = #[.cell p T, .tmp x, .tmp y]) {R : Ending → World → Prop} {a : Act} {w : World} {g : Nat} {l : List Value} {u v : Value} {fs : _}
    (hu : Tryz.prog.underlying T = some (.struct fs)) (hi : (Tryz.prog.info? T).map (·.size) = some l.length)
    (hp : a.tmps.getD p undef = .pointer (some ⟨g, 0, none⟩)) (hx : a.tmps.getD x undef = u) (hy : a.tmps.getD y undef = v) (hg : Bk w g T l) (hdf : a.defers = []) (hR : R (.returned (.tuple #[.agg l.toArray, u, v])) w) : bodyPost Tryz.prog fn R .ret a w := by
  refine bodyPost_ret (v := .tuple #[.agg l.toArray, u, v]) ?_ hdf hR
  have h1 := run_loadVar_row w g T T l.toArray (0, 0) _ hg hu rfl (by simpa using hi)
  have hp' : a.tmps[p]?.getD undef = .pointer (some ⟨g, 0, none⟩) := by simpa using hp
  have hx' : a.tmps[x]?.getD undef = u := by simpa using hx
  have hy' : a.tmps[y]?.getD undef = v := by simpa using hy
  simp [results, h, hp', hx', hy', asAddr, Sem.run_bind, Result.andThen, h1]
theorem infoRu : (Tryz.prog.info? 48).map (·.size) = some 17 := by kernel_rfl
@[reducible] def rul0 : Value := .agg #[.bool false, .slice none 0 0, .int .i64 0, .bool false, .slice none 0 0, .int .i64 0, .bool false, .slice none 0 0, .int .i64 0, .bool false, .int .i64 0, .int .i64 0, .int .i64 0, .int .i64 0, .int .i64 0, .int .i64 0, .int .i64 0]
end Kr
end Go.Proofs.YtagpofhencpliaaGreatDoor
namespace Go.Proofs.YtagpofhencpliaaGreatDoor
namespace Km
def zv (d : De) (n : Nat) : Int := Ep.sv d.g (d.m * 10 ^ (n - d.s))
theorem tr_s (d : De) : (tr d).s ≤ d.s := Dm.st_le _ _
theorem sv_cg' (g : Bool) (m X : Nat) (h : m = 0 → X = 0) : Ep.sv (Dm.cg g m) X = Ep.sv g X := by
  unfold Dm.cg
  split
  · rename_i h0; rw [h h0]; unfold Ep.sv; split <;> simp
  · rfl
theorem zv_tr (d : De) (n : Nat) (h : d.s ≤ n) : zv (tr d) n = zv d n := by
  unfold zv tr
  simp only
  rw [Rm.st_scale d.m d.s n h, sv_cg' _ _ _ (fun h0 => by rw [h0, Nat.zero_mul])]
theorem cmp_z (a b : De) (n : Nat) (ha : a.s ≤ n) (hb : b.s ≤ n) : cmp a b = Dm.cmpZ (zv a n) (zv b n) := Ep.cmpD_at a.g a.m a.s b.g b.m b.s n ha hb
theorem zv_le (a b : De) (n : Nat) (ha : a.s ≤ n) (hb : b.s ≤ n) (h : ¬ 0 < cmp a b) : zv a n ≤ zv b n := by
  rw [cmp_z a b n ha hb] at h
  exact Rm.cmpZ_le.1 (by omega)
theorem neg_cmp (g : Bool) (M s : Nat) : decide (Dm.cmpD (Dm.cg g M) (Dm.st M s).1 (Dm.st M s).2 false 0 0 < 0) = Dm.cg g M := by
  have h := cmp_z ⟨Dm.cg g M, (Dm.st M s).1, (Dm.st M s).2⟩ ⟨false, 0, 0⟩ (Dm.st M s).2 (Nat.le_refl _) (Nat.zero_le _)
  unfold cmp at h
  simp only at h
  rw [h]
  have hz : zv ⟨false, 0, 0⟩ (Dm.st M s).2 = 0 := by unfold zv Ep.sv; simp
  rw [hz]
  have hx : zv ⟨Dm.cg g M, (Dm.st M s).1, (Dm.st M s).2⟩ (Dm.st M s).2 = Ep.sv (Dm.cg g M) (Dm.st M s).1 := by unfold zv; simp
  rw [hx]
  by_cases h0 : M = 0
  · subst h0
    rw [Dm.st_zero]
    simp [Dm.cg, Ep.sv, Dm.cmpZ]
  · have hp := Dm.st_pos M s h0
    rw [Dm.cg_pos h0]
    cases g
    · exact decide_eq_false (fun h => by have := (Dm.cmpZ_neg1 _ _).1 h; unfold Ep.sv at this; simp at this; omega)
    · exact decide_eq_true ((Dm.cmpZ_neg1 _ _).2 (by unfold Ep.sv; simp; omega))
end Km
end Go.Proofs.YtagpofhencpliaaGreatDoor
