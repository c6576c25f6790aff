/- The document's own config: what is out of bounds, what fits. (and more) -/
import Derived.Test.YteljedefbomlgaaR00
import Derived.Test.YteljedefbomlgaaR02
import Derived.Test.YteljedefbomlgaaR26
import Derived.Test.YteljedefbomlgaaR12
import Derived.Test.YteljedefbomlgaaR16
import Derived.Test.YteljedefbomlgaaR01
import Derived.Test.YteljedefbomlgaaR08
import Derived.Test.YteljedefbomlgaaR10
import Derived.Test.YteljedefbomlgaaR06
import Derived.Test.YteljedefbomlgaaR03
import Derived.Test.YteljedefbomlgaaR05
import Derived.Test.YteljedefbomlgaaRows
import Derived.Test.YteljedefbomlgaaR14
import Derived.Test.YteljedefbomlgaaR23
import Derived.Deep.Cut
set_option linter.unusedVariables false
set_option linter.unusedSimpArgs false
namespace Go.Proofs.Yteljedefbomlgaa
open Go.RowKit
namespace Kr
open Er (dv LF LF.of LF.nil LF.mono LF.q LF.put LF.shape LF.lst)
theorem out_any (n a b : Int) (w : World) : Calls Try.prog 63 #[.int .i64 n, .int .i64 a, .int .i64 b] w fun e w' => e = .returned (.bool (!(decide (a ≤ n) && decide (n ≤ b)))) ∧ w = w' := by
  by_cases h1 : a ≤ n
  · have h1n : ¬ n < a := by omega
    by_cases h2 : n ≤ b
    · have h2n : ¬ b < n := by omega
      rw [show (!(decide (a ≤ n) && decide (n ≤ b))) = false by rw [decide_eq_true h1, decide_eq_true h2]; rfl]
      go_enter Try.func63, Try.ntmps63
      go_wp2_with fail
      go_ret
      exact ⟨rfl, rfl⟩
    · have h2n : b < n := by omega
      rw [show (!(decide (a ≤ n) && decide (n ≤ b))) = true by rw [decide_eq_true h1, decide_eq_false h2]; rfl]
      go_enter Try.func63, Try.ntmps63
      go_wp2_with fail
      go_ret
      exact ⟨rfl, rfl⟩
  · have h1n : n < a := by omega
    rw [show (!(decide (a ≤ n) && decide (n ≤ b))) = true by rw [decide_eq_false h1]; rfl]
    go_enter Try.func63, Try.ntmps63
    go_wp2_with fail
    go_ret
    exact ⟨rfl, rfl⟩
theorem st_fst_le (M s : Nat) : (Dm.st M s).1 ≤ M := by
  have h1 := Dm.st_num M s
  have h2 : 0 < 10 ^ (s - (Dm.st M s).2) := Nat.pow_pos (by omega)
  calc (Dm.st M s).1 = (Dm.st M s).1 * 1 := by rw [Nat.mul_one]
    _ ≤ (Dm.st M s).1 * 10 ^ (s - (Dm.st M s).2) := Nat.mul_le_mul_left _ h2
    _ = M := h1
set_option maxRecDepth 100000 in
set_option maxHeartbeats 2000000 in
theorem fits_any (n0 n1 n2 n3 n4 n5 n6 : Int) (g : Bool) (v : Value) (s : Nat) (L : List Int) (w : World) (hv : Lst w v L) (hl : L.length < 1900) (hd : Dm.okD L) (hs : s ≤ 1000) :
    Calls Try.prog 25 #[.agg #[.int .i64 n0, .int .i64 n1, .int .i64 n2, .int .i64 n3, .int .i64 n4, .int .i64 n5, .int .i64 n6], dv g v s] w fun e w' => e = .returned (.bool (Km.fit n0 n2 (Dm.num L) s)) ∧ Q w w' := by
  have HT := Lib.hid (fun u (q : Q w u) => Er.trim_sh g v s L u (hv.q q) (by omega) hd (by omega))
  have hlen := Nat.le_trans (Dm.dg_len_le _ _ (st_fst_le (Dm.num L) s)) (Dm.dg_len L hd)
  have hsc := Dm.st_le (Dm.num L) s
  have hz2 := Dm.okD_dg (Dm.st (Dm.num L) s).1
  have HP := Lib.hid (fun a c u (h : Lst u (.slice a (Dm.dg (Dm.st (Dm.num L) s).1).length c) (Dm.dg (Dm.st (Dm.num L) s).1)) => Er.parts_any (Dm.cg g (Dm.num L)) _ (Dm.st (Dm.num L) s).2 _ u h (by omega) hz2 (by omega))
  have hbl := Km.bhd_len (Dm.dg (Dm.st (Dm.num L) s).1) (Dm.st (Dm.num L) s).2
  have hfit : Km.fit n0 n2 (Dm.num L) s = (decide ((Km.ah (Dm.dg (Dm.st (Dm.num L) s).1) (Dm.st (Dm.num L) s).2 : Int) ≤ n0) && decide (((Dm.st (Dm.num L) s).2 : Int) ≤ n2)) := rfl
  have hah : (Dm.dg (Dm.num ((List.replicate ((Dm.st (Dm.num L) s).2 - (Dm.dg (Dm.st (Dm.num L) s).1).length) 0 ++ Dm.dg (Dm.st (Dm.num L) s).1).take ((Dm.dg (Dm.st (Dm.num L) s).1).length - (Dm.st (Dm.num L) s).2)))).length = Km.ah (Dm.dg (Dm.st (Dm.num L) s).1) (Dm.st (Dm.num L) s).2 := rfl
  rw [hfit]
  clear hfit hlen hsc hz2
  unfold dv at HP ⊢
  generalize Dm.cg g (Dm.num L) = gt at *
  generalize Dm.st (Dm.num L) s = ST at *
  obtain ⟨M, q⟩ := ST
  simp only at HT HP hbl hah ⊢
  generalize Dm.dg M = Z at *
  generalize (List.replicate (q - Z.length) 0 ++ Z).drop (Z.length - q) = Y at *
  generalize Dm.dg (Dm.num ((List.replicate (q - Z.length) 0 ++ Z).take (Z.length - q))) = X at *
  generalize Km.ah Z q = ah at *
  generalize Z.length = zl at *
  obtain ⟨B, hB⟩ : ∃ B, B = (decide ((ah : Int) ≤ n0) && decide ((q : Int) ≤ n2)) := ⟨_, rfl⟩
  rw [← hB]
  have HB := Lib.hid hB
  clear hB
  have HX := Lib.hid hah
  have HY := Lib.hid hbl
  obtain ⟨a, c, rfl⟩ := hv.shape
  generalize L.length = ll at *
  clear hv hd hs hl hah hbl
  obtain ⟨y, hy⟩ : ∃ y, y = w.alloc (.cells #[.int .i64 n0, .int .i64 n1, .int .i64 n2, .int .i64 n3, .int .i64 n4, .int .i64 n5, .int .i64 n6] 26) := ⟨_, rfl⟩
  have hQY : Q w y := by rw [hy]; exact (Q.refl w).alloc _
  have hbn : Bk y w.heap.size 26 [.int .i64 n0, .int .i64 n1, .int .i64 n2, .int .i64 n3, .int .i64 n4, .int .i64 n5, .int .i64 n6] := by rw [hy]; exact Bk.new _ _ _
  have hys : y.heap.size = w.heap.size + 1 := by rw [hy]; simp
  obtain ⟨z, hz⟩ : ∃ z, z = y.alloc (.cells #[.bool g, .slice a ll c, .int .i64 s] 24) := ⟨_, rfl⟩
  have HQZ := Lib.hid (show Q w z by rw [hz]; exact hQY.alloc _)
  have HN := Lib.hid (show Bk z w.heap.size 26 [.int .i64 n0, .int .i64 n1, .int .i64 n2, .int .i64 n3, .int .i64 n4, .int .i64 n5, .int .i64 n6] by rw [hz]; exact hbn.q ((Q.refl y).alloc _))
  have hbd : Bk z (w.heap.size + 1) 24 [.bool g, .slice a ll c, .int .i64 s] := by rw [hz, ← hys]; exact Bk.new _ _ _
  have d0 := hbd.cell 0 rfl
  have d1 := hbd.cell 1 rfl
  have d2 := hbd.cell 2 rfl
  go_enter Try.func25, Try.ntmps25
  go_upto_region 1 with fail
  first | rw [← hy, ← hz] | (rw [hy] at hz; rw [← hz])
  clear hQY hbn hz hy hys hbd
  go_wp2_with fail
  refine (HT.out _ HQZ.out).mono ?_
  rintro e w1 ⟨ta, tc, rfl, ht, hq1⟩
  have HTL := Lib.hid ht.lst
  have HQ1 := Lib.hid (HQZ.out.trans hq1)
  replace HN := Lib.hid (HN.out.q hq1)
  clear ht hq1 d0 d1 d2
  go_wp2_with fail
  refine (HP.out _ _ _ HTL.out).mono ?_
  rintro e w2 ⟨xv, yv, rfl, hx, hyy, hq2⟩
  have HQ2 := Lib.hid (HQ1.out.trans hq2)
  have hn := HN.out.q hq2
  have k0 := hn.cell 0 rfl
  have k2 := hn.cell 2 rfl
  obtain ⟨xa, xc, rfl, _, _⟩ := hx.form0 HX.out
  obtain ⟨ya, yc, rfl, _, _⟩ := hyy.form0 HY.out
  clear hn hx hyy hq2
  by_cases c1 : (ah : Int) ≤ n0
  · by_cases c2 : (q : Int) ≤ n2
    · go_wp2_with fail
      go_ret
      exact ⟨by rw [HB.out, decide_eq_true c1, decide_eq_true c2]; rfl, HQ2.out⟩
    · go_wp2_with fail
      go_ret
      exact ⟨by rw [HB.out, decide_eq_true c1, decide_eq_false (show ¬ ((q : Int) ≤ n2) by omega)]; first | rfl | (show Ending.returned (Value.bool (decide ((q : Int) ≤ n2))) = _; rw [decide_eq_false (show ¬ ((q : Int) ≤ n2) by omega)]; rfl), HQ2.out⟩
  · go_wp2_with fail
    go_ret
    exact ⟨by rw [HB.out, decide_eq_false (show ¬ ((ah : Int) ≤ n0) by omega)]; rfl, HQ2.out⟩
end Kr
end Go.Proofs.Yteljedefbomlgaa
namespace Go.Proofs.Yteljedefbomlgaa
open Go.RowKit
namespace Kr
theorem ret_rtt {fn : Func} {p x y : Tmp} {T : TypeId} (h : fn.results = #[.cell p T, .tmp x, .tmp y]) {R : Ending → World → Prop} {a : Act} {w : World} {g : Nat} {l : List Value} {u v : Value} {fs : _}
    (hu : Try.prog.underlying T = some (.struct fs)) (hi : (Try.prog.info? T).map (·.size) = some l.length)
    (hp : a.tmps.getD p undef = .pointer (some ⟨g, 0, none⟩)) (hx : a.tmps.getD x undef = u) (hy : a.tmps.getD y undef = v) (hg : Bk w g T l) (hdf : a.defers = []) (hR : R (.returned (.tuple #[.agg l.toArray, u, v])) w) : bodyPost Try.prog fn R .ret a w := by
  refine bodyPost_ret (v := .tuple #[.agg l.toArray, u, v]) ?_ hdf hR
  have h1 := run_loadVar_row w g T T l.toArray (0, 0) _ hg hu rfl (by simpa using hi)
  have hp' : a.tmps[p]?.getD undef = .pointer (some ⟨g, 0, none⟩) := by simpa using hp
  have hx' : a.tmps[x]?.getD undef = u := by simpa using hx
  have hy' : a.tmps[y]?.getD undef = v := by simpa using hy
  simp [results, h, hp', hx', hy', asAddr, Sem.run_bind, Result.andThen, h1]
theorem infoRu : (Try.prog.info? 44).map (·.size) = some 17 := by kernel_rfl
@[reducible] def rul0 : Value := .agg #[.bool false, .slice none 0 0, .int .i64 0, .bool false, .slice none 0 0, .int .i64 0, .bool false, .slice none 0 0, .int .i64 0, .bool false, .int .i64 0, .int .i64 0, .int .i64 0, .int .i64 0, .int .i64 0, .int .i64 0, .int .i64 0]
end Kr
end Go.Proofs.Yteljedefbomlgaa
namespace Go.Proofs.Yteljedefbomlgaa
namespace Km
theorem ah_le (L : List Int) (q : Nat) (hd : Dm.okD L) : ah L q ≤ L.length - q := by
  unfold ah
  have h0 : Dm.okD (List.replicate (q - L.length) 0 ++ L) := Dm.okD_append.2 ⟨fun d hd => by have := List.eq_of_mem_replicate hd; omega, hd⟩
  have h := Dm.dg_len ((List.replicate (q - L.length) 0 ++ L).take (L.length - q)) (Dm.okD_take h0 _)
  refine Nat.le_trans h ?_
  rw [List.length_take]; omega
theorem fit_ok (ic sc M s : Nat) (h : M < 10 ^ (ic + s)) (hs : s ≤ sc) : fit ic sc M s = true := by
  have h1 := Dm.st_le M s
  have h2 := Dm.st_num M s
  have h3 : (Dm.st M s).1 < 10 ^ (ic + (Dm.st M s).2) := by
    apply Nat.lt_of_mul_lt_mul_right (a := 10 ^ (s - (Dm.st M s).2))
    rw [h2, ← Nat.pow_add, show ic + (Dm.st M s).2 + (s - (Dm.st M s).2) = ic + s by omega]
    exact h
  have h4 := Dm.dg_len_lt _ _ h3
  have h5 := ah_le (Dm.dg (Dm.st M s).1) (Dm.st M s).2 (Dm.okD_dg _)
  unfold fit
  rw [decide_eq_true (by omega), decide_eq_true (by omega)]; rfl
def zv (d : De) (n : Nat) : Int := Ep.sv d.g (d.m * 10 ^ (n - d.s))
theorem cg_mul (g : Bool) (M k : Nat) : Dm.cg g (M * 10 ^ k) = Dm.cg g M := by
  unfold Dm.cg
  have hp : 0 < 10 ^ k := Nat.pow_pos (by omega)
  by_cases h : M = 0
  · subst h; simp
  · have : M * 10 ^ k ≠ 0 := Nat.mul_ne_zero h (by omega)
    rw [if_neg h, if_neg this]
theorem tr_at (d : De) (n : Nat) (h : d.s ≤ n) : tr d = tr ⟨d.g, d.m * 10 ^ (n - d.s), n⟩ := by
  have h1 := Dm.st_tens d.m d.s (n - d.s)
  rw [show d.s + (n - d.s) = n by omega] at h1
  unfold tr
  simp only [h1, cg_mul]
theorem tr_z {a b : De} {n : Nat} (ha : a.s ≤ n) (hb : b.s ≤ n) (h : zv a n = zv b n) : tr a = tr b := by
  rw [tr_at a n ha, tr_at b n hb]
  obtain ⟨h1, h2⟩ := Ep.sv_inj h
  unfold tr
  simp only
  rw [h2, h1]
theorem tr_s (d : De) : (tr d).s ≤ d.s := Dm.st_le _ _
theorem tr_tr (d : De) : tr (tr d) = tr d := by
  unfold tr
  simp only [Dm.st_trim, Dm.cg_st, Dm.cg_cg]
theorem sv_cg' (g : Bool) (m X : Nat) (h : m = 0 → X = 0) : Ep.sv (Dm.cg g m) X = Ep.sv g X := by
  unfold Dm.cg
  split
  · rename_i h0; rw [h h0]; unfold Ep.sv; split <;> simp
  · rfl
theorem zv_tr (d : De) (n : Nat) (h : d.s ≤ n) : zv (tr d) n = zv d n := by
  unfold zv tr
  simp only
  rw [Rm.st_scale d.m d.s n h, sv_cg' _ _ _ (fun h0 => by rw [h0, Nat.zero_mul])]
theorem cmp_z (a b : De) (n : Nat) (ha : a.s ≤ n) (hb : b.s ≤ n) : cmp a b = Dm.cmpZ (zv a n) (zv b n) := Ep.cmpD_at a.g a.m a.s b.g b.m b.s n ha hb
theorem zv_rnd (x : De) (n : Nat) (k : Int) (h : x.s ≤ n) : zv (rnd x n k) n = zv x n := by
  have h1 : (Dm.st x.m x.s).2 ≤ n := Nat.le_trans (Dm.st_le _ _) h
  have h2 : Rm.rk x.g (Dm.st x.m x.s).1 (Dm.st x.m x.s).2 n k = x.m * 10 ^ (n - x.s) := by
    unfold Rm.rk Rm.lo
    rw [if_pos h1, if_pos h1, Rm.st_scale x.m x.s n h]
  unfold zv rnd
  simp only [h2, Nat.sub_self, Nat.pow_zero, Nat.mul_one]
  exact Ep.sv_cg _ _
def clip (a b z : Int) : Int := if z < a then a else if b < z then b else z
theorem val_z (lo hi x : De) (n : Nat) (k : Int) (hl : lo.s ≤ n) (hh : hi.s ≤ n) : zv (val lo hi n k x) n = clip (zv lo n) (zv hi n) (zv (rnd x n k) n) ∧ (val lo hi n k x).s ≤ n ∧ tr (val lo hi n k x) = val lo hi n k x := by
  have hr : (rnd x n k).s ≤ n := Nat.le_refl n
  have c1 := cmp_z (rnd x n k) lo n hr hl
  have c2 := cmp_z (rnd x n k) hi n hr hh
  unfold val clp clip
  generalize rnd x n k = r at *
  rw [c1, c2]
  by_cases h1 : zv r n < zv lo n
  · rw [if_pos ((Dm.cmpZ_neg1 _ _).2 h1), if_pos h1]
    exact ⟨zv_tr _ _ hl, Nat.le_trans (tr_s _) hl, tr_tr _⟩
  · rw [if_neg (fun h => h1 ((Dm.cmpZ_neg1 _ _).1 h)), if_neg h1]
    by_cases h2 : zv hi n < zv r n
    · rw [if_pos ((Dm.cmpZ_pos _ _).2 h2), if_pos h2]
      exact ⟨zv_tr _ _ hh, Nat.le_trans (tr_s _) hh, tr_tr _⟩
    · rw [if_neg (fun h => h2 ((Dm.cmpZ_pos _ _).1 h)), if_neg h2]
      exact ⟨zv_tr _ _ hr, Nat.le_trans (tr_s _) hr, tr_tr _⟩
theorem clip_in (a b z : Int) (h : a ≤ b) : a ≤ clip a b z ∧ clip a b z ≤ b := by
  unfold clip
  by_cases h1 : z < a
  · rw [if_pos h1]; omega
  · rw [if_neg h1]
    by_cases h2 : b < z
    · rw [if_pos h2]; omega
    · rw [if_neg h2]; omega
theorem clip_id (a b z : Int) (h1 : a ≤ z) (h2 : z ≤ b) : clip a b z = z := by unfold clip; rw [if_neg (by omega), if_neg (by omega)]
theorem clip_mono (a b x y : Int) (h : a ≤ b) (hxy : x ≤ y) : clip a b x ≤ clip a b y := by unfold clip; split <;> split <;> (try split) <;> (try split) <;> omega
theorem val_again (lo hi x : De) (n : Nat) (k : Int) (hl : lo.s ≤ n) (hh : hi.s ≤ n) (h : zv lo n ≤ zv hi n) : val lo hi n k (val lo hi n k x) = val lo hi n k x := by
  obtain ⟨h1, h2, h3⟩ := val_z lo hi x n k hl hh
  obtain ⟨e1, e2, e3⟩ := val_z lo hi (val lo hi n k x) n k hl hh
  rw [zv_rnd _ _ _ h2, h1] at e1
  obtain ⟨c1, c2⟩ := clip_in (zv lo n) (zv hi n) (zv (rnd x n k) n) h
  rw [clip_id _ _ _ c1 c2, ← h1] at e1
  have := tr_z e2 h2 e1
  rwa [e3, h3] at this
theorem val_fit (lo hi x : De) (n ic : Nat) (k : Int) (hl : lo.s ≤ n) (hh : hi.s ≤ n) (h : zv lo n ≤ zv hi n) (bl : (zv lo n).natAbs < 10 ^ (ic + n)) (bh : (zv hi n).natAbs < 10 ^ (ic + n)) : fit ic n (val lo hi n k x).m (val lo hi n k x).s = true := by
  obtain ⟨h1, h2, h3⟩ := val_z lo hi x n k hl hh
  obtain ⟨c1, c2⟩ := clip_in (zv lo n) (zv hi n) (zv (rnd x n k) n) h
  rw [← h1] at c1 c2
  generalize val lo hi n k x = V at *
  refine fit_ok ic n V.m V.s ?_ h2
  have hz : V.m * 10 ^ (n - V.s) = (zv V n).natAbs := by unfold zv Ep.sv; split <;> omega
  apply Nat.lt_of_mul_lt_mul_right (a := 10 ^ (n - V.s))
  rw [hz, ← Nat.pow_add, show ic + V.s + (n - V.s) = ic + n by omega]
  omega
theorem val_low (lo hi x : De) (n : Nat) (k : Int) (hl : lo.s ≤ n) (hh : hi.s ≤ n) (h : zv lo n ≤ zv hi n) : 0 ≤ cmp (val lo hi n k x) lo ∧ cmp (val lo hi n k x) hi ≤ 0 := by
  obtain ⟨h1, h2, h3⟩ := val_z lo hi x n k hl hh
  obtain ⟨c1, c2⟩ := clip_in (zv lo n) (zv hi n) (zv (rnd x n k) n) h
  rw [← h1] at c1 c2
  rw [cmp_z _ lo n h2 hl, cmp_z _ hi n h2 hh]
  exact ⟨by have := Dm.cmpZ_neg1 (zv (val lo hi n k x) n) (zv lo n); have h4 := Dm.cmpZ_three (zv (val lo hi n k x) n) (zv lo n); omega, Rm.cmpZ_le.2 c2⟩
theorem val_row (lo hi x y : De) (n : Nat) (k : Int) (hl : lo.s ≤ n) (hh : hi.s ≤ n) (h : zv lo n ≤ zv hi n) (hxy : cmp x y ≤ 0) : cmp (val lo hi n k x) (val lo hi n k y) ≤ 0 := by
  obtain ⟨h1, h2, _⟩ := val_z lo hi x n k hl hh
  obtain ⟨e1, e2, _⟩ := val_z lo hi y n k hl hh
  rw [cmp_z _ _ n h2 e2, h1, e1]
  refine Rm.cmpZ_le.2 (clip_mono _ _ _ _ h ?_)
  have := Rm.rk_row x.g y.g x.m x.s y.m y.s n k hxy
  have c := cmp_z (rnd x n k) (rnd y n k) n (Nat.le_refl n) (Nat.le_refl n)
  unfold cmp rnd at c
  simp only at c
  rw [c] at this
  exact Rm.cmpZ_le.1 this
theorem val_lo (lo hi : De) (n : Nat) (k : Int) (hl : lo.s ≤ n) (hh : hi.s ≤ n) (h : zv lo n ≤ zv hi n) (ht : tr lo = lo) : val lo hi n k lo = lo := by
  obtain ⟨h1, h2, h3⟩ := val_z lo hi lo n k hl hh
  rw [zv_rnd _ _ _ hl, clip_id _ _ _ (Int.le_refl _) h] at h1
  have := tr_z h2 hl h1
  rwa [h3, ht] at this
theorem zv_le (a b : De) (n : Nat) (ha : a.s ≤ n) (hb : b.s ≤ n) (h : ¬ 0 < cmp a b) : zv a n ≤ zv b n := by
  rw [cmp_z a b n ha hb] at h
  exact Rm.cmpZ_le.1 (by omega)
theorem zv_abs (d : De) (n : Nat) : (zv d n).natAbs = d.m * 10 ^ (n - d.s) := by unfold zv Ep.sv; split <;> omega
theorem neg_cmp (g : Bool) (M s : Nat) : decide (Dm.cmpD (Dm.cg g M) (Dm.st M s).1 (Dm.st M s).2 false 0 0 < 0) = Dm.cg g M := by
  have h := cmp_z ⟨Dm.cg g M, (Dm.st M s).1, (Dm.st M s).2⟩ ⟨false, 0, 0⟩ (Dm.st M s).2 (Nat.le_refl _) (Nat.zero_le _)
  unfold cmp at h
  simp only at h
  rw [h]
  have hz : zv ⟨false, 0, 0⟩ (Dm.st M s).2 = 0 := by unfold zv Ep.sv; simp
  rw [hz]
  have hx : zv ⟨Dm.cg g M, (Dm.st M s).1, (Dm.st M s).2⟩ (Dm.st M s).2 = Ep.sv (Dm.cg g M) (Dm.st M s).1 := by unfold zv; simp
  rw [hx]
  by_cases h0 : M = 0
  · subst h0
    rw [Dm.st_zero]
    simp [Dm.cg, Ep.sv, Dm.cmpZ]
  · have hp := Dm.st_pos M s h0
    rw [Dm.cg_pos h0]
    cases g
    · exact decide_eq_false (fun h => by have := (Dm.cmpZ_neg1 _ _).1 h; unfold Ep.sv at this; simp at this; omega)
    · exact decide_eq_true ((Dm.cmpZ_neg1 _ _).2 (by unfold Ep.sv; simp; omega))
end Km
end Go.Proofs.Yteljedefbomlgaa
namespace Go.Proofs.Yteljedefbomlgaa
namespace Km
theorem val_len (lo hi x : De) (n k : Nat) (m : Int) (hl : lo.s ≤ n) (hh : hi.s ≤ n) (h : zv lo n ≤ zv hi n) (bl : (zv lo n).natAbs < 10 ^ k) (bh : (zv hi n).natAbs < 10 ^ k) : (Dm.dg (val lo hi n m x).m).length ≤ k ∧ (val lo hi n m x).s ≤ n := by
  obtain ⟨h1, h2, h3⟩ := val_z lo hi x n m hl hh
  obtain ⟨c1, c2⟩ := clip_in (zv lo n) (zv hi n) (zv (rnd x n m) n) h
  rw [← h1] at c1 c2
  generalize val lo hi n m x = V at *
  refine ⟨Dm.dg_len_lt _ _ ?_, h2⟩
  have hz := zv_abs V n
  have hp : 0 < 10 ^ (n - V.s) := Nat.pow_pos (by omega)
  have : V.m * 1 ≤ V.m * 10 ^ (n - V.s) := Nat.mul_le_mul_left _ hp
  omega
theorem fit_z (d : De) (n ic : Nat) (h : d.s ≤ n) (b : (zv d n).natAbs < 10 ^ (ic + n)) : fit ic n d.m d.s = true := by
  refine fit_ok ic n d.m d.s ?_ h
  apply Nat.lt_of_mul_lt_mul_right (a := 10 ^ (n - d.s))
  rw [← zv_abs, ← Nat.pow_add, show ic + d.s + (n - d.s) = ic + n by omega]
  exact b
end Km
end Go.Proofs.Yteljedefbomlgaa
