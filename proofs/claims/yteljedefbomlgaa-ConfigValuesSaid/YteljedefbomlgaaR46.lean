/- What the statements on configurations call: copies of decimals and configurations, the program's Fits, values and moves in the form that is asked for. (and more) -/
import Derived.Test.YteljedefbomlgaaR00
import Derived.Test.YteljedefbomlgaaR02
import Derived.Test.YteljedefbomlgaaR27
import Derived.Test.YteljedefbomlgaaR26
import Derived.Test.YteljedefbomlgaaR37
import Derived.Test.YteljedefbomlgaaR39
import Derived.Test.YteljedefbomlgaaR38
import Derived.Test.YteljedefbomlgaaR12
import Derived.Test.YteljedefbomlgaaR01
import Derived.Test.YteljedefbomlgaaR13
import Derived.Test.YteljedefbomlgaaR08
import Derived.Test.YteljedefbomlgaaR10
import Derived.Test.YteljedefbomlgaaR03
import Derived.Test.YteljedefbomlgaaR32
import Derived.Test.YteljedefbomlgaaR41
import Derived.Test.YteljedefbomlgaaR44
import Derived.Test.YteljedefbomlgaaRows
import Derived.Deep.Cut
set_option linter.unusedVariables false
set_option linter.unusedSimpArgs false
namespace Go.Proofs.Yteljedefbomlgaa
open Go.RowKit
namespace Kl
open Er (dv LF)
open Kr (rul)
theorem as_q (g : Bool) (a : Option Addr) (n c : Nat) (s : Int) (u : World) : Calls Try.prog 18 #[.agg #[.bool g, .slice a n c, .int .i64 s]] u fun e w' => e = .returned (.agg #[.bool g, .slice a n c, .int .i64 s]) ∧ Q u w' := by
  go_enter Try.func18, Try.ntmps18
  go_wp2_with fail
  refine Er.ret_dv rfl rfl (heap_alloc2_new _ _ _) rfl ⟨rfl, ((Q.refl u).alloc _).alloc _⟩
theorem dec_q (g : Bool) (a : Option Addr) (n c : Nat) (s : Int) (u : World) : Calls Try.prog 15 #[.agg #[.bool g, .slice a n c, .int .i64 s]] u fun e w' => e = .returned (.agg #[.bool g, .slice a n c, .int .i64 s]) ∧ Q u w' := by
  go_enter Try.func15, Try.ntmps15
  go_wp2_with fail
  refine Ep.ret_dv rfl rfl (heap_alloc2_new _ _ _) rfl ⟨rfl, ((Q.refl u).alloc _).alloc _⟩
theorem infoCC : (Try.prog.info? 38).map (·.size) = some 10 := by kernel_rfl
theorem of_q (t0 t1 t2 : ByteArray) (i0 i1 i2 i3 i4 i5 i6 : Int) (u : World) : Calls Try.prog 9 #[.agg #[.string t0, .string t1, .string t2, .int .i64 i0, .int .i64 i1, .int .i64 i2, .int .i64 i3, .int .i64 i4, .int .i64 i5, .int .i64 i6]] u fun e w' => e = .returned (.agg #[.string t0, .string t1, .string t2, .int .i64 i0, .int .i64 i1, .int .i64 i2, .int .i64 i3, .int .i64 i4, .int .i64 i5, .int .i64 i6]) ∧ Q u w' := by
  have hQ := (((Q.refl u).alloc (.cells #[.string t0, .string t1, .string t2, .int .i64 i0, .int .i64 i1, .int .i64 i2, .int .i64 i3, .int .i64 i4, .int .i64 i5, .int .i64 i6] 41)).alloc (.cells #[.string t0, .string t1, .string t2, .int .i64 i0, .int .i64 i1, .int .i64 i2, .int .i64 i3, .int .i64 i4, .int .i64 i5, .int .i64 i6] 38))
  have hb : Bk ((u.alloc (.cells #[.string t0, .string t1, .string t2, .int .i64 i0, .int .i64 i1, .int .i64 i2, .int .i64 i3, .int .i64 i4, .int .i64 i5, .int .i64 i6] 41)).alloc (.cells #[.string t0, .string t1, .string t2, .int .i64 i0, .int .i64 i1, .int .i64 i2, .int .i64 i3, .int .i64 i4, .int .i64 i5, .int .i64 i6] 38)) (u.heap.size + 1) 38 [.string t0, .string t1, .string t2, .int .i64 i0, .int .i64 i1, .int .i64 i2, .int .i64 i3, .int .i64 i4, .int .i64 i5, .int .i64 i6] := by
    rw [show u.heap.size + 1 = (u.alloc (.cells #[.string t0, .string t1, .string t2, .int .i64 i0, .int .i64 i1, .int .i64 i2, .int .i64 i3, .int .i64 i4, .int .i64 i5, .int .i64 i6] 41)).heap.size by simp]
    exact Bk.new _ _ _
  have HQ := Lib.hid hQ
  have HB := Lib.hid hb
  clear hQ hb
  go_enter Try.func9, Try.ntmps9
  go_wp2_with fail
  exact ret_bk (l := [.string t0, .string t1, .string t2, .int .i64 i0, .int .i64 i1, .int .i64 i2, .int .i64 i3, .int .i64 i4, .int .i64 i5, .int .i64 i6]) rfl Try.underlying38 (by exact infoCC) rfl HB.out rfl ⟨rfl, HQ.out⟩
theorem same_q (g : Bool) (a b : Option Addr) (n c d : Nat) (s : Int) (X : List Int) (u : World) (h1 : Lst u (.slice a n c) X) (h2 : Lst u (.slice b n d) X) (hl : X.length < 1000000) : Calls Try.prog 17 #[.agg #[.bool g, .slice a n c, .int .i64 s], .agg #[.bool g, .slice b n d, .int .i64 s]] u fun e w' => e = .returned (.bool true) ∧ Q u w' := Er.same_eq g _ _ s X u h1 h2 hl
set_option maxRecDepth 100000 in
set_option maxHeartbeats 4000000 in
theorem fits_all (g1 g2 g3 sg g : Bool) (v1 v2 v3 : Value) (a : Option Addr) (x c : Nat) (s1 s2 s3 i0 i1 i2 i3 i4 i5 i6 s : Int) (X : List Int) (w : World) (hv : Lst w (.slice a x c) X) (hl : X.length < 1900) (hs : -9223372036854775808 ≤ s ∧ s ≤ 9223372036854775807) (b : Bool) (hb : (Dm.okB X && decide (0 ≤ s) && decide (s ≤ 1000)) = b) (r : Bool) (hr : r = (b && Km.fit i0 i2 (Dm.num X) s.toNat)) :
    Calls Try.prog 19 #[.agg #[.bool g1, v1, .int .i64 s1, .bool g2, v2, .int .i64 s2, .bool g3, v3, .int .i64 s3, .bool sg, .int .i64 i0, .int .i64 i1, .int .i64 i2, .int .i64 i3, .int .i64 i4, .int .i64 i5, .int .i64 i6], .agg #[.bool g, .slice a x c, .int .i64 s]] w fun e w' => e = .returned (.bool r) ∧ Q w w' := by
  have HM := Lib.hid (fun u (q : Q w u) => Ep.may_any g (.slice a x c) s X u (hv.q q) (by omega) hs)
  rw [hb] at HM
  have HF := Lib.hid (show b = true → ∀ u, Q w u → Calls Try.prog 30 #[.agg #[.int .i64 i0, .int .i64 i1, .int .i64 i2, .int .i64 i3, .int .i64 i4, .int .i64 i5, .int .i64 i6], .agg #[.bool g, .slice a x c, .int .i64 s]] u fun e w' => e = .returned (.bool r) ∧ Q u w' from fun hbt u q => by
    rw [hbt] at hb
    simp only [Bool.and_eq_true, decide_eq_true_eq] at hb
    have h := Kp.fits_any i0 i1 i2 i3 i4 i5 i6 g (.slice a x c) s.toNat X u (hv.q q) hl ((Dm.okB_iff X).1 hb.1.1) (by omega)
    rw [show ((s.toNat : Nat) : Int) = s by omega] at h
    rw [hr, hbt]
    exact h)
  have HR := Lib.hid hr
  clear hv hl hs hb hr
  unfold dv at HM
  obtain ⟨y1, hy1⟩ : ∃ y, y = w.alloc (.cells #[.bool g1, v1, .int .i64 s1, .bool g2, v2, .int .i64 s2, .bool g3, v3, .int .i64 s3, .bool sg, .int .i64 i0, .int .i64 i1, .int .i64 i2, .int .i64 i3, .int .i64 i4, .int .i64 i5, .int .i64 i6] 32) := ⟨_, rfl⟩
  have hQ1 : Q w y1 := by rw [hy1]; exact (Q.refl w).alloc _
  have hb1 : Bk y1 w.heap.size 32 [.bool g1, v1, .int .i64 s1, .bool g2, v2, .int .i64 s2, .bool g3, v3, .int .i64 s3, .bool sg, .int .i64 i0, .int .i64 i1, .int .i64 i2, .int .i64 i3, .int .i64 i4, .int .i64 i5, .int .i64 i6] := by rw [hy1]; exact Bk.new _ _ _
  have hs1 : y1.heap.size = w.heap.size + 1 := by rw [hy1]; simp
  obtain ⟨z, hz⟩ : ∃ y, y = y1.alloc (.cells #[.bool g, .slice a x c, .int .i64 s] 29) := ⟨_, rfl⟩
  have hq2 : Q y1 z := by rw [hz]; exact (Q.refl y1).alloc _
  have hd : Bk z (w.heap.size + 1) 29 [.bool g, .slice a x c, .int .i64 s] := by rw [hz, ← hs1]; exact Bk.new _ _ _
  have HQZ := Lib.hid (show Q w z from hQ1.trans hq2)
  have HD := Lib.hid hd
  have HRB := Lib.hid (hb1.q hq2)
  have d0 := hd.cell 0 rfl
  have d1 := hd.cell 1 rfl
  have d2 := hd.cell 2 rfl
  go_enter Try.func19, Try.ntmps19
  go_upto_region 1 with fail
  first | rw [← hy1, ← hz] | (rw [hy1] at hz; rw [← hz])
  clear hQ1 hb1 hy1 hs1 hq2 hz hd
  go_wp2_with fail
  refine (HM.out _ HQZ.out).mono ?_
  rintro e w1 ⟨rfl, hq1⟩
  have HQ1 := Lib.hid (HQZ.out.trans hq1)
  clear d0 d1 d2
  cases b
  · go_wp2_with fail
    go_ret
    exact ⟨by rw [HR.out]; rfl, HQ1.out⟩
  · have hd := HD.out.q hq1
    have hr := HRB.out.q hq1
    have d0 := hd.cell 0 rfl
    have d1 := hd.cell 1 rfl
    have d2 := hd.cell 2 rfl
    have r10 := hr.cell 10 rfl
    have r11 := hr.cell 11 rfl
    have r12 := hr.cell 12 rfl
    have r13 := hr.cell 13 rfl
    have r14 := hr.cell 14 rfl
    have r15 := hr.cell 15 rfl
    have r16 := hr.cell 16 rfl
    clear hd hr hq1
    go_wp2_with fail
    refine (HF.out (by first | rfl | trivial) _ HQ1.out).mono ?_
    rintro e w2 ⟨rfl, hq2⟩
    have HQ2 := Lib.hid (HQ1.out.trans hq2)
    clear hq2
    go_wp2_with fail
    go_ret
    exact ⟨rfl, HQ2.out⟩
theorem p_val (lo hi st : Km.De) (sg g : Bool) (a1 a2 a3 a : Option Addr) (k1 k2 k3 c1 c2 c3 c x : Nat) (s n m : Nat) (i0 i1 i3 i4 i6 : Int) (X : List Int) (w : World) (h1 : Lst w (.slice a1 k1 c1) (Dm.dg lo.m)) (h2 : Lst w (.slice a2 k2 c2) (Dm.dg hi.m)) (hv : Lst w (.slice a x c) X)
    (hl1 : (Dm.dg lo.m).length < 10000) (hl2 : (Dm.dg hi.m).length < 10000) (hl : X.length < 1900) (hd : Dm.okD X) (hs1 : lo.s ≤ 1000) (hs2 : hi.s ≤ 1000) (hs : s ≤ 1000) (hn : n ≤ 1000) (hm : m ≤ 6) (hk : ¬ 0 < Km.cmp lo hi) (V : Km.De) (hV : V = Km.val lo hi n m ⟨g, Dm.num X, s⟩) (vl : Nat) (hvl : (Dm.dg V.m).length = vl) :
    Calls Try.prog 14 #[.agg #[.bool lo.g, .slice a1 k1 c1, .int .i64 (lo.s : Nat), .bool hi.g, .slice a2 k2 c2, .int .i64 (hi.s : Nat), .bool st.g, .slice a3 k3 c3, .int .i64 (st.s : Nat), .bool sg, .int .i64 i0, .int .i64 i1, .int .i64 n, .int .i64 i3, .int .i64 i4, .int .i64 m, .int .i64 i6], .agg #[.bool g, .slice a x c, .int .i64 s]] w fun e w' => ∃ ua uc, e = .returned (.tuple #[.agg #[.bool V.g, .slice ua vl uc, .int .i64 (V.s : Nat)], .int .i64 0]) ∧ LF w' w.heap.size (.slice ua vl uc) (Dm.dg V.m) ∧ Q w w' := by
  refine (Kp.value_any lo.g hi.g st.g sg g (.slice a1 k1 c1) (.slice a2 k2 c2) (.slice a3 k3 c3) (.slice a x c) lo.s hi.s s n st.s i0 i1 i3 i4 m i6 (Dm.dg lo.m) (Dm.dg hi.m) X w h1 h2 hv hl1 hl2 hl (Dm.okD_dg _) (Dm.okD_dg _) hd hs1 hs2 hs hn (by omega) (by rw [Dm.num_dg, Dm.num_dg]; exact hk) V (by rw [Dm.num_dg, Dm.num_dg]; exact hV)).mono ?_
  rintro e w' ⟨u, rfl, hu, hq⟩
  obtain ⟨ua, uc, rfl⟩ := hu.shape
  rw [hvl] at hu ⊢
  exact ⟨ua, uc, rfl, hu, hq⟩
theorem p_mov (lo hi st : Km.De) (sg g : Bool) (a1 a2 a3 a : Option Addr) (k1 k2 k3 c1 c2 c3 c x : Nat) (s n m : Nat) (i0 i1 i3 i4 i6 k : Int) (X : List Int) (w : World) (h1 : Lst w (.slice a1 k1 c1) (Dm.dg lo.m)) (h2 : Lst w (.slice a2 k2 c2) (Dm.dg hi.m)) (h3 : Lst w (.slice a3 k3 c3) (Dm.dg st.m)) (hv : Lst w (.slice a x c) X)
    (hl1 : (Dm.dg lo.m).length < 10000) (hl2 : (Dm.dg hi.m).length < 10000) (hl3 : (Dm.dg st.m).length < 400) (hl : X.length < 500) (hd : Dm.okD X) (hs1 : lo.s ≤ 1000) (hs2 : hi.s ≤ 1000) (hs3 : st.s ≤ 1000) (hs : s ≤ 1000) (hn : n ≤ 1000) (hm : m ≤ 6) (hkk : -1000 ≤ k ∧ k ≤ 1000) (hk : ¬ 0 < Km.cmp lo hi) (V : Km.De) (hV : V = Km.mov lo hi st n m ⟨g, Dm.num X, s⟩ k) (vl : Nat) (hvl : (Dm.dg V.m).length = vl) :
    Calls Try.prog 22 #[.agg #[.bool lo.g, .slice a1 k1 c1, .int .i64 (lo.s : Nat), .bool hi.g, .slice a2 k2 c2, .int .i64 (hi.s : Nat), .bool st.g, .slice a3 k3 c3, .int .i64 (st.s : Nat), .bool sg, .int .i64 i0, .int .i64 i1, .int .i64 n, .int .i64 i3, .int .i64 i4, .int .i64 m, .int .i64 i6], .agg #[.bool g, .slice a x c, .int .i64 s], .int .i64 k] w fun e w' => ∃ ua uc, e = .returned (.tuple #[.agg #[.bool V.g, .slice ua vl uc, .int .i64 (V.s : Nat)], .int .i64 0]) ∧ LF w' w.heap.size (.slice ua vl uc) (Dm.dg V.m) ∧ Q w w' := by
  refine (Kp.move_any lo.g hi.g st.g sg g (.slice a1 k1 c1) (.slice a2 k2 c2) (.slice a3 k3 c3) (.slice a x c) lo.s hi.s st.s s n i0 i1 i3 i4 m i6 k (Dm.dg lo.m) (Dm.dg hi.m) (Dm.dg st.m) X w h1 h2 h3 hv hl1 hl2 hl3 hl (Dm.okD_dg _) (Dm.okD_dg _) (Dm.okD_dg _) hd hs1 hs2 hs3 hs hn (by omega) hkk (by rw [Dm.num_dg, Dm.num_dg]; exact hk) V (by rw [Dm.num_dg, Dm.num_dg, Dm.num_dg]; exact hV)).mono ?_
  rintro e w' ⟨u, rfl, hu, hq⟩
  obtain ⟨ua, uc, rfl⟩ := hu.shape
  rw [hvl] at hu ⊢
  exact ⟨ua, uc, rfl, hu, hq⟩
theorem d_val (lo hi st : Km.De) (sg g : Bool) (a1 a2 a3 a : Option Addr) (k1 k2 k3 c1 c2 c3 c x : Nat) (s n m : Nat) (i0 i1 i3 i4 i6 : Int) (X : List Int) (w : World) (h1 : Lst w (.slice a1 k1 c1) (Dm.dg lo.m)) (h2 : Lst w (.slice a2 k2 c2) (Dm.dg hi.m)) (hv : Lst w (.slice a x c) X)
    (hl1 : (Dm.dg lo.m).length < 10000) (hl2 : (Dm.dg hi.m).length < 10000) (hl : X.length < 1900) (hd : Dm.okD X) (hs1 : lo.s ≤ 1000) (hs2 : hi.s ≤ 1000) (hs : s ≤ 1000) (hn : n ≤ 1000) (hm : m ≤ 6) (hk : ¬ 0 < Km.cmp lo hi) (V : Km.De) (hV : V = Km.val lo hi n m ⟨g, Dm.num X, s⟩) (vl : Nat) (hvl : (Dm.dg V.m).length = vl) :
    Calls Try.prog 16 #[.agg #[.bool lo.g, .slice a1 k1 c1, .int .i64 (lo.s : Nat), .bool hi.g, .slice a2 k2 c2, .int .i64 (hi.s : Nat), .bool st.g, .slice a3 k3 c3, .int .i64 (st.s : Nat), .bool sg, .int .i64 i0, .int .i64 i1, .int .i64 n, .int .i64 i3, .int .i64 i4, .int .i64 m, .int .i64 i6], .agg #[.bool g, .slice a x c, .int .i64 s]] w fun e w' => ∃ ua uc, e = .returned (.tuple #[.agg #[.bool V.g, .slice ua vl uc, .int .i64 (V.s : Nat)], .int .i64 0]) ∧ LF w' w.heap.size (.slice ua vl uc) (Dm.dg V.m) ∧ Q w w' := by
  refine (Kr.value_any lo.g hi.g st.g sg g (.slice a1 k1 c1) (.slice a2 k2 c2) (.slice a3 k3 c3) (.slice a x c) lo.s hi.s s n st.s i0 i1 i3 i4 m i6 (Dm.dg lo.m) (Dm.dg hi.m) X w h1 h2 hv hl1 hl2 hl (Dm.okD_dg _) (Dm.okD_dg _) hd hs1 hs2 hs hn (by omega) (by rw [Dm.num_dg, Dm.num_dg]; exact hk) V (by rw [Dm.num_dg, Dm.num_dg]; exact hV)).mono ?_
  rintro e w' ⟨u, rfl, hu, hq⟩
  obtain ⟨ua, uc, rfl⟩ := hu.shape
  rw [hvl] at hu ⊢
  exact ⟨ua, uc, rfl, hu, hq⟩
end Kl
end Go.Proofs.Yteljedefbomlgaa
namespace Go.Proofs.Yteljedefbomlgaa
open Go.RowKit
namespace Kl
open Er (dv LF)
def V3 (f : FuncId) (lo hi st : Km.De) (n0 n1 n2 n3 n4 n5 n6 : Nat) (g : Bool) (s : Int) (x : Nat) (X : List Int) (gr : Bool) (Z : List Int) (zl : Nat) (sr er : Int) : Prop :=
  ∀ (u : World) (a1 a2 a3 a : Option Addr) (c1 c2 c3 c : Nat) (sg : Bool), Lst u (.slice a1 (Dm.dg lo.m).length c1) (Dm.dg lo.m) → Lst u (.slice a2 (Dm.dg hi.m).length c2) (Dm.dg hi.m) → Lst u (.slice a3 (Dm.dg st.m).length c3) (Dm.dg st.m) → Lst u (.slice a x c) X → Calls Try.prog f #[.agg #[.bool lo.g, .slice a1 (Dm.dg lo.m).length c1, .int .i64 (lo.s : Nat), .bool hi.g, .slice a2 (Dm.dg hi.m).length c2, .int .i64 (hi.s : Nat), .bool st.g, .slice a3 (Dm.dg st.m).length c3, .int .i64 (st.s : Nat), .bool sg, .int .i64 n0, .int .i64 n1, .int .i64 n2, .int .i64 n3, .int .i64 n4, .int .i64 n5, .int .i64 n6], .agg #[.bool g, .slice a x c, .int .i64 s]] u fun e w' => ∃ ua uc, e = .returned (.tuple #[.agg #[.bool gr, .slice ua zl uc, .int .i64 sr], .int .i64 er]) ∧ LF w' u.heap.size (.slice ua zl uc) Z ∧ Q u w'
theorem none3 {e : Ending} {u w' : World} {er : Int} (h : e = .returned (.tuple #[dv false (.slice none 0 0) 0, .int .i64 er]) ∧ Q u w') : ∃ ua uc, e = .returned (.tuple #[.agg #[.bool false, .slice ua 0 uc, .int .i64 0], .int .i64 er]) ∧ LF w' u.heap.size (.slice ua 0 uc) [] ∧ Q u w' := ⟨none, 0, h.1, LF.nil _ _, h.2⟩
section
variable {lo hi st : Km.De} {n0 n1 n2 n3 n4 n5 n6 : Nat} {g : Bool} {s : Int} {x : Nat} {X : List Int}
theorem val_good (hx : X.length = x) (hl1 : (Dm.dg lo.m).length ≤ 13) (hl2 : (Dm.dg hi.m).length ≤ 13) (hs1 : lo.s ≤ n2) (hs2 : hi.s ≤ n2) (hn : n2 ≤ 5) (hm : n5 ≤ 6) (hk : ¬ 0 < Km.cmp lo hi) (hl : x ≤ 100) (hb : (Dm.okB X && decide (0 ≤ s) && decide (s ≤ 1000)) = true) (V : Km.De) (hV : V = Km.val lo hi n2 n5 ⟨g, Dm.num X, s.toNat⟩) (vl : Nat) (hvl : (Dm.dg V.m).length = vl) :
    V3 14 lo hi st n0 n1 n2 n3 n4 n5 n6 g s x X V.g (Dm.dg V.m) vl (V.s : Nat) 0 ∧ V3 16 lo hi st n0 n1 n2 n3 n4 n5 n6 g s x X V.g (Dm.dg V.m) vl (V.s : Nat) 0 := by
  simp only [Bool.and_eq_true, decide_eq_true_eq] at hb
  have hd := (Dm.okB_iff X).1 hb.1.1
  have e : ((s.toNat : Nat) : Int) = s := by omega
  refine ⟨?_, ?_⟩
  · intro u a1 a2 a3 a c1 c2 c3 c sg h1 h2 h3 hv
    have k := p_val lo hi st sg g a1 a2 a3 a (Dm.dg lo.m).length (Dm.dg hi.m).length (Dm.dg st.m).length c1 c2 c3 c x s.toNat n2 n5 n0 n1 n3 n4 n6 X u h1 h2 hv (by omega) (by omega) (by omega) hd (by omega) (by omega) (by omega) (by omega) hm hk V hV vl hvl
    rw [e] at k
    exact k
  · intro u a1 a2 a3 a c1 c2 c3 c sg h1 h2 h3 hv
    have k := d_val lo hi st sg g a1 a2 a3 a (Dm.dg lo.m).length (Dm.dg hi.m).length (Dm.dg st.m).length c1 c2 c3 c x s.toNat n2 n5 n0 n1 n3 n4 n6 X u h1 h2 hv (by omega) (by omega) (by omega) hd (by omega) (by omega) (by omega) (by omega) hm hk V hV vl hvl
    rw [e] at k
    exact k
theorem val_none (hx : X.length = x) (hl : x ≤ 100) (hm : n5 ≤ 6) (hs : -9223372036854775808 ≤ s ∧ s ≤ 9223372036854775807) (hb : (Dm.okB X && decide (0 ≤ s) && decide (s ≤ 1000)) = false) :
    V3 14 lo hi st n0 n1 n2 n3 n4 n5 n6 g s x X false [] 0 0 1 ∧ V3 16 lo hi st n0 n1 n2 n3 n4 n5 n6 g s x X false [] 0 0 1 := by
  refine ⟨?_, ?_⟩
  · intro u a1 a2 a3 a c1 c2 c3 c sg h1 h2 h3 hv
    exact (Kp.value_bad lo.g hi.g st.g sg g _ _ _ _ lo.s hi.s st.s s n0 n1 n2 n3 n4 n5 n6 X u hv (by omega) hs (by omega) hb).mono fun e w' h => none3 h
  · intro u a1 a2 a3 a c1 c2 c3 c sg h1 h2 h3 hv
    exact (Kr.value_bad lo.g hi.g st.g sg g _ _ _ _ lo.s hi.s st.s s n0 n1 n2 n3 n4 n5 n6 X u hv (by omega) hs hb).mono fun e w' h => none3 h
end
end Kl
end Go.Proofs.Yteljedefbomlgaa
