/- The document's Rules of a configuration that Good makes. (and more) -/
import Derived.Test.YteljedefbomlgaaR00
import Derived.Test.YteljedefbomlgaaR02
import Derived.Test.YteljedefbomlgaaR27
import Derived.Test.YteljedefbomlgaaR42
import Derived.Test.YteljedefbomlgaaR49
import Derived.Test.YteljedefbomlgaaR40
import Derived.Test.YteljedefbomlgaaR26
import Derived.Test.YteljedefbomlgaaR37
import Derived.Test.YteljedefbomlgaaR39
import Derived.Test.YteljedefbomlgaaR12
import Derived.Test.YteljedefbomlgaaR06
import Derived.Test.YteljedefbomlgaaR01
import Derived.Test.YteljedefbomlgaaR13
import Derived.Test.YteljedefbomlgaaR08
import Derived.Test.YteljedefbomlgaaR10
import Derived.Test.YteljedefbomlgaaR03
import Derived.Test.YteljedefbomlgaaR41
import Derived.Test.YteljedefbomlgaaRows
import Derived.Deep.Cut
set_option linter.unusedVariables false
set_option linter.unusedSimpArgs false
namespace Go.Proofs.Yteljedefbomlgaa
open Go.RowKit
namespace Kr
open Er (dv LF)
theorem infoG : (Try.prog.info? 28).map (·.size) = some 15 := by kernel_rfl
theorem lf_row {w u : World} {v : Value} {xs : List Int} (h : LF u (w.heap.size + 2) v xs) (cs : Array Value) : LF (u.setRow (w.heap.size + 1) cs) w.heap.size v xs := by
  obtain ⟨a, n, c, hv, hl, hn, hf⟩ := h
  refine ⟨a, n, c, hv, ?_, hn, fun ad e hn => by have := hf ad e hn; omega⟩
  refine Lst_past hl (by simp [World.setRow]) fun a' n' c' e hn' => setRow_other _ _ _ _ ?_
  rw [hv] at e
  injection e with e1 e2 e3
  have := hf a' e1 (by omega)
  omega
set_option maxRecDepth 100000 in
set_option maxHeartbeats 8000000 in
theorem rules_any (gl gh sm : Bool) (al ah az : Option Addr) (ll cl lh ch lz cz : Nat) (sl sh i0 i1 i2 i3 i4 i5 i6 : Int) (w : World) {ga gb : Bool} {A B : List Int} {d : Int} {n0 n1 n2 n3 n4 n5 n6 : Nat} (h : Km.Gok ga gb A B d n0 n1 n2 n3 n4 n5 n6)
    (hG : ∀ u, Q w u → Calls Try.prog 10 #[.agg #[.bool gl, .slice al ll cl, .int .i64 sl, .bool gh, .slice ah lh ch, .int .i64 sh, .slice az lz cz, .bool sm, .int .i64 i0, .int .i64 i1, .int .i64 i2, .int .i64 i3, .int .i64 i4, .int .i64 i5, .int .i64 i6]] u fun e w' => e = .returned (.agg #[.string (Dm.prt ga A n2), .string (Dm.prt gb B n2), .string (Dm.prt false [d] n2), .int .i64 n0, .int .i64 n1, .int .i64 n2, .int .i64 n3, .int .i64 n4, .int .i64 n5, .int .i64 n6]) ∧ Q u w') :
    Calls Try.prog 11 #[.agg #[.bool gl, .slice al ll cl, .int .i64 sl, .bool gh, .slice ah lh ch, .int .i64 sh, .slice az lz cz, .bool sm, .int .i64 i0, .int .i64 i1, .int .i64 i2, .int .i64 i3, .int .i64 i4, .int .i64 i5, .int .i64 i6]] w fun e w' => ∃ R, e = .returned R ∧ RuV w.heap.size w' R (Km.dLo ga A n2) (Km.dLo gb B n2) (Km.dLo false [d] n2) (Km.dLo ga A n2).g n0 n1 n2 n3 n4 n5 n6 ∧ Q w w' := by
  have HGD := Lib.hid hG
  have HNW := Lib.hid (fun u => new_good h u)
  clear hG h
  generalize Km.dLo ga A n2 = lo at *
  generalize Km.dLo gb B n2 = hi at *
  generalize Km.dLo false [d] n2 = st at *
  obtain ⟨sg, hsg⟩ : ∃ x, x = lo.g := ⟨_, rfl⟩
  rw [← hsg] at HNW ⊢
  have HSG := Lib.hid hsg
  clear hsg
  generalize Dm.prt ga A n2 = t0 at *
  generalize Dm.prt gb B n2 = t1 at *
  generalize Dm.prt false [d] n2 = t2 at *
  obtain ⟨y1, hy1⟩ : ∃ y, y = w.alloc (.cells #[.bool gl, .slice al ll cl, .int .i64 sl, .bool gh, .slice ah lh ch, .int .i64 sh, .slice az lz cz, .bool sm, .int .i64 i0, .int .i64 i1, .int .i64 i2, .int .i64 i3, .int .i64 i4, .int .i64 i5, .int .i64 i6] 28) := ⟨_, rfl⟩
  have hQ1 : Q w y1 := by rw [hy1]; exact (Q.refl w).alloc _
  have hb1 : Bk y1 w.heap.size 28 [.bool gl, .slice al ll cl, .int .i64 sl, .bool gh, .slice ah lh ch, .int .i64 sh, .slice az lz cz, .bool sm, .int .i64 i0, .int .i64 i1, .int .i64 i2, .int .i64 i3, .int .i64 i4, .int .i64 i5, .int .i64 i6] := by rw [hy1]; exact Bk.new _ _ _
  have hs1 : y1.heap.size = w.heap.size + 1 := by rw [hy1]; simp
  obtain ⟨z, hz⟩ : ∃ y, y = y1.alloc (.cells #[.bool false, .slice none 0 0, .int .i64 0, .bool false, .slice none 0 0, .int .i64 0, .bool false, .slice none 0 0, .int .i64 0, .bool false, .int .i64 0, .int .i64 0, .int .i64 0, .int .i64 0, .int .i64 0, .int .i64 0, .int .i64 0] 44) := ⟨_, rfl⟩
  have hq2 : Q y1 z := by rw [hz]; exact (Q.refl y1).alloc _
  have HQ := Lib.hid (show Q w z from hQ1.trans hq2)
  have hg := hb1.q hq2
  have HB := Lib.hid (show Bk z (w.heap.size + 1) 44 [.bool false, .slice none 0 0, .int .i64 0, .bool false, .slice none 0 0, .int .i64 0, .bool false, .slice none 0 0, .int .i64 0, .bool false, .int .i64 0, .int .i64 0, .int .i64 0, .int .i64 0, .int .i64 0, .int .i64 0, .int .i64 0] by rw [hz, ← hs1]; exact Bk.new _ _ _)
  have HGB := Lib.hid hg
  go_enter Try.func11, Try.ntmps11
  go_upto_region 1 with fail
  first | rw [← hy1, ← hz] | (rw [hy1] at hz; rw [← hz])
  clear hQ1 hb1 hy1 hs1 hq2 hz hg
  go_wp2_with (refine wpList_load_row (by rfl) 28 _ (by rfl) w.heap.size (by rfl) 28 #[.bool gl, .slice al ll cl, .int .i64 sl, .bool gh, .slice ah lh ch, .int .i64 sh, .slice az lz cz, .bool sm, .int .i64 i0, .int .i64 i1, .int .i64 i2, .int .i64 i3, .int .i64 i4, .int .i64 i5, .int .i64 i6] (0, 0) _ HGB.out Try.underlying28 rfl (by exact infoG) ?_)
  refine (HGD.out _ HQ.out).mono ?_
  rintro e w1 ⟨rfl, hq1⟩
  clear HGB
  have HQ1 := Lib.hid (HQ.out.trans hq1)
  have HB1 := Lib.hid (HB.out.q hq1)
  clear hq1
  go_wp2_with fail
  refine (HNW.out _).mono ?_
  rintro e w2 ⟨R, rfl, hr, hq2⟩
  obtain ⟨a1, c1, a2, c2, a3, c3, rfl, l1, l2, l3⟩ := hr
  obtain ⟨k1, hk1⟩ : ∃ x, x = (Dm.dg lo.m).length := ⟨_, rfl⟩
  obtain ⟨k2, hk2⟩ : ∃ x, x = (Dm.dg hi.m).length := ⟨_, rfl⟩
  obtain ⟨k3, hk3⟩ : ∃ x, x = (Dm.dg st.m).length := ⟨_, rfl⟩
  rw [← hk1] at l1 ⊢
  rw [← hk2] at l2 ⊢
  rw [← hk3] at l3 ⊢
  have HK := Lib.hid (⟨hk1, hk2, hk3⟩ : _ ∧ _ ∧ _)
  clear hk1 hk2 hk3
  obtain ⟨W2, hW2⟩ : ∃ y, y = w2.alloc (.cells #[.bool lo.g, .slice a1 k1 c1, .int .i64 (lo.s : Nat), .bool hi.g, .slice a2 k2 c2, .int .i64 (hi.s : Nat), .bool st.g, .slice a3 k3 c3, .int .i64 (st.s : Nat), .bool sg, .int .i64 n0, .int .i64 n1, .int .i64 n2, .int .i64 n3, .int .i64 n4, .int .i64 n5, .int .i64 n6] 44) := ⟨_, rfl⟩
  have hqa : Q w2 W2 := by rw [hW2]; exact (Q.refl _).alloc _
  have hbx : Bk W2 w2.heap.size 44 [.bool lo.g, .slice a1 k1 c1, .int .i64 (lo.s : Nat), .bool hi.g, .slice a2 k2 c2, .int .i64 (hi.s : Nat), .bool st.g, .slice a3 k3 c3, .int .i64 (st.s : Nat), .bool sg, .int .i64 n0, .int .i64 n1, .int .i64 n2, .int .i64 n3, .int .i64 n4, .int .i64 n5, .int .i64 n6] := by rw [hW2]; exact Bk.new _ _ _
  have HQ2 := Lib.hid (HQ1.out.trans (hq2.trans hqa))
  have HB2 := Lib.hid (HB1.out.q (hq2.trans hqa))
  have hle : w.heap.size + 1 < w1.heap.size := HB1.out.lt
  have L1 := Lib.hid (show LF W2 (w.heap.size + 2) (.slice a1 k1 c1) (Dm.dg lo.m) from (l1.q hqa).mono (by omega))
  have L2 := Lib.hid (show LF W2 (w.heap.size + 2) (.slice a2 k2 c2) (Dm.dg hi.m) from (l2.q hqa).mono (by omega))
  have L3 := Lib.hid (show LF W2 (w.heap.size + 2) (.slice a3 k3 c3) (Dm.dg st.m) from (l3.q hqa).mono (by omega))
  obtain ⟨bx, hbx2⟩ : ∃ b, b = w2.heap.size := ⟨_, rfl⟩
  rw [← hbx2] at hbx
  clear l1 l2 l3 hq2 hqa hle
  go_upto_region 2 with fail
  rw [← hW2, ← hbx2]
  clear hW2 hbx2
  have HX := Lib.hid hbx
  clear hbx
  go_wp2_with (first | refine wpList_load_row (by rfl) 44 _ (by rfl) bx (by rfl) 44 #[.bool lo.g, .slice a1 k1 c1, .int .i64 (lo.s : Nat), .bool hi.g, .slice a2 k2 c2, .int .i64 (hi.s : Nat), .bool st.g, .slice a3 k3 c3, .int .i64 (st.s : Nat), .bool sg, .int .i64 n0, .int .i64 n1, .int .i64 n2, .int .i64 n3, .int .i64 n4, .int .i64 n5, .int .i64 n6] (0, 0) _ HX.out Try.underlying44 rfl (by exact infoRu) ?_ | refine wpList_store_row (by rfl) 44 _ _ (by rfl) (w.heap.size + 1) #[.bool lo.g, .slice a1 k1 c1, .int .i64 (lo.s : Nat), .bool hi.g, .slice a2 k2 c2, .int .i64 (hi.s : Nat), .bool st.g, .slice a3 k3 c3, .int .i64 (st.s : Nat), .bool sg, .int .i64 n0, .int .i64 n1, .int .i64 n2, .int .i64 n3, .int .i64 n4, .int .i64 n5, .int .i64 n6] (by rfl) (by rfl) 44 _ HB2.out (by exact infoRu) rfl (all1 (by rfl)) ?_)
  refine ret_bk (l := [.bool lo.g, .slice a1 k1 c1, .int .i64 (lo.s : Nat), .bool hi.g, .slice a2 k2 c2, .int .i64 (hi.s : Nat), .bool st.g, .slice a3 k3 c3, .int .i64 (st.s : Nat), .bool sg, .int .i64 n0, .int .i64 n1, .int .i64 n2, .int .i64 n3, .int .i64 n4, .int .i64 n5, .int .i64 n6]) rfl Try.underlying44 (by exact infoRu) rfl (Bk_row HB2.out [.bool lo.g, .slice a1 k1 c1, .int .i64 (lo.s : Nat), .bool hi.g, .slice a2 k2 c2, .int .i64 (hi.s : Nat), .bool st.g, .slice a3 k3 c3, .int .i64 (st.s : Nat), .bool sg, .int .i64 n0, .int .i64 n1, .int .i64 n2, .int .i64 n3, .int .i64 n4, .int .i64 n5, .int .i64 n6]) rfl ⟨_, rfl, ⟨a1, c1, a2, c2, a3, c3, by rw [← HK.out.1, ← HK.out.2.1, ← HK.out.2.2], ?_, ?_, ?_⟩, Q_row HQ2.out (Nat.le_succ _) _⟩
  · rw [← HK.out.1]; exact lf_row L1.out _
  · rw [← HK.out.2.1]; exact lf_row L2.out _
  · rw [← HK.out.2.2]; exact lf_row L3.out _
end Kr
end Go.Proofs.Yteljedefbomlgaa
