/- What the document's own From comes to, by a walk through it. -/
import Derived.Test.YtagpofhencpliaaRows
import Derived.Test.YtagpofhencpliaaTmM
import Derived.Test.YtagpofhencpliaaTmS
import Derived.Test.YtagpofhencpliaaTmA
import Derived.Test.YtagpofhencpliaaTmB
import Derived.Test.YtagpofhencpliaaTmC
import Derived.Test.YtagpofhencpliaaTmD
import Derived.Test.YtagpofhencpliaaTmF
import Derived.Test.YtagpofhencpliaaTrA
import Derived.Test.YtagpofhencpliaaTrB
import Derived.Test.YtagpofhencpliaaTrC
import Derived.Test.YtagpofhencpliaaDigM
import Derived.Test.YtagpofhencpliaaDigL
import Derived.Test.YtagpofhencpliaaDecM
import Derived.Test.YtagpofhencpliaaInts
import Derived.Test.YtagpofhencpliaaSto
import Derived.Test.YtagpofhencpliaaBlk
import Derived.Test.YtagpofhencpliaaDecR
import Derived.Test.YtagpofhencpliaaDecS
import Derived.Test.YtagpofhencpliaaDecC
import Derived.Test.YtagpofhencpliaaDecG
import Derived.Deep.LoopGhost
import Derived.Deep.QuietTactic
import Derived.Deep.RegionWith
import Derived.BigQuiet
import Derived.Laws.ResultCell
set_option linter.unusedVariables false
set_option linter.unusedSimpArgs false
namespace Go.Proofs.Ytagpofhencpliaa
open Go.RowKit
/-- A list that has been appended to lies beside the other one. -/
theorem Apart.at_push {w : World} {B : Nat} {v v' u : Value} {zs : List Int} (h : Own w B u zs) (ha : Apart v u) (hat : v'.ownBlock = v.ownBlock ∨ v'.ownBlock = some w.heap.size) : Apart v' u := by
  intro g hv hu
  rcases hat with e | e
  · exact ha g (e ▸ hv) hu
  · rw [e] at hv
    have := (h.lt g hu).2
    cases hv; omega
/-- A list that is written out in the text, as one of the call's own. -/
theorem Own.lit (w : World) (zs : List Int) (n : Nat) (hn : zs.length = n) (hm : n ≤ maxLen) : Own (w.alloc (.cells (zs.map (Value.int .i64)).toArray 3)) w.heap.size (.slice (some ⟨w.heap.size, 0, none⟩) n n) zs := by
  subst hn
  have h := World.ownsRow_lit (base := w.heap.size) (e := 3) (size := 1) w (zs.map (Value.int .i64)).toArray zs.length (Nat.le_refl _) hm (by simp)
  unfold Own
  exact h
namespace Tm
/-- What stands while From works: the draft so far, in a block at the end of u7. -/
def FR (u7 : World) (cs : Bool) (wr : World) (I F : List Int) : Prop := ∃ a1 c1 a2 c2,
  Bk wr u7.heap.size 24 [.bool cs, .slice a1 I.length c1, .bool false, .slice a2 F.length c2] ∧
  Own wr (u7.heap.size + 1) (.slice a1 I.length c1) I ∧ Own wr (u7.heap.size + 1) (.slice a2 F.length c2) F ∧ Apart (.slice a1 I.length c1) (.slice a2 F.length c2) ∧ Q u7 wr ∧ u7.heap.size + 1 ≤ wr.heap.size
/-- .. its digits ahead done, those behind it with so many noughts. -/
def GR (u7 : World) (cs : Bool) (nI : Nat) (b1 : Option Addr) (d1 : Nat) (I0 : List Int) (S : Nat) (E : List Int) (wr : World) (i : Nat) : Prop := ∃ a2 c2,
  Bk wr u7.heap.size 24 [.bool cs, .slice b1 nI d1, .bool false, .slice a2 (S + i) c2] ∧
  Own wr (u7.heap.size + 1) (.slice b1 nI d1) I0 ∧ Own wr (u7.heap.size + 1) (.slice a2 (S + i) c2) (E ++ List.replicate i 0) ∧ Apart (.slice b1 nI d1) (.slice a2 (S + i) c2) ∧ Q u7 wr ∧ u7.heap.size + 1 ≤ wr.heap.size
end Tm
namespace Tr
open Tm
set_option maxRecDepth 100000 in
set_option maxHeartbeats 1500000 in
theorem from_bad (g : Bool) (a : Option Addr) (n c : Nat) (s whole rest : Int) (L : List Int) (w : World) (hv : Lst w (.slice a n c) L) (k1 : L.length = n) (l1 : n ≤ 1000) (hs : -9223372036854775808 ≤ s ∧ s ≤ 9223372036854775807)
    (h : (Dm.okB L && decide (0 ≤ s) && decide (s ≤ 1000)) = false ∨ whole < 0 ∨ 64 < whole ∨ rest < 0 ∨ 64 < rest) :
    Calls Try.prog 34 #[.agg #[.bool g, .slice a n c, .int .i64 s], .int .i64 whole, .int .i64 rest] w fun e w' => ∃ x, e = .returned (.tuple #[x, .int .i64 (frC L s whole rest)]) ∧ LD w' (w.heap.size + 2) x (frR g L s whole rest) ∧ Q w w' := by
  have HMY := Lib.hid (fun u (q : Q w u) => Er.may_any g _ s L u (hv.q q) (by omega) hs)
  unfold Er.dv at HMY
  have hbad := fun h => frC_bad (g := g) (L := L) (s := s) (whole := whole) (rest := rest) h
  have hfar := fun h h2 => frC_far (g := g) (L := L) (s := s) (whole := whole) (rest := rest) h h2
  generalize (Dm.okB L && decide (0 ≤ s) && decide (s ≤ 1000)) = r at *
  generalize frC L s whole rest = C at *
  generalize frR g L s whole rest = R at *
  obtain ⟨y, hy⟩ : ∃ y, y = w.alloc (.cells #[.bool g, .slice a n c, .int .i64 s] 40) := ⟨_, rfl⟩
  have hqy : Q w y := by rw [hy]; exact (Q.refl w).alloc _
  have hby : Bk y w.heap.size 40 [.bool g, .slice a n c, .int .i64 s] := by rw [hy]; exact Bk.new _ _ _
  have hsy : y.heap.size = w.heap.size + 1 := by rw [hy]; simp
  obtain ⟨z, hz⟩ : ∃ z, z = y.alloc (.cells #[.bool false, .slice none 0 0, .bool false, .slice none 0 0] 24) := ⟨_, rfl⟩
  have hqz : Q y z := by rw [hz]; exact (Q.refl y).alloc _
  have HQ := Lib.hid (hqy.trans hqz)
  have HB := Lib.hid (hby.q hqz)
  have HD := Lib.hid (show Bk z (w.heap.size + 1) 24 [.bool false, .slice none 0 0, .bool false, .slice none 0 0] by rw [hz, ← hsy]; exact Bk.new _ _ _)
  have HWD := Lib.hid (Nat.le_succ w.heap.size)
  have hz2 : z = (w.alloc (.cells #[.bool g, .slice a n c, .int .i64 s] 40)).alloc (.cells #[.bool false, .slice none 0 0, .bool false, .slice none 0 0] 24) := by rw [hz, hy]
  clear hqy hby hsy hqz hz hy hv k1
  cases r
  · obtain ⟨rfl, rfl⟩ := hbad rfl
    clear hbad hfar
    go_enter Try.func34, Try.ntmps34
    go_upto_region 1 with fail
    rw [← hz2]
    clear hz2
    have x0 := HB.out.cell 0 rfl
    have x1 := HB.out.cell 1 rfl
    have x2 := HB.out.cell 2 rfl
    go_wp2_with fail
    refine (HMY.out _ HQ.out).mono ?_
    rintro e u1 ⟨rfl, hq⟩
    have HB1 := Lib.hid (HB.out.q hq)
    have HD1 := Lib.hid (HD.out.q hq)
    have HQ1 := Lib.hid (HQ.out.trans hq)
    clear hq x0 x1 x2 HB HD HQ
    have b0 := HD1.out.cell 0 rfl
    have f0 := HD1.out.free 0
    have b1 := HD1.out.cell 1 rfl
    have f1 := HD1.out.free 1
    have b2 := HD1.out.cell 2 rfl
    have f2 := HD1.out.free 2
    have b3 := HD1.out.cell 3 rfl
    have f3 := HD1.out.free 3
    go_wp2_with fail
    exact ret_d2 rfl rfl rfl rfl ((((HD1.out.set 0 _).set 1 _).set 2 _).set 3 _) rfl ⟨_, rfl, LD.zero _ _, Q.setCell (Q.setCell (Q.setCell (Q.setCell HQ1.out HWD.out _) HWD.out _) HWD.out _) HWD.out _⟩
  · replace h : whole < 0 ∨ 64 < whole ∨ rest < 0 ∨ 64 < rest := h.resolve_left (by decide)
    obtain ⟨rfl, rfl⟩ := hfar rfl h
    clear hbad hfar
    by_cases h1 : whole < 0
    · clear h
      go_enter Try.func34, Try.ntmps34
      go_upto_region 1 with fail
      rw [← hz2]
      clear hz2
      have x0 := HB.out.cell 0 rfl
      have x1 := HB.out.cell 1 rfl
      have x2 := HB.out.cell 2 rfl
      go_wp2_with fail
      refine (HMY.out _ HQ.out).mono ?_
      rintro e u1 ⟨rfl, hq⟩
      have HB1 := Lib.hid (HB.out.q hq)
      have HD1 := Lib.hid (HD.out.q hq)
      have HQ1 := Lib.hid (HQ.out.trans hq)
      clear hq x0 x1 x2 HB HD HQ
      have b0 := HD1.out.cell 0 rfl
      have f0 := HD1.out.free 0
      have b1 := HD1.out.cell 1 rfl
      have f1 := HD1.out.free 1
      have b2 := HD1.out.cell 2 rfl
      have f2 := HD1.out.free 2
      have b3 := HD1.out.cell 3 rfl
      have f3 := HD1.out.free 3
      go_wp2_with fail
      exact ret_d2 rfl rfl rfl rfl ((((HD1.out.set 0 _).set 1 _).set 2 _).set 3 _) rfl ⟨_, rfl, LD.zero _ _, Q.setCell (Q.setCell (Q.setCell (Q.setCell HQ1.out HWD.out _) HWD.out _) HWD.out _) HWD.out _⟩
    · have h1' : 0 ≤ whole := by omega
      by_cases h2 : 64 < whole
      · have h2' : whole > 64 := h2
        clear h
        go_enter Try.func34, Try.ntmps34
        go_upto_region 1 with fail
        rw [← hz2]
        clear hz2
        have x0 := HB.out.cell 0 rfl
        have x1 := HB.out.cell 1 rfl
        have x2 := HB.out.cell 2 rfl
        go_wp2_with fail
        refine (HMY.out _ HQ.out).mono ?_
        rintro e u1 ⟨rfl, hq⟩
        have HB1 := Lib.hid (HB.out.q hq)
        have HD1 := Lib.hid (HD.out.q hq)
        have HQ1 := Lib.hid (HQ.out.trans hq)
        clear hq x0 x1 x2 HB HD HQ
        have b0 := HD1.out.cell 0 rfl
        have f0 := HD1.out.free 0
        have b1 := HD1.out.cell 1 rfl
        have f1 := HD1.out.free 1
        have b2 := HD1.out.cell 2 rfl
        have f2 := HD1.out.free 2
        have b3 := HD1.out.cell 3 rfl
        have f3 := HD1.out.free 3
        go_wp2_with fail
        exact ret_d2 rfl rfl rfl rfl ((((HD1.out.set 0 _).set 1 _).set 2 _).set 3 _) rfl ⟨_, rfl, LD.zero _ _, Q.setCell (Q.setCell (Q.setCell (Q.setCell HQ1.out HWD.out _) HWD.out _) HWD.out _) HWD.out _⟩
      · have h2' : ¬ whole > 64 := h2
        have h2'' : whole ≤ 64 := by omega
        by_cases h3 : rest < 0
        · clear h
          go_enter Try.func34, Try.ntmps34
          go_upto_region 1 with fail
          rw [← hz2]
          clear hz2
          have x0 := HB.out.cell 0 rfl
          have x1 := HB.out.cell 1 rfl
          have x2 := HB.out.cell 2 rfl
          go_wp2_with fail
          refine (HMY.out _ HQ.out).mono ?_
          rintro e u1 ⟨rfl, hq⟩
          have HB1 := Lib.hid (HB.out.q hq)
          have HD1 := Lib.hid (HD.out.q hq)
          have HQ1 := Lib.hid (HQ.out.trans hq)
          clear hq x0 x1 x2 HB HD HQ
          have b0 := HD1.out.cell 0 rfl
          have f0 := HD1.out.free 0
          have b1 := HD1.out.cell 1 rfl
          have f1 := HD1.out.free 1
          have b2 := HD1.out.cell 2 rfl
          have f2 := HD1.out.free 2
          have b3 := HD1.out.cell 3 rfl
          have f3 := HD1.out.free 3
          go_wp2_with fail
          exact ret_d2 rfl rfl rfl rfl ((((HD1.out.set 0 _).set 1 _).set 2 _).set 3 _) rfl ⟨_, rfl, LD.zero _ _, Q.setCell (Q.setCell (Q.setCell (Q.setCell HQ1.out HWD.out _) HWD.out _) HWD.out _) HWD.out _⟩
        · have h4 : 64 < rest := by omega
          have h4' : rest > 64 := h4
          have h3' : 0 ≤ rest := by omega
          clear h
          go_enter Try.func34, Try.ntmps34
          go_upto_region 1 with fail
          rw [← hz2]
          clear hz2
          have x0 := HB.out.cell 0 rfl
          have x1 := HB.out.cell 1 rfl
          have x2 := HB.out.cell 2 rfl
          go_wp2_with fail
          refine (HMY.out _ HQ.out).mono ?_
          rintro e u1 ⟨rfl, hq⟩
          have HB1 := Lib.hid (HB.out.q hq)
          have HD1 := Lib.hid (HD.out.q hq)
          have HQ1 := Lib.hid (HQ.out.trans hq)
          clear hq x0 x1 x2 HB HD HQ
          have b0 := HD1.out.cell 0 rfl
          have f0 := HD1.out.free 0
          have b1 := HD1.out.cell 1 rfl
          have f1 := HD1.out.free 1
          have b2 := HD1.out.cell 2 rfl
          have f2 := HD1.out.free 2
          have b3 := HD1.out.cell 3 rfl
          have f3 := HD1.out.free 3
          go_wp2_with fail
          exact ret_d2 rfl rfl rfl rfl ((((HD1.out.set 0 _).set 1 _).set 2 _).set 3 _) rfl ⟨_, rfl, LD.zero _ _, Q.setCell (Q.setCell (Q.setCell (Q.setCell HQ1.out HWD.out _) HWD.out _) HWD.out _) HWD.out _⟩

set_option maxRecDepth 100000 in
set_option maxHeartbeats 3000000 in
theorem from_ok (g : Bool) (a : Option Addr) (n c : Nat) (s p q : Nat) (L : List Int) (w : World) (hv : Lst w (.slice a n c) L) (k1 : L.length = n) (l1 : n ≤ 1000) (hL : Dm.okD L) (hs : s ≤ 1000) (hp : p ≤ 64) (hq : q ≤ 64) :
    Calls Try.prog 34 #[.agg #[.bool g, .slice a n c, .int .i64 (s : Nat)], .int .i64 (p : Nat), .int .i64 (q : Nat)] w fun e w' => ∃ x, e = .returned (.tuple #[x, .int .i64 (frC L s p q)]) ∧ LD w' (w.heap.size + 2) x (frR g L s p q) ∧ Q w w' := by
  have hfr := frC_in (g := g) ((Dm.okB_iff L).2 hL) hs hp hq
  rw [hfr.1, hfr.2]
  have HMY := Lib.hid (fun u (qq : Q w u) => (by
    have e := Er.may_any g _ s L u (hv.q qq) (by omega) (by omega)
    rw [(Dm.okB_iff L).2 hL, decide_eq_true (show 0 ≤ (s : Int) from by omega), decide_eq_true (show (s : Int) ≤ 1000 from by omega)] at e
    exact e : Calls Try.prog 56 #[.agg #[.bool g, .slice a n c, .int .i64 (s : Nat)]] u fun e w' => e = .returned (.bool true) ∧ Q u w'))
  obtain ⟨cs, hcs⟩ : ∃ cs, cs = Dm.cg g (Dm.num L) := ⟨_, rfl⟩
  obtain ⟨D, hD⟩ : ∃ D, D = Dm.dg (Dm.st (Dm.num L) s).1 := ⟨_, rfl⟩
  obtain ⟨S, hS⟩ : ∃ S, S = (Dm.st (Dm.num L) s).2 := ⟨_, rfl⟩
  have hSl : S ≤ 1000 := by have := Dm.st_le (Dm.num L) s; omega
  have hDl : D.length ≤ 1000 := by
    have h1 : (Dm.st (Dm.num L) s).1 ≤ Dm.num L := by
      have h2 := Dm.st_num (Dm.num L) s
      have h3 := Nat.le_mul_of_pos_right (Dm.st (Dm.num L) s).1 (Nat.pow_pos (n := s - (Dm.st (Dm.num L) s).2) (show 0 < 10 from by omega))
      omega
    have h2 := Dm.dg_len_le _ _ h1
    have h3 := Dm.dg_len L hL
    rw [hD]; omega
  have hDo : Dm.okD D := by rw [hD]; exact Dm.okD_dg _
  obtain ⟨r, hr⟩ : ∃ r, r = D.length := ⟨_, rfl⟩
  have HTM := Lib.hid (fun u (qq : Q w u) => (by
    refine (Er.trim_any g _ s L u (hv.q qq) (by omega) hL (by omega)).mono ?_
    rintro e w' ⟨x, rfl, hx, hq⟩
    rw [← hD] at hx
    obtain ⟨xa, xc, rfl⟩ := hx.shape
    rw [← hr] at hx
    rw [← hcs, ← hS]
    exact ⟨xa, xc, by rw [hr]; rfl, hx.lst, hq⟩ : Calls Try.prog 45 #[.agg #[.bool g, .slice a n c, .int .i64 (s : Nat)]] u fun e w' => ∃ xa xc, e = .returned (.agg #[.bool cs, .slice xa r xc, .int .i64 (S : Nat)]) ∧ Lst w' (.slice xa r xc) D ∧ Q u w'))
  obtain ⟨A, hA⟩ : ∃ A, A = Dm.dg (Dm.num ((pad D S).take (D.length - S))) := ⟨_, rfl⟩
  obtain ⟨E, hE⟩ : ∃ E, E = (pad D S).drop (D.length - S) := ⟨_, rfl⟩
  obtain ⟨na, hna⟩ : ∃ na, na = A.length := ⟨_, rfl⟩
  have hEl : E.length = S := by rw [hE, List.length_drop, pad_len]; omega
  have hAl : na ≤ 2000 := by
    have h1 := Dm.dg_len _ (Dm.okD_take (pad_ok D S hDo) (D.length - S))
    rw [List.length_take, pad_len] at h1
    rw [hna, hA]; omega
  have HPT := Lib.hid (fun u xa xc (h : Lst u (.slice xa r xc) D) => (by
    refine (Er.parts_any cs (.slice xa r xc) S D u h (by omega) hDo hSl).mono ?_
    rintro e w' ⟨x, y, rfl, hx, hy, hq⟩
    have hx2 : Lst w' x A := by rw [hA]; exact hx
    have hy2 : Lst w' y E := by rw [hE]; exact hy
    obtain ⟨x1, x2, rfl, _, _⟩ := hx2.form0 hna.symm
    obtain ⟨y1, y2, rfl, _, _⟩ := hy2.form0 hEl
    exact ⟨x1, x2, y1, y2, rfl, hx2, hy2, hq⟩ : Calls Try.prog 57 #[.agg #[.bool cs, .slice xa r xc, .int .i64 (S : Nat)]] u fun e w' => ∃ x1 x2 y1 y2, e = .returned (.tuple #[.slice x1 na x2, .slice y1 S y2]) ∧ Lst w' (.slice x1 na x2) A ∧ Lst w' (.slice y1 S y2) E ∧ Q u w'))
  obtain ⟨p1, hp1⟩ : ∃ p1, p1 = p - na := ⟨_, rfl⟩
  obtain ⟨q1, hq1⟩ : ∃ q1, q1 = q - S := ⟨_, rfl⟩
  obtain ⟨I0, hI0⟩ : ∃ I0, I0 = List.replicate p1 0 ++ A := ⟨_, rfl⟩
  obtain ⟨F0, hF0⟩ : ∃ F0, F0 = E ++ List.replicate q1 0 := ⟨_, rfl⟩
  obtain ⟨nI, hnI⟩ : ∃ nI, nI = p1 + na := ⟨_, rfl⟩
  obtain ⟨nF, hnF⟩ : ∃ nF, nF = S + q1 := ⟨_, rfl⟩
  have hIl : I0.length = nI := by rw [hI0, List.length_append, List.length_replicate, ← hna, hnI]
  have hFl : F0.length = nF := by rw [hF0, List.length_append, List.length_replicate, hEl, hnF]
  have hRR : frD g L s p q = ⟨cs, if nI + nF = 0 then [0] else I0, decide (0 < nF), F0⟩ := by
    unfold frD frI frF fI
    rw [← hcs, ← hD, ← hS, ← hA, ← hE, ← hna, ← hp1, ← hq1, ← hI0, ← hF0, hFl]
    dsimp only
    rw [hIl, hnF, Nat.add_assoc]
  obtain ⟨I1, hI1⟩ : ∃ I1, I1 = if nI + nF = 0 then [0] else I0 := ⟨_, rfl⟩
  obtain ⟨sv, hsv⟩ : ∃ sv, sv = decide (0 < nF) := ⟨_, rfl⟩
  rw [hRR, ← hI1, ← hsv]
  have HI1 := Lib.hid hI1
  have HSV := Lib.hid hsv
  have HL := Lib.hid (⟨hIl, hFl⟩ : I0.length = nI ∧ F0.length = nF)
  have HI0 := Lib.hid hI0
  have HF0 := Lib.hid hF0
  have HNA := Lib.hid (⟨hna.symm, hEl⟩ : A.length = na ∧ E.length = S)
  have HNI := Lib.hid (⟨hnI, hnF⟩ : nI = p1 + na ∧ nF = S + q1)
  have HP1 := Lib.hid hp1
  have HQ1' := Lib.hid hq1
  have hIb : nI ≤ 3000 := by omega
  have hFb : nF ≤ 3000 := by omega
  clear hI1 hsv hfr hcs hD hS hDl hDo hr hA hE hna hEl hp1 hq1 hI0 hF0 hnI hnF hIl hFl hRR hv k1 hL
  obtain ⟨y, hy⟩ : ∃ y, y = w.alloc (.cells #[.bool g, .slice a n c, .int .i64 (s : Nat)] 40) := ⟨_, rfl⟩
  have hqy : Q w y := by rw [hy]; exact (Q.refl w).alloc _
  have hby : Bk y w.heap.size 40 [.bool g, .slice a n c, .int .i64 (s : Nat)] := by rw [hy]; exact Bk.new _ _ _
  have hsy : y.heap.size = w.heap.size + 1 := by rw [hy]; simp
  obtain ⟨z, hz⟩ : ∃ z, z = y.alloc (.cells #[.bool false, .slice none 0 0, .bool false, .slice none 0 0] 24) := ⟨_, rfl⟩
  have hqz : Q y z := by rw [hz]; exact (Q.refl y).alloc _
  have HQ := Lib.hid (hqy.trans hqz)
  have HB := Lib.hid (hby.q hqz)
  have HD := Lib.hid (show Bk z (w.heap.size + 1) 24 [.bool false, .slice none 0 0, .bool false, .slice none 0 0] by rw [hz, ← hsy]; exact Bk.new _ _ _)
  have HZ := Lib.hid (show w.heap.size + 2 ≤ z.heap.size by rw [hz]; simp [hsy])
  have HWD := Lib.hid (Nat.le_succ w.heap.size)
  have hz2 : z = (w.alloc (.cells #[.bool g, .slice a n c, .int .i64 (s : Nat)] 40)).alloc (.cells #[.bool false, .slice none 0 0, .bool false, .slice none 0 0] 24) := by rw [hz, hy]
  clear hqy hby hsy hqz hz hy
  go_enter Try.func34, Try.ntmps34
  go_upto_region 1 with fail
  rw [← hz2]
  clear hz2
  have x0 := HB.out.cell 0 rfl
  have x1 := HB.out.cell 1 rfl
  have x2 := HB.out.cell 2 rfl
  go_wp2_with fail
  refine (HMY.out _ HQ.out).mono ?_
  rintro e u1 ⟨rfl, hq⟩
  have HB1 := Lib.hid (HB.out.q hq)
  have HD1 := Lib.hid (HD.out.q hq)
  have HQ1 := Lib.hid (HQ.out.trans hq)
  have HS1 := Lib.hid (Nat.le_trans HZ.out hq.le)
  clear hq x0 x1 x2 HB HD HQ
  have h1 : ¬ ((p : Int) < 0) := by omega
  have h2 : ¬ ((p : Int) > 64) := by omega
  have h3 : ¬ ((q : Int) < 0) := by omega
  have h4 : ¬ ((q : Int) > 64) := by omega
  have x0 := HB1.out.cell 0 rfl
  have e0 := HB1.out.free 0
  have x1 := HB1.out.cell 1 rfl
  have e1 := HB1.out.free 1
  have x2 := HB1.out.cell 2 rfl
  have e2 := HB1.out.free 2
  go_wp2_with fail
  refine (HTM.out _ HQ1.out).mono ?_
  rintro e u4 ⟨xa, xc, rfl, hlx, hq⟩
  have HD4 := Lib.hid (HD1.out.q hq)
  have HQ4 := Lib.hid (HQ1.out.trans hq)
  have HS4 := Lib.hid (Nat.le_trans HS1.out hq.le)
  obtain ⟨u5, hu5⟩ : ∃ u, u = u4.alloc (.cells #[.bool cs, .slice xa r xc, .int .i64 (S : Nat)] 40) := ⟨_, rfl⟩
  have hq5 : Q u4 u5 := by rw [hu5]; exact (Q.refl u4).alloc _
  have HT5 := Lib.hid (show Bk u5 u4.heap.size 40 [.bool cs, .slice xa r xc, .int .i64 (S : Nat)] by rw [hu5]; exact Bk.new _ _ _)
  have HL5 := Lib.hid (hlx.q hq5)
  have HD5 := Lib.hid (HD4.out.q hq5)
  have HQ5 := Lib.hid (HQ4.out.trans hq5)
  have HS5 := Lib.hid (Nat.le_trans HS4.out hq5.le)
  clear hlx hq hq5 x0 x1 x2 e0 e1 e2 h1 h2 h3 h4 HD4 HQ4 HB1 HD1 HQ1
  go_upto_region 7 with fail
  rw [← hu5]
  clear hu5
  have x0 := HT5.out.cell 0 rfl
  have x1 := HT5.out.cell 1 rfl
  have x2 := HT5.out.cell 2 rfl
  go_wp2_with fail
  refine (HPT.out _ _ _ HL5.out).mono ?_
  rintro e u7 ⟨x1', x2', y1', y2', rfl, hA6, hE6, hq⟩
  have HD7 := Lib.hid (HD5.out.q hq)
  have HQ7 := Lib.hid (HQ5.out.trans hq)
  have HA7 := Lib.hid hA6
  have HE7 := Lib.hid hE6
  have HS7 := Lib.hid (Nat.le_trans HS5.out hq.le)
  have HT7 := Lib.hid (HT5.out.q hq)
  clear hq hA6 hE6 x0 x1 x2 HT5 HD5 HQ5
  have x0 := HT7.out.cell 0 rfl
  obtain ⟨u8, hu8⟩ : ∃ u, u = u7.alloc (.cells #[.bool cs, .slice none 0 0, .bool false, .slice none 0 0] 24) := ⟨_, rfl⟩
  have HFR := Lib.hid (show FR u7 cs u8 [] [] from ⟨none, 0, none, 0, by rw [hu8]; exact Bk.new _ _ _, Own.nil _ _, Own.nil _ _, Apart.nilL _, by rw [hu8]; exact (Q.refl u7).alloc _, by rw [hu8]; simp⟩)
  go_upto_region 9 with fail
  rw [← hu8]
  clear hu8 x0
  go_wp2_with fail
  go_loopw [13] (fun t wr => ∃ j : Nat, t = .int .i64 ((na + j : Nat) : Int) ∧ (j = 0 ∨ na + j ≤ p) ∧ FR u7 cs wr (List.replicate j 0) []) (fun t _ => p - (intOf t).toNat)
  case atStart => exact ⟨0, rfl, .inl rfl, HFR.out⟩
  case round =>
    obtain ⟨j, rfl, hj, a1, e1, a2, e2, hb, ho1, ho2, hap, hqq, hsz⟩ := hrel
    rw [List.length_replicate] at hb ho1 hap
    by_cases hlt : na + j < p
    · have hlt2 : ((na : Int) + (j : Int)) < (p : Int) := by omega
      have k1 := hb.cell 1 rfl
      have g1 := hb.free 1
      have HW := Lib.hid (show (List.replicate j (0 : Int)).length < 1099511627776 from by rw [List.length_replicate]; omega)
      have HO1 := Lib.hid ho1
      have HO2 := Lib.hid ho2
      have HAP := Lib.hid hap
      have HB8 := Lib.hid hb
      have HQQ := Lib.hid hqq
      have HSZ := Lib.hid hsz
      clear hb ho1 ho2 hap hqq hsz
      have HRP := Lib.hid (show List.replicate j (0 : Int) ++ [(0 : Int)] = List.replicate (j + 1) 0 from by rw [← List.replicate_succ'])
      go_wp2_with (at_builtin; refine push_int HO1.out rfl _ _ rfl 0 (by rfl) (by rfl) HW.out HSZ.out ?_)
      intro v2 w3 ho3 hg3 hat3
      rw [HRP.out] at ho3
      obtain ⟨b1, d1, rfl, _, _⟩ := ho3.lst.form0 List.length_replicate
      have hb3 := HB8.out.grown HO1.out (by decide) hg3
      have k1 := hb3.cell 1 rfl
      have g1 := hb3.free 1
      have HFR2 := Lib.hid (show FR u7 cs (w3.setCell ⟨u7.heap.size, 1, none⟩ (.slice b1 (j + 1) d1)) (List.replicate (j + 1) 0) [] from
        ⟨b1, d1, a2, e2, by rw [List.length_replicate]; exact hb3.set 1 _, by rw [List.length_replicate]; exact Own_past ho3 hb3 (by decide) 1 _, Own_past (HO2.out.other hg3 HAP.out) hb3 (by decide) 1 _, by rw [List.length_replicate]; exact Apart.push HO2.out HAP.out hat3, Q.setCell (HQQ.out.grown hg3 (fun b h => Nat.le_of_succ_le (HO1.out.lt b h).1)) (Nat.le_refl _) _, by have h1 := HSZ.out; have h2 := hg3.size; simp; omega⟩)
      clear ho3 hg3 hat3 hb3
      go_wp2_with fail
      exact ⟨⟨j + 1, by go_num, by omega, HFR2.out⟩, by simp [intOf]; omega⟩
    · have hjp : j = p1 := by have := HP1.out; omega
      subst hjp
      have hlt2 : ¬ ((na : Int) + (j : Int)) < (p : Int) := by omega
      have k1 := hb.cell 1 rfl
      have g1 := hb.free 1
      have HO1 := Lib.hid ho1
      have HO2 := Lib.hid ho2
      have HAP := Lib.hid hap
      have HB8 := Lib.hid hb
      have HQQ := Lib.hid hqq
      have HSZ := Lib.hid hsz
      have HA8 := Lib.hid (HA7.out.q hqq)
      have HW := Lib.hid (show (List.replicate j (0 : Int)).length + A.length < 1099511627776 from by rw [List.length_replicate, HNA.out.1]; omega)
      clear hb ho1 ho2 hap hqq hsz
      go_wp2_with (at_builtin; refine push_list HO1.out HA8.out rfl _ _ rfl (by rfl) (by rfl) HW.out HSZ.out ?_)
      intro v2 w3 ho3 hg3 hat3
      rw [← HI0.out] at ho3
      obtain ⟨b1, d1, rfl, _, _⟩ := ho3.lst.form0 HL.out.1
      have hb3 := HB8.out.grown HO1.out (by decide) hg3
      have hb4 := hb3.set 1 (.slice b1 nI d1)
      have ho4 := Own_past ho3 hb3 (by decide) 1 (.slice b1 nI d1)
      have hf4 := Own_past (HO2.out.other hg3 HAP.out) hb3 (by decide) 1 (.slice b1 nI d1)
      have hap4 : Apart (.slice b1 nI d1) (.slice a2 0 e2) := Apart.at_push HO2.out HAP.out hat3
      have hq3 := HQQ.out.grown hg3 (fun b h => Nat.le_of_succ_le (HO1.out.lt b h).1)
      have hq4 := Q.setCell hq3 (ad := ⟨u7.heap.size, 1, none⟩) (Nat.le_refl _) (.slice b1 nI d1)
      have hs4 := Nat.le_trans HSZ.out hg3.size
      have k1 := hb3.cell 1 rfl
      have g1 := hb3.free 1
      obtain ⟨w4, hw4⟩ : ∃ u, u = w3.setCell ⟨u7.heap.size, 1, none⟩ (.slice b1 nI d1) := ⟨_, rfl⟩
      have hs5 : u7.heap.size + 1 ≤ w4.heap.size := by rw [hw4]; simpa using hs4
      rw [← hw4] at hb4 ho4 hf4 hq4
      have HB9 := Lib.hid hb4
      have HI9 := Lib.hid ho4
      have HF9 := Lib.hid hf4
      have HAP9 := Lib.hid hap4
      have HQ9 := Lib.hid hq4
      have HS9 := Lib.hid hs5
      clear ho3 hg3 hat3 hb3 hb4 ho4 hf4 hap4 hq3 hq4 hs4 hs5
      go_upto_region 14 with fail
      rw [← hw4]
      clear hw4 k1 g1
      have k3 := HB9.out.cell 3 rfl
      have g3 := HB9.out.free 3
      have HE9 := Lib.hid (HE7.out.q HQ9.out)
      have HW2 := Lib.hid (show ([] : List Int).length + E.length < 1099511627776 from by rw [HNA.out.2]; show 0 + _ < _; omega)
      go_wp2_with (at_builtin; refine push_list HF9.out HE9.out rfl _ _ rfl (by rfl) (by rfl) HW2.out HS9.out ?_)
      intro v5 w5 ho5 hg5 hat5
      replace ho5 : Own w5 (u7.heap.size + 1) v5 E := ho5
      obtain ⟨b2, d2, rfl, _, _⟩ := ho5.lst.form0 HNA.out.2
      have hb5 := HB9.out.grown HF9.out (by decide) hg5
      have hb6 := hb5.set 3 (.slice b2 S d2)
      have ho6 := Own_past ho5 hb5 (by decide) 3 (.slice b2 S d2)
      have hi6 := Own_past (HI9.out.other hg5 HAP9.out.symm) hb5 (by decide) 3 (.slice b2 S d2)
      have hap6 : Apart (.slice b1 nI d1) (.slice b2 S d2) := (Apart.at_push HI9.out HAP9.out.symm hat5).symm
      have hq5 := HQ9.out.grown hg5 (fun b h => Nat.le_of_succ_le (HF9.out.lt b h).1)
      have hq6 := Q.setCell hq5 (ad := ⟨u7.heap.size, 3, none⟩) (Nat.le_refl _) (.slice b2 S d2)
      have hs5 := Nat.le_trans HS9.out hg5.size
      have k3 := hb5.cell 3 rfl
      have g3 := hb5.free 3
      obtain ⟨w6, hw6⟩ : ∃ u, u = w5.setCell ⟨u7.heap.size, 3, none⟩ (.slice b2 S d2) := ⟨_, rfl⟩
      have hs6 : u7.heap.size + 1 ≤ w6.heap.size := by rw [hw6]; simpa using hs5
      rw [← hw6] at hb6 ho6 hi6 hq6
      have HG := Lib.hid (show GR u7 cs nI b1 d1 I0 S E w6 0 from ⟨b2, d2, hb6, hi6, by simpa using ho6, hap6, hq6, hs6⟩)
      clear ho5 hg5 hat5 hb5 hb6 ho6 hi6 hap6 hq5 hq6 hs5 hs6
      go_upto_region 15 with fail
      rw [← hw6]
      clear hw6 k3 g3
      go_loopg [67] q1 (fun gg t wr => ∃ i : Nat, i ≤ q1 ∧ q1 - i ≤ gg ∧ GR u7 cs nI b1 d1 I0 S E wr i)
      case atStart => exact ⟨0, Nat.zero_le _, by omega, HG.out⟩
      case round =>
        obtain ⟨i, hi, hig, a4, e4, hb, ho1, ho2, hap, hqq, hsz⟩ := hrel
        have k3 := hb.cell 3 rfl
        have g3 := hb.free 3
        have HO1 := Lib.hid ho1
        have HO2 := Lib.hid ho2
        have HAP := Lib.hid hap
        have HB8 := Lib.hid hb
        have HQQ := Lib.hid hqq
        have HSZ := Lib.hid hsz
        clear ho1 ho2 hap hqq hsz
        have hqs := HQ1'.out
        by_cases hlt : S + i < q
        · have hlt2 : ((S : Int) + (i : Int)) < (q : Int) := by omega
          have hi2 : i + 1 ≤ q1 := by omega
          have HW := Lib.hid (show (E ++ List.replicate i (0 : Int)).length < 1099511627776 from by rw [List.length_append, List.length_replicate, HNA.out.2]; omega)
          have HRP := Lib.hid (show E ++ List.replicate i (0 : Int) ++ [(0 : Int)] = E ++ List.replicate (i + 1) 0 from by rw [List.append_assoc, ← List.replicate_succ'])
          clear hqs hb
          go_wp2_with (at_builtin; refine push_int HO2.out rfl _ _ rfl 0 (by rfl) (by rfl) HW.out HSZ.out ?_)
          intro v2 w7 ho3 hg3 hat3
          rw [← List.append_assoc, HRP.out] at ho3
          obtain ⟨b5, d5, rfl, _, _⟩ := ho3.lst.form0 (n := S + i + 1) (by rw [List.length_append, List.length_replicate, HNA.out.2]; omega)
          have hb3 := HB8.out.grown HO2.out (by decide) hg3
          have k3 := hb3.cell 3 rfl
          have g3 := hb3.free 3
          have HG2 := Lib.hid (show GR u7 cs nI b1 d1 I0 S E (w7.setCell ⟨u7.heap.size, 3, none⟩ (.slice b5 (S + i + 1) d5)) (i + 1) from
            ⟨b5, d5, hb3.set 3 _, Own_past (HO1.out.other hg3 HAP.out.symm) hb3 (by decide) 3 _, Own_past ho3 hb3 (by decide) 3 _, (Apart.push HO1.out HAP.out.symm hat3).symm, Q.setCell (HQQ.out.grown hg3 (fun b h => Nat.le_of_succ_le (HO2.out.lt b h).1)) (Nat.le_refl _) _, by have h1 := HSZ.out; have h2 := hg3.size; simp; omega⟩)
          clear ho3 hg3 hat3 hb3
          go_wp2_with fail
          go_roundg (q1 - (i + 1))
          case measure => omega
          case rel => exact ⟨i + 1, hi2, Nat.le_refl _, HG2.out⟩
        · have hiq : i = q1 := by omega
          subst hiq
          have hlt2 : ¬ ((S : Int) + (i : Int)) < (q : Int) := by omega
          have hnf : S + i = nF := HNI.out.2.symm
          have hf0e : E ++ List.replicate i (0 : Int) = F0 := HF0.out.symm
          have ho2 := HO2.out
          have hap := HAP.out
          rw [hf0e] at ho2
          rw [hnf] at ho2 hb k3 hap
          have hlt3 : ¬ ((nF : Nat) : Int) < (q : Int) := by omega
          have y2 := hb.cell 2 rfl
          have g2 := hb.free 2
          have HK7 := Lib.hid hb
          have HF7 := Lib.hid ho2
          have HD8 := Lib.hid (HD7.out.q HQQ.out)
          have HQ8' := Lib.hid (HQ7.out.trans HQQ.out)
          have HWX := Lib.hid HQ7.out.le
          have HNX := Lib.hid (show u7.heap.size ≠ w.heap.size + 1 by have := HS7.out; omega)
          have HU7 := Lib.hid (show w.heap.size + 2 ≤ u7.heap.size + 1 from Nat.le_succ_of_le HS7.out)
          clear hnf hf0e ho2 hap hb hqs hlt2
          by_cases hf0 : 0 < nF
          · have e0 : (nF : Int) > 0 := by omega
            by_cases hi0 : nI = 0
            · subst hi0
              have HK8 := Lib.hid (HK7.out.set 2 (.bool true))
              have HI8 := Lib.hid (Own_past HO1.out HK7.out (by decide) 2 (.bool true))
              have HF8 := Lib.hid (Own_past HF7.out HK7.out (by decide) 2 (.bool true))
              have HD9 := Lib.hid (HD8.out.past (g := u7.heap.size) (i := 2) HNX.out (.bool true))
              have HQ9 := Lib.hid (Q.setCell HQ8'.out (ad := ⟨u7.heap.size, 2, none⟩) HWX.out (.bool true))
              obtain ⟨v8, hv8⟩ : ∃ u, u = wr.setCell ⟨u7.heap.size, 2, none⟩ (.bool true) := ⟨_, rfl⟩
              rw [← hv8] at HK8 HI8 HF8 HD9 HQ9
              clear HK7 HF7 HD8
              go_upto_region 18 with fail
              rw [← hv8]
              clear hv8 y2 k3 g2 g3
              have y0 := HK8.out.cell 0 rfl
              have g0 := HK8.out.free 0
              have y1 := HK8.out.cell 1 rfl
              have g1 := HK8.out.free 1
              have y2 := HK8.out.cell 2 rfl
              have g2 := HK8.out.free 2
              have y3 := HK8.out.cell 3 rfl
              have g3 := HK8.out.free 3
              have pp0 := HD9.out.cell 0 rfl
              have pf0 := HD9.out.free 0
              have pp1 := HD9.out.cell 1 rfl
              have pf1 := HD9.out.free 1
              have pp2 := HD9.out.cell 2 rfl
              have pf2 := HD9.out.free 2
              have pp3 := HD9.out.cell 3 rfl
              have pf3 := HD9.out.free 3
              go_wp2_with fail
              have hz1 := Own_past4 HI8.out HD9.out (by decide) (.bool cs) (.slice b1 0 d1) (.bool true) (.slice a4 nF e4)
              have hz2 := Own_past4 HF8.out HD9.out (by decide) (.bool cs) (.slice b1 0 d1) (.bool true) (.slice a4 nF e4)
              replace hz1 := hz1.mono HU7.out
              replace hz2 := hz2.mono HU7.out
              refine ret_d2 rfl rfl rfl rfl ((((HD9.out.set 0 _).set 1 _).set 2 _).set 3 _) rfl ⟨.agg #[.bool cs, .slice b1 0 d1, .bool true, .slice a4 nF e4], rfl, ?_, Q.setCell (Q.setCell (Q.setCell (Q.setCell HQ9.out HWD.out _) HWD.out _) HWD.out _) HWD.out _⟩
              have hi1 : I1 = I0 := HI1.out.trans (if_neg (by first | assumption | omega))
              have hv1 : sv = true := HSV.out.trans (decide_eq_true hf0)
              subst hi1
              subst hv1
              exact ⟨b1, d1, a4, e4, by rw [HL.out.1, HL.out.2], by rw [HL.out.1]; exact hz1, by rw [HL.out.2]; exact hz2⟩
            · have e1 : ((nI : Int) == 0) = false := by rw [beq_eq_false_iff_ne]; omega
              have HK8 := Lib.hid (HK7.out.set 2 (.bool true))
              have HI8 := Lib.hid (Own_past HO1.out HK7.out (by decide) 2 (.bool true))
              have HF8 := Lib.hid (Own_past HF7.out HK7.out (by decide) 2 (.bool true))
              have HD9 := Lib.hid (HD8.out.past (g := u7.heap.size) (i := 2) HNX.out (.bool true))
              have HQ9 := Lib.hid (Q.setCell HQ8'.out (ad := ⟨u7.heap.size, 2, none⟩) HWX.out (.bool true))
              obtain ⟨v8, hv8⟩ : ∃ u, u = wr.setCell ⟨u7.heap.size, 2, none⟩ (.bool true) := ⟨_, rfl⟩
              rw [← hv8] at HK8 HI8 HF8 HD9 HQ9
              clear HK7 HF7 HD8
              go_upto_region 18 with fail
              rw [← hv8]
              clear hv8 y2 k3 g2 g3
              have y0 := HK8.out.cell 0 rfl
              have g0 := HK8.out.free 0
              have y1 := HK8.out.cell 1 rfl
              have g1 := HK8.out.free 1
              have y2 := HK8.out.cell 2 rfl
              have g2 := HK8.out.free 2
              have y3 := HK8.out.cell 3 rfl
              have g3 := HK8.out.free 3
              have pp0 := HD9.out.cell 0 rfl
              have pf0 := HD9.out.free 0
              have pp1 := HD9.out.cell 1 rfl
              have pf1 := HD9.out.free 1
              have pp2 := HD9.out.cell 2 rfl
              have pf2 := HD9.out.free 2
              have pp3 := HD9.out.cell 3 rfl
              have pf3 := HD9.out.free 3
              go_wp2_with fail
              have hz1 := Own_past4 HI8.out HD9.out (by decide) (.bool cs) (.slice b1 nI d1) (.bool true) (.slice a4 nF e4)
              have hz2 := Own_past4 HF8.out HD9.out (by decide) (.bool cs) (.slice b1 nI d1) (.bool true) (.slice a4 nF e4)
              replace hz1 := hz1.mono HU7.out
              replace hz2 := hz2.mono HU7.out
              refine ret_d2 rfl rfl rfl rfl ((((HD9.out.set 0 _).set 1 _).set 2 _).set 3 _) rfl ⟨.agg #[.bool cs, .slice b1 nI d1, .bool true, .slice a4 nF e4], rfl, ?_, Q.setCell (Q.setCell (Q.setCell (Q.setCell HQ9.out HWD.out _) HWD.out _) HWD.out _) HWD.out _⟩
              have hi1 : I1 = I0 := HI1.out.trans (if_neg (by first | assumption | omega))
              have hv1 : sv = true := HSV.out.trans (decide_eq_true hf0)
              subst hi1
              subst hv1
              exact ⟨b1, d1, a4, e4, by rw [HL.out.1, HL.out.2], by rw [HL.out.1]; exact hz1, by rw [HL.out.2]; exact hz2⟩
          · have hf1 : nF = 0 := by omega
            subst hf1
            by_cases hi0 : nI = 0
            · subst hi0
              have HK8 := Lib.hid (HK7.out.set 2 (.bool false))
              have HI8 := Lib.hid (Own_past HO1.out HK7.out (by decide) 2 (.bool false))
              have HF8 := Lib.hid (Own_past HF7.out HK7.out (by decide) 2 (.bool false))
              have HD9 := Lib.hid (HD8.out.past (g := u7.heap.size) (i := 2) HNX.out (.bool false))
              have HQ9 := Lib.hid (Q.setCell HQ8'.out (ad := ⟨u7.heap.size, 2, none⟩) HWX.out (.bool false))
              obtain ⟨v8, hv8⟩ : ∃ u, u = wr.setCell ⟨u7.heap.size, 2, none⟩ (.bool false) := ⟨_, rfl⟩
              rw [← hv8] at HK8 HI8 HF8 HD9 HQ9
              have HV8 := Lib.hid (show u7.heap.size + 1 ≤ v8.heap.size by rw [hv8]; simpa using HSZ.out)
              clear HK7 HF7 HD8
              go_upto_region 18 with fail
              rw [← hv8]
              clear hv8 y2 k3 g2 g3
              have y0 := HK8.out.cell 0 rfl
              have g0 := HK8.out.free 0
              have y1 := HK8.out.cell 1 rfl
              have g1 := HK8.out.free 1
              have y2 := HK8.out.cell 2 rfl
              have g2 := HK8.out.free 2
              have y3 := HK8.out.cell 3 rfl
              have g3 := HK8.out.free 3
              have hlit : Own (v8.alloc (.cells #[.int .i64 0] 3)) v8.heap.size (.slice (some ⟨v8.heap.size, 0, none⟩) 1 1) [0] := Own.lit v8 [0] 1 rfl (by unfold maxLen; omega)
              have hqa : Q v8 (v8.alloc (.cells #[.int .i64 0] 3)) := (Q.refl v8).alloc _
              have hk := HK8.out.q hqa
              have HK10 := Lib.hid (hk.set 1 (.slice (some ⟨v8.heap.size, 0, none⟩) 1 1))
              have HI10 := Lib.hid (Own_past (hlit.mono HV8.out) hk (by decide) 1 (.slice (some ⟨v8.heap.size, 0, none⟩) 1 1))
              have HF10 := Lib.hid (Own_past (HF8.out.q hqa) hk (by decide) 1 (.slice (some ⟨v8.heap.size, 0, none⟩) 1 1))
              have HD10 := Lib.hid ((HD9.out.q hqa).past (g := u7.heap.size) (i := 1) HNX.out (.slice (some ⟨v8.heap.size, 0, none⟩) 1 1))
              have HQ10 := Lib.hid (Q.setCell (HQ9.out.trans hqa) (ad := ⟨u7.heap.size, 1, none⟩) HWX.out (.slice (some ⟨v8.heap.size, 0, none⟩) 1 1))
              obtain ⟨v10, hv10⟩ : ∃ u, u = (v8.alloc (.cells #[.int .i64 0] 3)).setCell ⟨u7.heap.size, 1, none⟩ (.slice (some ⟨v8.heap.size, 0, none⟩) 1 1) := ⟨_, rfl⟩
              rw [← hv10] at HK10 HI10 HF10 HD10 HQ10
              have q1' := hk.cell 1 rfl
              have r1' := hk.free 1
              clear hlit hqa hk HK8 HI8 HF8 HD9 HQ9
              go_upto_region 20 with fail
              rw [← hv10]
              clear hv10 y0 y1 y2 y3 g0 g1 g2 g3 q1' r1'
              have y0 := HK10.out.cell 0 rfl
              have g0 := HK10.out.free 0
              have y1 := HK10.out.cell 1 rfl
              have g1 := HK10.out.free 1
              have y2 := HK10.out.cell 2 rfl
              have g2 := HK10.out.free 2
              have y3 := HK10.out.cell 3 rfl
              have g3 := HK10.out.free 3
              have pp0 := HD10.out.cell 0 rfl
              have pf0 := HD10.out.free 0
              have pp1 := HD10.out.cell 1 rfl
              have pf1 := HD10.out.free 1
              have pp2 := HD10.out.cell 2 rfl
              have pf2 := HD10.out.free 2
              have pp3 := HD10.out.cell 3 rfl
              have pf3 := HD10.out.free 3
              go_wp2_with fail
              have hz1 := Own_past4 HI10.out HD10.out (by decide) (.bool cs) (.slice (some ⟨v8.heap.size, 0, none⟩) 1 1) (.bool false) (.slice a4 0 e4)
              have hz2 := Own_past4 HF10.out HD10.out (by decide) (.bool cs) (.slice (some ⟨v8.heap.size, 0, none⟩) 1 1) (.bool false) (.slice a4 0 e4)
              replace hz1 := hz1.mono HU7.out
              replace hz2 := hz2.mono HU7.out
              refine ret_d2 rfl rfl rfl rfl ((((HD10.out.set 0 _).set 1 _).set 2 _).set 3 _) rfl ⟨.agg #[.bool cs, .slice (some ⟨v8.heap.size, 0, none⟩) 1 1, .bool false, .slice a4 0 e4], rfl, ?_, Q.setCell (Q.setCell (Q.setCell (Q.setCell HQ10.out HWD.out _) HWD.out _) HWD.out _) HWD.out _⟩
              have hi1 : I1 = [0] := HI1.out.trans (if_pos (by first | trivial | rfl | omega))
              have hv1 : sv = false := HSV.out.trans (by simp)
              subst hi1
              subst hv1
              exact ⟨some ⟨v8.heap.size, 0, none⟩, 1, a4, e4, by rw [HL.out.2]; rfl, hz1, by rw [HL.out.2]; exact hz2⟩
            · have e1 : ((nI : Int) == 0) = false := by rw [beq_eq_false_iff_ne]; omega
              have HK8 := Lib.hid (HK7.out.set 2 (.bool false))
              have HI8 := Lib.hid (Own_past HO1.out HK7.out (by decide) 2 (.bool false))
              have HF8 := Lib.hid (Own_past HF7.out HK7.out (by decide) 2 (.bool false))
              have HD9 := Lib.hid (HD8.out.past (g := u7.heap.size) (i := 2) HNX.out (.bool false))
              have HQ9 := Lib.hid (Q.setCell HQ8'.out (ad := ⟨u7.heap.size, 2, none⟩) HWX.out (.bool false))
              obtain ⟨v8, hv8⟩ : ∃ u, u = wr.setCell ⟨u7.heap.size, 2, none⟩ (.bool false) := ⟨_, rfl⟩
              rw [← hv8] at HK8 HI8 HF8 HD9 HQ9
              clear HK7 HF7 HD8
              go_upto_region 18 with fail
              rw [← hv8]
              clear hv8 y2 k3 g2 g3
              have y0 := HK8.out.cell 0 rfl
              have g0 := HK8.out.free 0
              have y1 := HK8.out.cell 1 rfl
              have g1 := HK8.out.free 1
              have y2 := HK8.out.cell 2 rfl
              have g2 := HK8.out.free 2
              have y3 := HK8.out.cell 3 rfl
              have g3 := HK8.out.free 3
              have pp0 := HD9.out.cell 0 rfl
              have pf0 := HD9.out.free 0
              have pp1 := HD9.out.cell 1 rfl
              have pf1 := HD9.out.free 1
              have pp2 := HD9.out.cell 2 rfl
              have pf2 := HD9.out.free 2
              have pp3 := HD9.out.cell 3 rfl
              have pf3 := HD9.out.free 3
              go_wp2_with fail
              have hz1 := Own_past4 HI8.out HD9.out (by decide) (.bool cs) (.slice b1 nI d1) (.bool false) (.slice a4 0 e4)
              have hz2 := Own_past4 HF8.out HD9.out (by decide) (.bool cs) (.slice b1 nI d1) (.bool false) (.slice a4 0 e4)
              replace hz1 := hz1.mono HU7.out
              replace hz2 := hz2.mono HU7.out
              refine ret_d2 rfl rfl rfl rfl ((((HD9.out.set 0 _).set 1 _).set 2 _).set 3 _) rfl ⟨.agg #[.bool cs, .slice b1 nI d1, .bool false, .slice a4 0 e4], rfl, ?_, Q.setCell (Q.setCell (Q.setCell (Q.setCell HQ9.out HWD.out _) HWD.out _) HWD.out _) HWD.out _⟩
              have hi1 : I1 = I0 := HI1.out.trans (if_neg (by first | assumption | omega))
              have hv1 : sv = false := HSV.out.trans (by simp)
              subst hi1
              subst hv1
              exact ⟨b1, d1, a4, e4, by rw [HL.out.1, HL.out.2], by rw [HL.out.1]; exact hz1, by rw [HL.out.2]; exact hz2⟩
end Tr
end Go.Proofs.Ytagpofhencpliaa
