/- What package draft's From comes to, by a walk through it. -/
import Derived.Test.YtagpofhencpliaaRows
import Derived.Test.YtagpofhencpliaaTmM
import Derived.Test.YtagpofhencpliaaTmS
import Derived.Test.YtagpofhencpliaaTmA
import Derived.Test.YtagpofhencpliaaTmB
import Derived.Test.YtagpofhencpliaaTmC
import Derived.Test.YtagpofhencpliaaTmD
import Derived.Test.YtagpofhencpliaaTmF
import Derived.Test.YtagpofhencpliaaDigM
import Derived.Test.YtagpofhencpliaaDigL
import Derived.Test.YtagpofhencpliaaDecM
import Derived.Test.YtagpofhencpliaaInts
import Derived.Test.YtagpofhencpliaaSto
import Derived.Test.YtagpofhencpliaaBlk
import Derived.Test.YtagpofhencpliaaDecR
import Derived.Test.YtagpofhencpliaaDecP
import Derived.Test.YtagpofhencpliaaDecQ
import Derived.Test.YtagpofhencpliaaDecK
import Derived.Test.YtagpofhencpliaaLdR
import Derived.Deep.Cut
import Derived.Deep.RegionHeld
import Derived.Deep.QuietTactic
import Derived.Deep.RegionWith
import Derived.BigQuiet
import Derived.Laws.ResultCell
set_option linter.unusedVariables false
set_option linter.unusedSimpArgs false
namespace Go.Proofs.Ytagpofhencpliaa
open Go.RowKit
namespace Tp
open Tm
set_option maxRecDepth 100000 in
set_option maxHeartbeats 1500000 in
theorem from_bad (g : Bool) (a : Option Addr) (n c : Nat) (s whole rest : Int) (L : List Int) (w : World) (hv : Lst w (.slice a n c) L) (k1 : L.length = n) (l1 : n ≤ 1000) (hs : -9223372036854775808 ≤ s ∧ s ≤ 9223372036854775807)
    (h : (Dm.okB L && decide (0 ≤ s) && decide (s ≤ 1000)) = false ∨ whole < 0 ∨ 64 < whole ∨ rest < 0 ∨ 64 < rest) :
    Calls Try.prog 33 #[.agg #[.bool g, .slice a n c, .int .i64 s], .int .i64 whole, .int .i64 rest] w fun e w' => ∃ x, e = .returned (.tuple #[x, .int .i64 (frC L s whole rest)]) ∧ LD w' (w.heap.size + 2) x (frR g L s whole rest) ∧ Q w w' := by
  have HMY := Lib.hid (fun u (q : Q w u) => Ep.may_any g _ s L u (hv.q q) (by omega) hs)
  have HO1 := Lib.hid (fun u => ((outside_any whole u).mono fun _ _ h => ⟨h.1, Qeq h.2⟩ : Calls Try.prog 52 #[.int .i64 whole] u fun e w' => e = .returned (.bool (decide (whole < 0 ∨ 64 < whole))) ∧ Q u w'))
  have HO2 := Lib.hid (fun u => ((outside_any rest u).mono fun _ _ h => ⟨h.1, Qeq h.2⟩ : Calls Try.prog 52 #[.int .i64 rest] u fun e w' => e = .returned (.bool (decide (rest < 0 ∨ 64 < rest))) ∧ Q u w'))
  unfold Er.dv at HMY
  have hbad := fun h => frC_bad (g := g) (L := L) (s := s) (whole := whole) (rest := rest) h
  have hfar := fun h h2 => frC_far (g := g) (L := L) (s := s) (whole := whole) (rest := rest) h h2
  generalize (Dm.okB L && decide (0 ≤ s) && decide (s ≤ 1000)) = r at *
  generalize frC L s whole rest = C at *
  generalize frR g L s whole rest = R at *
  obtain ⟨y, hy⟩ : ∃ y, y = w.alloc (.cells #[.bool g, .slice a n c, .int .i64 s] 41) := ⟨_, rfl⟩
  have hqy : Q w y := by rw [hy]; exact (Q.refl w).alloc _
  have hby : Bk y w.heap.size 41 [.bool g, .slice a n c, .int .i64 s] := by rw [hy]; exact Bk.new _ _ _
  have hsy : y.heap.size = w.heap.size + 1 := by rw [hy]; simp
  obtain ⟨z, hz⟩ : ∃ z, z = y.alloc (.cells #[.bool false, .slice none 0 0, .bool false, .slice none 0 0] 30) := ⟨_, rfl⟩
  have hqz : Q y z := by rw [hz]; exact (Q.refl y).alloc _
  have HQ := Lib.hid (hqy.trans hqz)
  have HB := Lib.hid (hby.q hqz)
  have HD := Lib.hid (show Bk z (w.heap.size + 1) 30 [.bool false, .slice none 0 0, .bool false, .slice none 0 0] by rw [hz, ← hsy]; exact Bk.new _ _ _)
  have HWD := Lib.hid (Nat.le_succ w.heap.size)
  have hz2 : z = (w.alloc (.cells #[.bool g, .slice a n c, .int .i64 s] 41)).alloc (.cells #[.bool false, .slice none 0 0, .bool false, .slice none 0 0] 30) := by rw [hz, hy]
  clear hqy hby hsy hqz hz hy hv k1
  cases r
  · obtain ⟨rfl, rfl⟩ := hbad rfl
    clear hbad hfar
    go_enter Try.func33, Try.ntmps33
    go_upto_region 1 with fail
    rw [← hz2]
    clear hz2
    have x0 := HB.out.cell 0 rfl
    have x1 := HB.out.cell 1 rfl
    have x2 := HB.out.cell 2 rfl
    go_wp2_with fail
    refine (HMY.out _ HQ.out).mono ?_
    rintro e u1 ⟨rfl, hq⟩
    have HB1 := Lib.hid (HB.out.q hq)
    have HD1 := Lib.hid (HD.out.q hq)
    have HQ1 := Lib.hid (HQ.out.trans hq)
    clear hq x0 x1 x2 HB HD HQ
    have b0 := HD1.out.cell 0 rfl
    have f0 := HD1.out.free 0
    have b1 := HD1.out.cell 1 rfl
    have f1 := HD1.out.free 1
    have b2 := HD1.out.cell 2 rfl
    have f2 := HD1.out.free 2
    have b3 := HD1.out.cell 3 rfl
    have f3 := HD1.out.free 3
    go_wp2_with fail
    exact ret_d2 rfl rfl rfl rfl ((((HD1.out.set 0 _).set 1 _).set 2 _).set 3 _) rfl ⟨_, rfl, LD.zero _ _, Q.setCell (Q.setCell (Q.setCell (Q.setCell HQ1.out HWD.out _) HWD.out _) HWD.out _) HWD.out _⟩
  · replace h : whole < 0 ∨ 64 < whole ∨ rest < 0 ∨ 64 < rest := h.resolve_left (by decide)
    obtain ⟨rfl, rfl⟩ := hfar rfl h
    clear hbad hfar
    by_cases h1 : whole < 0 ∨ 64 < whole
    · rw [decide_eq_true h1] at HO1
      clear h h1
      go_enter Try.func33, Try.ntmps33
      go_upto_region 1 with fail
      rw [← hz2]
      clear hz2
      have x0 := HB.out.cell 0 rfl
      have x1 := HB.out.cell 1 rfl
      have x2 := HB.out.cell 2 rfl
      go_wp2_with fail
      refine (HMY.out _ HQ.out).mono ?_
      rintro e u1 ⟨rfl, hq⟩
      have HB1 := Lib.hid (HB.out.q hq)
      have HD1 := Lib.hid (HD.out.q hq)
      have HQ1 := Lib.hid (HQ.out.trans hq)
      clear hq x0 x1 x2 HB HD HQ
      go_wp2_with fail
      refine (HO1.out _).mono ?_
      rintro e u2 ⟨rfl, hq⟩
      have HB2 := Lib.hid (HB1.out.q hq)
      have HD2 := Lib.hid (HD1.out.q hq)
      have HQ2 := Lib.hid (HQ1.out.trans hq)
      clear hq HB1 HD1 HQ1
      have b0 := HD2.out.cell 0 rfl
      have f0 := HD2.out.free 0
      have b1 := HD2.out.cell 1 rfl
      have f1 := HD2.out.free 1
      have b2 := HD2.out.cell 2 rfl
      have f2 := HD2.out.free 2
      have b3 := HD2.out.cell 3 rfl
      have f3 := HD2.out.free 3
      go_wp2_with fail
      exact ret_d2 rfl rfl rfl rfl ((((HD2.out.set 0 _).set 1 _).set 2 _).set 3 _) rfl ⟨_, rfl, LD.zero _ _, Q.setCell (Q.setCell (Q.setCell (Q.setCell HQ2.out HWD.out _) HWD.out _) HWD.out _) HWD.out _⟩
    · have h2 : rest < 0 ∨ 64 < rest := by omega
      rw [decide_eq_false h1] at HO1
      rw [decide_eq_true h2] at HO2
      clear h h1 h2
      go_enter Try.func33, Try.ntmps33
      go_upto_region 1 with fail
      rw [← hz2]
      clear hz2
      have x0 := HB.out.cell 0 rfl
      have x1 := HB.out.cell 1 rfl
      have x2 := HB.out.cell 2 rfl
      go_wp2_with fail
      refine (HMY.out _ HQ.out).mono ?_
      rintro e u1 ⟨rfl, hq⟩
      have HB1 := Lib.hid (HB.out.q hq)
      have HD1 := Lib.hid (HD.out.q hq)
      have HQ1 := Lib.hid (HQ.out.trans hq)
      clear hq x0 x1 x2 HB HD HQ
      go_wp2_with fail
      refine (HO1.out _).mono ?_
      rintro e u2 ⟨rfl, hq⟩
      have HB2 := Lib.hid (HB1.out.q hq)
      have HD2 := Lib.hid (HD1.out.q hq)
      have HQ2 := Lib.hid (HQ1.out.trans hq)
      clear hq HB1 HD1 HQ1
      go_wp2_with fail
      refine (HO2.out _).mono ?_
      rintro e u3 ⟨rfl, hq⟩
      have HB3 := Lib.hid (HB2.out.q hq)
      have HD3 := Lib.hid (HD2.out.q hq)
      have HQ3 := Lib.hid (HQ2.out.trans hq)
      clear hq HB2 HD2 HQ2
      have b0 := HD3.out.cell 0 rfl
      have f0 := HD3.out.free 0
      have b1 := HD3.out.cell 1 rfl
      have f1 := HD3.out.free 1
      have b2 := HD3.out.cell 2 rfl
      have f2 := HD3.out.free 2
      have b3 := HD3.out.cell 3 rfl
      have f3 := HD3.out.free 3
      go_wp2_with fail
      exact ret_d2 rfl rfl rfl rfl ((((HD3.out.set 0 _).set 1 _).set 2 _).set 3 _) rfl ⟨_, rfl, LD.zero _ _, Q.setCell (Q.setCell (Q.setCell (Q.setCell HQ3.out HWD.out _) HWD.out _) HWD.out _) HWD.out _⟩

set_option maxRecDepth 100000 in
set_option maxHeartbeats 3000000 in
theorem from_ok (g : Bool) (a : Option Addr) (n c : Nat) (s p q : Nat) (L : List Int) (w : World) (hv : Lst w (.slice a n c) L) (k1 : L.length = n) (l1 : n ≤ 1000) (hL : Dm.okD L) (hs : s ≤ 1000) (hp : p ≤ 64) (hq : q ≤ 64) :
    Calls Try.prog 33 #[.agg #[.bool g, .slice a n c, .int .i64 (s : Nat)], .int .i64 (p : Nat), .int .i64 (q : Nat)] w fun e w' => ∃ x, e = .returned (.tuple #[x, .int .i64 (frC L s p q)]) ∧ LD w' (w.heap.size + 2) x (frR g L s p q) ∧ Q w w' := by
  have hfr := frC_in (g := g) ((Dm.okB_iff L).2 hL) hs hp hq
  rw [hfr.1, hfr.2]
  have HMY := Lib.hid (fun u (qq : Q w u) => (by
    have e := Ep.may_any g _ s L u (hv.q qq) (by omega) (by omega)
    rw [(Dm.okB_iff L).2 hL, decide_eq_true (show 0 ≤ (s : Int) from by omega), decide_eq_true (show (s : Int) ≤ 1000 from by omega)] at e
    exact e : Calls Try.prog 51 #[.agg #[.bool g, .slice a n c, .int .i64 (s : Nat)]] u fun e w' => e = .returned (.bool true) ∧ Q u w'))
  have HO1 := Lib.hid (fun u => ((outside_any p u).mono fun _ _ h => ⟨by rw [h.1, decide_eq_false (show ¬ ((p : Int) < 0 ∨ 64 < (p : Int)) from by omega)], Qeq h.2⟩ : Calls Try.prog 52 #[.int .i64 (p : Nat)] u fun e w' => e = .returned (.bool false) ∧ Q u w'))
  have HO2 := Lib.hid (fun u => ((outside_any q u).mono fun _ _ h => ⟨by rw [h.1, decide_eq_false (show ¬ ((q : Int) < 0 ∨ 64 < (q : Int)) from by omega)], Qeq h.2⟩ : Calls Try.prog 52 #[.int .i64 (q : Nat)] u fun e w' => e = .returned (.bool false) ∧ Q u w'))
  obtain ⟨cs, hcs⟩ : ∃ cs, cs = Dm.cg g (Dm.num L) := ⟨_, rfl⟩
  obtain ⟨D, hD⟩ : ∃ D, D = Dm.dg (Dm.st (Dm.num L) s).1 := ⟨_, rfl⟩
  obtain ⟨S, hS⟩ : ∃ S, S = (Dm.st (Dm.num L) s).2 := ⟨_, rfl⟩
  have hSl : S ≤ 1000 := by have := Dm.st_le (Dm.num L) s; omega
  have hDl : D.length ≤ 1000 := by
    have h1 : (Dm.st (Dm.num L) s).1 ≤ Dm.num L := by
      have h2 := Dm.st_num (Dm.num L) s
      have h3 := Nat.le_mul_of_pos_right (Dm.st (Dm.num L) s).1 (Nat.pow_pos (n := s - (Dm.st (Dm.num L) s).2) (show 0 < 10 from by omega))
      omega
    have h2 := Dm.dg_len_le _ _ h1
    have h3 := Dm.dg_len L hL
    rw [hD]; omega
  have hDo : Dm.okD D := by rw [hD]; exact Dm.okD_dg _
  obtain ⟨r, hr⟩ : ∃ r, r = D.length := ⟨_, rfl⟩
  have HTM := Lib.hid (fun u (qq : Q w u) => (by
    refine (Ep.trim_any g _ s L u (hv.q qq) (by omega) hL hs).mono ?_
    rintro e w' ⟨x, rfl, hx, hq⟩
    rw [← hD] at hx
    obtain ⟨xa, xc, rfl⟩ := hx.shape
    rw [← hr] at hx
    rw [← hcs, ← hS]
    exact ⟨xa, xc, by rw [hr]; rfl, hx, hq⟩ : Calls Try.prog 53 #[.agg #[.bool g, .slice a n c, .int .i64 (s : Nat)]] u fun e w' => ∃ xa xc, e = .returned (.agg #[.bool cs, .slice xa r xc, .int .i64 (S : Nat)]) ∧ Er.LF w' (u.heap.size + 2) (.slice xa r xc) D ∧ Q u w'))
  obtain ⟨A, hA⟩ : ∃ A, A = Dm.dg (Dm.num ((pad D S).take (D.length - S))) := ⟨_, rfl⟩
  obtain ⟨E, hE⟩ : ∃ E, E = (pad D S).drop (D.length - S) := ⟨_, rfl⟩
  obtain ⟨na, hna⟩ : ∃ na, na = A.length := ⟨_, rfl⟩
  have hEl : E.length = S := by rw [hE, List.length_drop, pad_len]; omega
  have hAl : na ≤ 2000 := by
    have h1 := Dm.dg_len _ (Dm.okD_take (pad_ok D S hDo) (D.length - S))
    rw [List.length_take, pad_len] at h1
    rw [hna, hA]; omega
  have HPT := Lib.hid (fun u xa xc (h : Lst u (.slice xa r xc) D) => (by
    refine (Ep.parts_any cs (.slice xa r xc) S D u h (by omega) hDo hSl).mono ?_
    rintro e w' ⟨x, y, rfl, hx, hy, hq⟩
    have hx2 : Lst w' x A := by rw [hA]; exact hx
    have hy2 : Lst w' y E := by rw [hE]; exact hy
    obtain ⟨x1, x2, rfl, _, _⟩ := hx2.form0 hna.symm
    obtain ⟨y1, y2, rfl, _, _⟩ := hy2.form0 hEl
    exact ⟨x1, x2, y1, y2, rfl, hx2, hy2, hq⟩ : Calls Try.prog 54 #[.agg #[.bool cs, .slice xa r xc, .int .i64 (S : Nat)]] u fun e w' => ∃ x1 x2 y1 y2, e = .returned (.tuple #[.slice x1 na x2, .slice y1 S y2]) ∧ Lst w' (.slice x1 na x2) A ∧ Lst w' (.slice y1 S y2) E ∧ Q u w'))
  obtain ⟨p1, hp1⟩ : ∃ p1, p1 = p - na := ⟨_, rfl⟩
  obtain ⟨q1, hq1⟩ : ∃ q1, q1 = q - S := ⟨_, rfl⟩
  have HN1 := Lib.hid (fun u => (by
    refine (noughts_any ((p : Int) - (na : Int)) u (by omega)).mono ?_
    rintro e w' ⟨x, rfl, hx, hq⟩
    rw [show ((p : Int) - (na : Int)).toNat = p1 from by omega] at hx
    obtain ⟨xa, xc, rfl, _, _⟩ := hx.lst.form0 (List.length_replicate)
    exact ⟨xa, xc, rfl, hx.lst, hq⟩ : Calls Try.prog 55 #[.int .i64 ((p : Int) - (na : Int))] u fun e w' => ∃ xa xc, e = .returned (.slice xa p1 xc) ∧ Lst w' (.slice xa p1 xc) (List.replicate p1 0) ∧ Q u w'))
  have HN2 := Lib.hid (fun u => (by
    refine (noughts_any ((q : Int) - (S : Int)) u (by omega)).mono ?_
    rintro e w' ⟨x, rfl, hx, hq⟩
    rw [show ((q : Int) - (S : Int)).toNat = q1 from by omega] at hx
    obtain ⟨xa, xc, rfl, _, _⟩ := hx.lst.form0 (List.length_replicate)
    exact ⟨xa, xc, rfl, hx.lst, hq⟩ : Calls Try.prog 55 #[.int .i64 ((q : Int) - (S : Int))] u fun e w' => ∃ xa xc, e = .returned (.slice xa q1 xc) ∧ Lst w' (.slice xa q1 xc) (List.replicate q1 0) ∧ Q u w'))
  have HN3 := Lib.hid (fun u => (by
    refine (noughts_any 1 u (by omega)).mono ?_
    rintro e w' ⟨x, rfl, hx, hq⟩
    obtain ⟨xa, xc, rfl⟩ := hx.shape
    exact ⟨xa, xc, rfl, hx, hq⟩ : Calls Try.prog 55 #[.int .i64 1] u fun e w' => ∃ xa xc, e = .returned (.slice xa 1 xc) ∧ Own w' u.heap.size (.slice xa 1 xc) [0] ∧ Q u w'))
  have HC1 := Lib.hid (fun u b x1 x2 y1 y2 (hB : Bk u b 22 [.slice x1 p1 x2, .slice y1 na y2]) (h1 : Lst u (.slice x1 p1 x2) (List.replicate p1 0)) (h2 : Lst u (.slice y1 na y2) A) => by
    have h := Ts.concat2 u b _ _ _ _ hB h1 h2 (by rw [List.length_replicate]; omega) (by omega)
    rw [List.length_replicate, ← hna] at h
    exact h)
  have HC2 := Lib.hid (fun u b x1 x2 y1 y2 (hB : Bk u b 22 [.slice x1 S x2, .slice y1 q1 y2]) (h1 : Lst u (.slice x1 S x2) E) (h2 : Lst u (.slice y1 q1 y2) (List.replicate q1 0)) => by
    have h := Ts.concat2 u b _ _ _ _ hB h1 h2 (by omega) (by rw [List.length_replicate]; omega)
    rw [List.length_replicate, hEl] at h
    exact h)
  obtain ⟨I0, hI0⟩ : ∃ I0, I0 = List.replicate p1 0 ++ A := ⟨_, rfl⟩
  obtain ⟨F0, hF0⟩ : ∃ F0, F0 = E ++ List.replicate q1 0 := ⟨_, rfl⟩
  rw [← hI0] at HC1
  rw [← hF0] at HC2
  obtain ⟨nI, hnI⟩ : ∃ nI, nI = p1 + na := ⟨_, rfl⟩
  obtain ⟨nF, hnF⟩ : ∃ nF, nF = S + q1 := ⟨_, rfl⟩
  rw [← hnI] at HC1
  rw [← hnF] at HC2
  have hIl : I0.length = nI := by rw [hI0, List.length_append, List.length_replicate, ← hna, hnI]
  have hFl : F0.length = nF := by rw [hF0, List.length_append, List.length_replicate, hEl, hnF]
  have hRR : frD g L s p q = ⟨cs, if nI + nF = 0 then [0] else I0, decide (0 < nF), F0⟩ := by
    unfold frD frI frF fI
    rw [← hcs, ← hD, ← hS, ← hA, ← hE, ← hna, ← hp1, ← hq1, ← hI0, ← hF0, hFl]
    dsimp only
    rw [hIl, hnF, Nat.add_assoc]
  obtain ⟨I1, hI1⟩ : ∃ I1, I1 = if nI + nF = 0 then [0] else I0 := ⟨_, rfl⟩
  obtain ⟨sv, hsv⟩ : ∃ sv, sv = decide (0 < nF) := ⟨_, rfl⟩
  rw [hRR, ← hI1, ← hsv]
  have HI1 := Lib.hid hI1
  have HSV := Lib.hid hsv
  have HL := Lib.hid (⟨hIl, hFl⟩ : I0.length = nI ∧ F0.length = nF)
  have HLN := Lib.hid (fun x1 x2 x3 x4 sx u => len_any cs sx x1 x2 nI nF x3 x4 u (by omega) (by omega))
  have hw1 : IntKind.i64.wrap ((p : Int) - (na : Int)) = (p : Int) - (na : Int) := by rw [IntKind.wrap_i64]; omega
  have hw2 : IntKind.i64.wrap ((q : Int) - (S : Int)) = (q : Int) - (S : Int) := by rw [IntKind.wrap_i64]; omega
  have hIb : nI ≤ 3000 := by omega
  have hFb : nF ≤ 3000 := by omega
  clear hI1 hsv hfr hcs hD hS hDl hDo hr hA hE hna hEl hAl hp1 hq1 hI0 hF0 hnI hnF hIl hFl hRR hv k1 hL
  obtain ⟨y, hy⟩ : ∃ y, y = w.alloc (.cells #[.bool g, .slice a n c, .int .i64 (s : Nat)] 41) := ⟨_, rfl⟩
  have hqy : Q w y := by rw [hy]; exact (Q.refl w).alloc _
  have hby : Bk y w.heap.size 41 [.bool g, .slice a n c, .int .i64 (s : Nat)] := by rw [hy]; exact Bk.new _ _ _
  have hsy : y.heap.size = w.heap.size + 1 := by rw [hy]; simp
  obtain ⟨z, hz⟩ : ∃ z, z = y.alloc (.cells #[.bool false, .slice none 0 0, .bool false, .slice none 0 0] 30) := ⟨_, rfl⟩
  have hqz : Q y z := by rw [hz]; exact (Q.refl y).alloc _
  have HQ := Lib.hid (hqy.trans hqz)
  have HB := Lib.hid (hby.q hqz)
  have HD := Lib.hid (show Bk z (w.heap.size + 1) 30 [.bool false, .slice none 0 0, .bool false, .slice none 0 0] by rw [hz, ← hsy]; exact Bk.new _ _ _)
  have HZ := Lib.hid (show z.heap.size = w.heap.size + 2 by rw [hz]; simp [hsy])
  have HWD := Lib.hid (Nat.le_succ w.heap.size)
  have HWB := Lib.hid (Nat.le_refl w.heap.size)
  have HNE := Lib.hid (show w.heap.size ≠ w.heap.size + 1 by omega)
  have hz2 : z = (w.alloc (.cells #[.bool g, .slice a n c, .int .i64 (s : Nat)] 41)).alloc (.cells #[.bool false, .slice none 0 0, .bool false, .slice none 0 0] 30) := by rw [hz, hy]
  clear hqy hby hsy hqz hz hy
  go_enter Try.func33, Try.ntmps33
  go_upto_region 1 with fail
  rw [← hz2]
  clear hz2
  have x0 := HB.out.cell 0 rfl
  have x1 := HB.out.cell 1 rfl
  have x2 := HB.out.cell 2 rfl
  go_wp2_with fail
  refine (HMY.out _ HQ.out).mono ?_
  rintro e u1 ⟨rfl, hq⟩
  have HB1 := Lib.hid (HB.out.q hq)
  have HD1 := Lib.hid (HD.out.q hq)
  have HQ1 := Lib.hid (HQ.out.trans hq)
  have HZ1 := Lib.hid (Nat.le_trans (Nat.le_of_eq HZ.out.symm) hq.le)
  clear hq x0 x1 x2 HB HD HQ
  go_wp2_with fail
  refine (HO1.out _).mono ?_
  rintro e u2 ⟨rfl, hq⟩
  have HB2 := Lib.hid (HB1.out.q hq)
  have HD2 := Lib.hid (HD1.out.q hq)
  have HQ2 := Lib.hid (HQ1.out.trans hq)
  have HZ2 := Lib.hid (Nat.le_trans HZ1.out hq.le)
  clear hq HB1 HD1 HQ1
  go_wp2_with fail
  refine (HO2.out _).mono ?_
  rintro e u3 ⟨rfl, hq⟩
  have HB3 := Lib.hid (HB2.out.q hq)
  have HD3 := Lib.hid (HD2.out.q hq)
  have HQ3 := Lib.hid (HQ2.out.trans hq)
  have HZ3 := Lib.hid (Nat.le_trans HZ2.out hq.le)
  clear hq HB2 HD2 HQ2
  have x0 := HB3.out.cell 0 rfl
  have e0 := HB3.out.free 0
  have x1 := HB3.out.cell 1 rfl
  have e1 := HB3.out.free 1
  have x2 := HB3.out.cell 2 rfl
  have e2 := HB3.out.free 2
  go_wp2_with fail
  refine (HTM.out _ HQ3.out).mono ?_
  rintro e u4 ⟨xa, xc, rfl, hlf, hq⟩
  have hb4 := HB3.out.q hq
  have hd4 := HD3.out.q hq
  have hlp := hlf.put (r := w.heap.size) (Nat.lt_of_le_of_lt HQ3.out.le (by omega)) (.bool cs) (.slice xa r xc) (.int .i64 (S : Nat))
  have hbp := (((hb4.set 0 (.bool cs)).set 1 (.slice xa r xc)).set 2 (.int .i64 (S : Nat)))
  have hdp := ((hd4.past (g := w.heap.size) (i := 0) HNE.out (.bool cs)).past (g := w.heap.size) (i := 1) HNE.out (.slice xa r xc)).past (g := w.heap.size) (i := 2) HNE.out (.int .i64 (S : Nat))
  have hqp := Q.setCell (Q.setCell (Q.setCell (HQ3.out.trans hq) (ad := ⟨w.heap.size, 0, none⟩) HWB.out (.bool cs)) (ad := ⟨w.heap.size, 1, none⟩) HWB.out (.slice xa r xc)) (ad := ⟨w.heap.size, 2, none⟩) HWB.out (.int .i64 (S : Nat))
  have hsz := Nat.le_trans HZ3.out hq.le
  clear x0 x1 x2 e0 e1 e2
  have x0 := hb4.cell 0 rfl
  have e0 := hb4.free 0
  have x1 := hb4.cell 1 rfl
  have e1 := hb4.free 1
  have x2 := hb4.cell 2 rfl
  have e2 := hb4.free 2
  obtain ⟨u5, hu5⟩ : ∃ u, u = ((u4.setCell ⟨w.heap.size, 0, none⟩ (.bool cs)).setCell ⟨w.heap.size, 1, none⟩ (.slice xa r xc)).setCell ⟨w.heap.size, 2, none⟩ (.int .i64 (S : Nat)) := ⟨_, rfl⟩
  have hsz5 : w.heap.size + 2 ≤ u5.heap.size := by rw [hu5]; simpa using hsz
  rw [← hu5] at hlp hbp hdp hqp
  have HB5 := Lib.hid hbp
  have HD5 := Lib.hid hdp
  have HQ5 := Lib.hid hqp
  have HL5 := Lib.hid hlp.lst
  have HS5 := Lib.hid hsz5
  clear hlf hq hb4 hd4 hlp hbp hdp hqp hsz hsz5
  go_upto_region 6 with fail
  rw [← hu5]
  clear hu5 x0 x1 x2 e0 e1 e2
  have x0 := HB5.out.cell 0 rfl
  have e0 := HB5.out.free 0
  have x1 := HB5.out.cell 1 rfl
  have e1 := HB5.out.free 1
  have x2 := HB5.out.cell 2 rfl
  have e2 := HB5.out.free 2
  go_wp2_with fail
  refine (HPT.out _ _ _ HL5.out).mono ?_
  rintro e u6 ⟨x1', x2', y1', y2', rfl, hA6, hE6, hq⟩
  have HB6 := Lib.hid (HB5.out.q hq)
  have HD6 := Lib.hid (HD5.out.q hq)
  have HQ6 := Lib.hid (HQ5.out.trans hq)
  have HA6 := Lib.hid hA6
  have HE6 := Lib.hid hE6
  have HS6 := Lib.hid (Nat.le_trans HS5.out hq.le)
  clear hq hA6 hE6 x0 x1 x2 e0 e1 e2
  go_upto_region 7 with fail
  go_cut [10] from 11 (fun p wx => ∃ b ia ic fa fc, p = .pointer (some ⟨b, 0, none⟩) ∧ u6.heap.size ≤ b ∧ Bk wx b 30 [.bool cs, .slice ia nI ic, .bool false, .slice fa nF fc] ∧ Own wx u6.heap.size (.slice ia nI ic) I0 ∧ Own wx u6.heap.size (.slice fa nF fc) F0 ∧ Q u6 wx)
  case first =>
    refine wp_region_held_drew (S := fun u => Q u6 u) (by kernel_rfl) (by exact (Q.refl u6).drew) (fun hHeld => ?_)
    have hS : Q u6 u6.drew := hHeld
    clear hHeld
    have hq : Q u6 u6.drew := (Q.refl _).drew
    have HA6 := Lib.hid (Lst.q HA6.out hq)
    have HE6 := Lib.hid (Lst.q HE6.out hq)
    clear hq
    generalize u6.drew = yR1x0 at *
    change wpAnyH _ _ _ _ _ _ #[false, false, false, false, false, false, false, false, false, false, false, false, false, false, false, false, false, false, false, false, false] _ _
    refine wpAnyH_take (i := 0) (v := ?vR1x1) (by (try simp only [List.getElem?_toArray, List.getElem?_cons_succ, List.getElem?_cons_zero]); rfl) (by kernel_rfl) (by kernel_rfl) (by kernel_rfl) (by exact fun _ _ _ h => h) (Or.inl ⟨by first | kernel_rfl | rfl, ?hyR1x1⟩) (by exact hS) ?rsR1x1
    case hyR1x1 => (intro uz hSw; (try dsimp only at hSw); go_simp; try with_reducible rfl)
    try simp only [Act.put, List.setIfInBounds_toArray, List.set_cons_zero, List.set_cons_succ]
    change wpAnyH _ _ _ _ _ _ #[true, false, false, false, false, false, false, false, false, false, false, false, false, false, false, false, false, false, false, false, false] _ _
    refine wpAnyH_take (i := 1) (v := ?vR1x2) (by (try simp only [List.getElem?_toArray, List.getElem?_cons_succ, List.getElem?_cons_zero]); rfl) (by kernel_rfl) (by kernel_rfl) (by kernel_rfl) (by exact fun _ _ _ h => h) (Or.inl ⟨by first | kernel_rfl | rfl, ?hyR1x2⟩) (by exact hS) ?rsR1x2
    case hyR1x2 => (intro uz hSw; (try dsimp only at hSw); have hxx := HB6.out.q hSw; have d0 := hxx.cell 0 rfl; clear hxx; go_simp; try with_reducible rfl)
    try simp only [Act.put, List.setIfInBounds_toArray, List.set_cons_zero, List.set_cons_succ]
    change wpAnyH _ _ _ _ _ _ #[true, true, false, false, false, false, false, false, false, false, false, false, false, false, false, false, false, false, false, false, false] _ _
    refine wpAnyH_take (i := 2) (v := ?vR1x3) (by (try simp only [List.getElem?_toArray, List.getElem?_cons_succ, List.getElem?_cons_zero]); rfl) (by kernel_rfl) (by kernel_rfl) (by kernel_rfl) (by exact fun _ _ _ h => h) (Or.inl ⟨by first | kernel_rfl | rfl, ?hyR1x3⟩) (by exact hS) ?rsR1x3
    case hyR1x3 => (intro uz hSw; (try dsimp only at hSw); go_simp; try with_reducible rfl)
    try simp only [Act.put, List.setIfInBounds_toArray, List.set_cons_zero, List.set_cons_succ]
    change wpAnyH _ _ _ _ _ _ #[true, true, true, false, false, false, false, false, false, false, false, false, false, false, false, false, false, false, false, false, false] _ _
    refine wpAnyH_take (i := 3) (v := ?vR1x4) (by (try simp only [List.getElem?_toArray, List.getElem?_cons_succ, List.getElem?_cons_zero]); rfl) (by kernel_rfl) (by kernel_rfl) (by kernel_rfl) (by exact fun _ _ _ h => h) (Or.inl ⟨by first | kernel_rfl | rfl, ?hyR1x4⟩) (by exact hS) ?rsR1x4
    case hyR1x4 => (intro uz hSw; (try dsimp only at hSw); go_simp; try with_reducible rfl)
    try simp only [Act.put, List.setIfInBounds_toArray, List.set_cons_zero, List.set_cons_succ]
    change wpAnyH _ _ _ _ _ _ #[true, true, true, true, false, false, false, false, false, false, false, false, false, false, false, false, false, false, false, false, false] _ _
    refine wpAnyH_take (i := 4) (v := ?vR1x5) (by (try simp only [List.getElem?_toArray, List.getElem?_cons_succ, List.getElem?_cons_zero]); rfl) (by kernel_rfl) (by kernel_rfl) (by kernel_rfl) (by exact fun _ _ _ h => h) (Or.inl ⟨by first | kernel_rfl | rfl, ?hyR1x5⟩) (by exact hS) ?rsR1x5
    case hyR1x5 => (intro uz hSw; (try dsimp only at hSw); go_simp; try with_reducible rfl)
    try simp only [Act.put, List.setIfInBounds_toArray, List.set_cons_zero, List.set_cons_succ]
    change wpAnyH _ _ _ _ _ _ #[true, true, true, true, true, false, false, false, false, false, false, false, false, false, false, false, false, false, false, false, false] _ _
    refine wpAnyH_take (i := 5) (v := ?vR1x6) (by (try simp only [List.getElem?_toArray, List.getElem?_cons_succ, List.getElem?_cons_zero]); rfl) (by kernel_rfl) (by kernel_rfl) (by kernel_rfl) (by exact fun _ _ _ h => h) (Or.inl ⟨by first | kernel_rfl | rfl, ?hyR1x6⟩) (by exact hS) ?rsR1x6
    case hyR1x6 => (intro uz hSw; (try dsimp only at hSw); go_simp; try with_reducible rfl)
    try simp only [Act.put, List.setIfInBounds_toArray, List.set_cons_zero, List.set_cons_succ]
    change wpAnyH _ _ _ _ _ _ #[true, true, true, true, true, true, false, false, false, false, false, false, false, false, false, false, false, false, false, false, false] _ _
    refine wpAnyH_take (i := 7) (v := ?vR1x7) (by (try simp only [List.getElem?_toArray, List.getElem?_cons_succ, List.getElem?_cons_zero]); rfl) (by kernel_rfl) (by kernel_rfl) (by kernel_rfl) (by exact fun _ _ _ h => h) (Or.inl ⟨by first | kernel_rfl | rfl, ?hyR1x7⟩) (by exact hS) ?rsR1x7
    case hyR1x7 => (intro uz hSw; (try dsimp only at hSw); go_simp; try with_reducible rfl)
    try simp only [Act.put, List.setIfInBounds_toArray, List.set_cons_zero, List.set_cons_succ]
    change wpAnyH _ _ _ _ _ _ #[true, true, true, true, true, true, false, true, false, false, false, false, false, false, false, false, false, false, false, false, false] _ _
    refine wpAnyH_take (i := 10) (v := ?vR1x8) (by (try simp only [List.getElem?_toArray, List.getElem?_cons_succ, List.getElem?_cons_zero]); rfl) (by kernel_rfl) (by kernel_rfl) (by kernel_rfl) (by exact fun _ _ _ h => h) (Or.inl ⟨by first | kernel_rfl | rfl, ?hyR1x8⟩) (by exact hS) ?rsR1x8
    case hyR1x8 => (intro uz hSw; (try dsimp only at hSw); go_simp; try with_reducible rfl)
    try simp only [Act.put, List.setIfInBounds_toArray, List.set_cons_zero, List.set_cons_succ]
    change wpAnyH _ _ _ _ _ _ #[true, true, true, true, true, true, false, true, false, false, true, false, false, false, false, false, false, false, false, false, false] _ _
    refine wpAnyH_take (i := 11) (v := ?vR1x9) (by (try simp only [List.getElem?_toArray, List.getElem?_cons_succ, List.getElem?_cons_zero]); rfl) (by kernel_rfl) (by kernel_rfl) (by kernel_rfl) (by exact fun _ _ _ h => h) (Or.inl ⟨by first | kernel_rfl | rfl, ?hyR1x9⟩) (by exact hS) ?rsR1x9
    case hyR1x9 => (intro uz hSw; (try dsimp only at hSw); go_simp; try with_reducible rfl)
    try simp only [Act.put, List.setIfInBounds_toArray, List.set_cons_zero, List.set_cons_succ]
    change wpAnyH _ _ _ _ _ _ #[true, true, true, true, true, true, false, true, false, false, true, true, false, false, false, false, false, false, false, false, false] _ _
    refine wpAnyH_take (i := 12) (v := ?vR1x10) (by (try simp only [List.getElem?_toArray, List.getElem?_cons_succ, List.getElem?_cons_zero]); rfl) (by kernel_rfl) (by kernel_rfl) (by kernel_rfl) (by exact fun _ _ _ h => h) (Or.inl ⟨by first | kernel_rfl | rfl, ?hyR1x10⟩) (by exact hS) ?rsR1x10
    case hyR1x10 => (intro uz hSw; (try dsimp only at hSw); go_simp; try with_reducible rfl)
    try simp only [Act.put, List.setIfInBounds_toArray, List.set_cons_zero, List.set_cons_succ]
    change wpAnyH _ _ _ _ _ _ #[true, true, true, true, true, true, false, true, false, false, true, true, true, false, false, false, false, false, false, false, false] _ _
    refine wpAnyH_take (i := 13) (v := ?vR1x11) (by (try simp only [List.getElem?_toArray, List.getElem?_cons_succ, List.getElem?_cons_zero]); rfl) (by kernel_rfl) (by kernel_rfl) (by kernel_rfl) (by exact fun _ _ _ h => h) (Or.inl ⟨by first | kernel_rfl | rfl, ?hyR1x11⟩) (by exact hS) ?rsR1x11
    case hyR1x11 => (intro uz hSw; (try dsimp only at hSw); go_simp; try with_reducible rfl)
    try simp only [Act.put, List.setIfInBounds_toArray, List.set_cons_zero, List.set_cons_succ]
    change wpAnyH _ _ _ _ _ _ #[true, true, true, true, true, true, false, true, false, false, true, true, true, true, false, false, false, false, false, false, false] _ _
    refine wpAnyH_take (i := 14) (v := ?vR1x12) (by (try simp only [List.getElem?_toArray, List.getElem?_cons_succ, List.getElem?_cons_zero]); rfl) (by kernel_rfl) (by kernel_rfl) (by kernel_rfl) (by exact fun _ _ _ h => h) (Or.inl ⟨by first | kernel_rfl | rfl, ?hyR1x12⟩) (by exact hS) ?rsR1x12
    case hyR1x12 => (intro uz hSw; (try dsimp only at hSw); go_simp; try with_reducible rfl)
    try simp only [Act.put, List.setIfInBounds_toArray, List.set_cons_zero, List.set_cons_succ]
    change wpAnyH _ _ _ _ _ _ #[true, true, true, true, true, true, false, true, false, false, true, true, true, true, true, false, false, false, false, false, false] _ _
    refine wpAnyH_ready (rs := [6, 19]) (by kernel_rfl) (by simp) ?_
    refine (AllReadyH.cons (by (try simp only [List.getElem?_toArray, List.getElem?_cons_succ, List.getElem?_cons_zero]); rfl) (fun K hK => ?_) (AllReadyH.cons (by (try simp only [List.getElem?_toArray, List.getElem?_cons_succ, List.getElem?_cons_zero]); rfl) (fun K hK => ?_) AllReadyH.nil))
    · go_simp
      refine (HN1.out _).mono ?_
      rintro e yR1x13 ⟨za, zc, rfl, hz0, hq⟩
      have HZ1 := Lib.hid hz0
      clear hz0
      try (go_wp2_with fail)
      have HA6 := Lib.hid (Lst.q HA6.out hq)
      have HE6 := Lib.hid (Lst.q HE6.out hq)
      have hS2 := Q.trans hS hq
      refine hK.out _ _ (by exact hS2) (fun hHeld => ?_)
      clear hK K hHeld hS hq
      have hS := hS2
      clear hS2
      try simp only [Act.put, List.setIfInBounds_toArray, List.set_cons_zero, List.set_cons_succ]
      change wpAnyH _ _ _ _ _ _ #[true, true, true, true, true, true, true, true, false, false, true, true, true, true, true, false, false, false, false, false, false] _ _
      refine wpAnyH_ready (rs := [8, 19]) (by kernel_rfl) (by simp) ?_
      refine (AllReadyH.cons (by (try simp only [List.getElem?_toArray, List.getElem?_cons_succ, List.getElem?_cons_zero]); rfl) (fun K hK => ?_) (AllReadyH.cons (by (try simp only [List.getElem?_toArray, List.getElem?_cons_succ, List.getElem?_cons_zero]); rfl) (fun K hK => ?_) AllReadyH.nil))
      · go_simp
        have hq := (Q.refl yR1x13).alloc (.cells #[.slice za p1 zc, .slice x1' na x2'] 22)
        have HB1 := Lib.hid (Bk.new yR1x13 22 [.slice za p1 zc, .slice x1' na x2'])
        have HW_bA := Lib.hid (Q.le hS)
        have HA6 := Lib.hid (Lst.q HA6.out hq)
        have HE6 := Lib.hid (Lst.q HE6.out hq)
        have HZ1 := Lib.hid (Lst.q HZ1.out hq)
        have hS2 := Q.trans hS hq
        refine hK.out _ _ (by exact hS2) (fun hHeld => ?_)
        clear hK K hHeld hS hq
        have hS := hS2
        clear hS2
        generalize yR1x13.alloc (.cells #[.slice za p1 zc, .slice x1' na x2'] 22) = yR1x14 at *
        generalize yR1x13.heap.size = bA at *
        try simp only [Act.put, List.setIfInBounds_toArray, List.set_cons_zero, List.set_cons_succ]
        change wpAnyH _ _ _ _ _ _ #[true, true, true, true, true, true, true, true, true, false, true, true, true, true, true, false, false, false, false, false, false] _ _
        refine wpAnyH_ready (rs := [9, 19]) (by kernel_rfl) (by simp) ?_
        refine (AllReadyH.cons (by (try simp only [List.getElem?_toArray, List.getElem?_cons_succ, List.getElem?_cons_zero]); rfl) (fun K hK => ?_) (AllReadyH.cons (by (try simp only [List.getElem?_toArray, List.getElem?_cons_succ, List.getElem?_cons_zero]); rfl) (fun K hK => ?_) AllReadyH.nil))
        · go_simp
          refine (HC1.out _ _ _ _ _ _ HB1.out HZ1.out HA6.out).mono ?_
          rintro e yR1x15 ⟨ia, ic, rfl, hz0, hq⟩
          have HI7 := Lib.hid (hz0.mono hS.le)
          clear hz0
          try (go_wp2_with fail)
          have HA6 := Lib.hid (Lst.q HA6.out hq)
          have HE6 := Lib.hid (Lst.q HE6.out hq)
          have HZ1 := Lib.hid (Lst.q HZ1.out hq)
          have HB1 := Lib.hid (Bk.q HB1.out hq)
          have hS2 := Q.trans hS hq
          refine hK.out _ _ (by exact hS2) (fun hHeld => ?_)
          clear hK K hHeld hS hq
          have hS := hS2
          clear hS2
          try simp only [Act.put, List.setIfInBounds_toArray, List.set_cons_zero, List.set_cons_succ]
          change wpAnyH _ _ _ _ _ _ #[true, true, true, true, true, true, true, true, true, true, true, true, true, true, true, false, false, false, false, false, false] _ _
          refine wpAnyH_ready (rs := [15, 19]) (by kernel_rfl) (by simp) ?_
          refine (AllReadyH.cons (by (try simp only [List.getElem?_toArray, List.getElem?_cons_succ, List.getElem?_cons_zero]); rfl) (fun K hK => ?_) (AllReadyH.cons (by (try simp only [List.getElem?_toArray, List.getElem?_cons_succ, List.getElem?_cons_zero]); rfl) (fun K hK => ?_) AllReadyH.nil))
          · go_simp
            refine (HN2.out _).mono ?_
            rintro e yR1x16 ⟨ka, kc, rfl, hz0, hq⟩
            have HZ2 := Lib.hid hz0
            clear hz0
            try (go_wp2_with fail)
            have HA6 := Lib.hid (Lst.q HA6.out hq)
            have HE6 := Lib.hid (Lst.q HE6.out hq)
            have HZ1 := Lib.hid (Lst.q HZ1.out hq)
            have HB1 := Lib.hid (Bk.q HB1.out hq)
            have HI7 := Lib.hid (Own.q HI7.out hq)
            have hS2 := Q.trans hS hq
            refine hK.out _ _ (by exact hS2) (fun hHeld => ?_)
            clear hK K hHeld hS hq
            have hS := hS2
            clear hS2
            try simp only [Act.put, List.setIfInBounds_toArray, List.set_cons_zero, List.set_cons_succ]
            change wpAnyH _ _ _ _ _ _ #[true, true, true, true, true, true, true, true, true, true, true, true, true, true, true, true, false, false, false, false, false] _ _
            refine wpAnyH_ready (rs := [16, 19]) (by kernel_rfl) (by simp) ?_
            refine (AllReadyH.cons (by (try simp only [List.getElem?_toArray, List.getElem?_cons_succ, List.getElem?_cons_zero]); rfl) (fun K hK => ?_) (AllReadyH.cons (by (try simp only [List.getElem?_toArray, List.getElem?_cons_succ, List.getElem?_cons_zero]); rfl) (fun K hK => ?_) AllReadyH.nil))
            · go_simp
              have hq := (Q.refl yR1x16).alloc (.cells #[.slice y1' S y2', .slice ka q1 kc] 22)
              have HB2 := Lib.hid (Bk.new yR1x16 22 [.slice y1' S y2', .slice ka q1 kc])
              have HW_bC := Lib.hid (Q.le hS)
              have HN_bA_bC := Lib.hid (Nat.ne_of_lt HB1.out.lt)
              have HN_bC_bA := Lib.hid (Nat.ne_of_gt HB1.out.lt)
              have HA6 := Lib.hid (Lst.q HA6.out hq)
              have HE6 := Lib.hid (Lst.q HE6.out hq)
              have HZ1 := Lib.hid (Lst.q HZ1.out hq)
              have HB1 := Lib.hid (Bk.q HB1.out hq)
              have HI7 := Lib.hid (Own.q HI7.out hq)
              have HZ2 := Lib.hid (Lst.q HZ2.out hq)
              have hS2 := Q.trans hS hq
              refine hK.out _ _ (by exact hS2) (fun hHeld => ?_)
              clear hK K hHeld hS hq
              have hS := hS2
              clear hS2
              generalize yR1x16.alloc (.cells #[.slice y1' S y2', .slice ka q1 kc] 22) = yR1x17 at *
              generalize yR1x16.heap.size = bC at *
              try simp only [Act.put, List.setIfInBounds_toArray, List.set_cons_zero, List.set_cons_succ]
              change wpAnyH _ _ _ _ _ _ #[true, true, true, true, true, true, true, true, true, true, true, true, true, true, true, true, true, false, false, false, false] _ _
              refine wpAnyH_ready (rs := [17, 19]) (by kernel_rfl) (by simp) ?_
              refine (AllReadyH.cons (by (try simp only [List.getElem?_toArray, List.getElem?_cons_succ, List.getElem?_cons_zero]); rfl) (fun K hK => ?_) (AllReadyH.cons (by (try simp only [List.getElem?_toArray, List.getElem?_cons_succ, List.getElem?_cons_zero]); rfl) (fun K hK => ?_) AllReadyH.nil))
              · go_simp
                refine (HC2.out _ _ _ _ _ _ HB2.out HE6.out HZ2.out).mono ?_
                rintro e yR1x18 ⟨fa, fc, rfl, hz0, hq⟩
                have HF7 := Lib.hid (hz0.mono hS.le)
                clear hz0
                try (go_wp2_with fail)
                have HA6 := Lib.hid (Lst.q HA6.out hq)
                have HE6 := Lib.hid (Lst.q HE6.out hq)
                have HZ1 := Lib.hid (Lst.q HZ1.out hq)
                have HB1 := Lib.hid (Bk.q HB1.out hq)
                have HI7 := Lib.hid (Own.q HI7.out hq)
                have HZ2 := Lib.hid (Lst.q HZ2.out hq)
                have HB2 := Lib.hid (Bk.q HB2.out hq)
                have hS2 := Q.trans hS hq
                refine hK.out _ _ (by exact hS2) (fun hHeld => ?_)
                clear hK K hHeld hS hq
                have hS := hS2
                clear hS2
                try simp only [Act.put, List.setIfInBounds_toArray, List.set_cons_zero, List.set_cons_succ]
                change wpAnyH _ _ _ _ _ _ #[true, true, true, true, true, true, true, true, true, true, true, true, true, true, true, true, true, true, false, false, false] _ _
                refine wpAnyH_take (i := 18) (v := ?vR1x19) (by (try simp only [List.getElem?_toArray, List.getElem?_cons_succ, List.getElem?_cons_zero]); rfl) (by kernel_rfl) (by kernel_rfl) (by kernel_rfl) (by exact fun _ _ _ h => h) (Or.inl ⟨by first | kernel_rfl | rfl, ?hyR1x19⟩) (by exact hS) ?rsR1x19
                case hyR1x19 => (intro uz hSw; (try dsimp only at hSw); go_simp; try with_reducible rfl)
                try simp only [Act.put, List.setIfInBounds_toArray, List.set_cons_zero, List.set_cons_succ]
                change wpAnyH _ _ _ _ _ _ #[true, true, true, true, true, true, true, true, true, true, true, true, true, true, true, true, true, true, true, false, false] _ _
                refine wpAnyH_ready (rs := [19]) (by kernel_rfl) (by simp) ?_
                refine (AllReadyH.cons (by (try simp only [List.getElem?_toArray, List.getElem?_cons_succ, List.getElem?_cons_zero]); rfl) (fun K hK => ?_) AllReadyH.nil)
                go_simp
                have hq := (Q.refl yR1x18).alloc (.cells #[.bool false, .slice none 0 0, .bool false, .slice none 0 0] 30)
                have HBX := Lib.hid (Bk.new yR1x18 30 [.bool false, .slice none 0 0, .bool false, .slice none 0 0])
                have HW_bX := Lib.hid (Q.le hS)
                have HN_bA_bX := Lib.hid (Nat.ne_of_lt HB1.out.lt)
                have HN_bX_bA := Lib.hid (Nat.ne_of_gt HB1.out.lt)
                have HN_bC_bX := Lib.hid (Nat.ne_of_lt HB2.out.lt)
                have HN_bX_bC := Lib.hid (Nat.ne_of_gt HB2.out.lt)
                have HA6 := Lib.hid (Lst.q HA6.out hq)
                have HE6 := Lib.hid (Lst.q HE6.out hq)
                have HZ1 := Lib.hid (Lst.q HZ1.out hq)
                have HB1 := Lib.hid (Bk.q HB1.out hq)
                have HI7 := Lib.hid (Own.q HI7.out hq)
                have HZ2 := Lib.hid (Lst.q HZ2.out hq)
                have HB2 := Lib.hid (Bk.q HB2.out hq)
                have HF7 := Lib.hid (Own.q HF7.out hq)
                have hS2 := Q.trans hS hq
                refine hK.out _ _ (by exact hS2) (fun hHeld => ?_)
                clear hK K hHeld hS hq
                have hS := hS2
                clear hS2
                generalize yR1x18.alloc (.cells #[.bool false, .slice none 0 0, .bool false, .slice none 0 0] 30) = yR1x20 at *
                generalize yR1x18.heap.size = bX at *
                try simp only [Act.put, List.setIfInBounds_toArray, List.set_cons_zero, List.set_cons_succ]
                change wpAnyH _ _ _ _ _ _ #[true, true, true, true, true, true, true, true, true, true, true, true, true, true, true, true, true, true, true, true, false] _ _
                refine wpAnyH_ready (rs := [20]) (by kernel_rfl) (by simp) ?_
                refine (AllReadyH.cons (by (try simp only [List.getElem?_toArray, List.getElem?_cons_succ, List.getElem?_cons_zero]); rfl) (fun K hK => ?_) AllReadyH.nil)
                have b0 := HBX.out.cell 0 rfl
                have f0 := HBX.out.free 0
                have b1 := HBX.out.cell 1 rfl
                have f1 := HBX.out.free 1
                have b2 := HBX.out.cell 2 rfl
                have f2 := HBX.out.free 2
                have b3 := HBX.out.cell 3 rfl
                have f3 := HBX.out.free 3
                go_simp
                have hS2 := (Q.setCell (Q.setCell (Q.setCell (Q.setCell hS (ad := ⟨bX, 0, none⟩) HW_bX.out (.bool cs)) (ad := ⟨bX, 1, none⟩) HW_bX.out (.slice ia nI ic)) (ad := ⟨bX, 2, none⟩) HW_bX.out (.bool false)) (ad := ⟨bX, 3, none⟩) HW_bX.out (.slice fa nF fc))
                have HE := Lib.hid ((((HBX.out.set 0 (.bool cs)).set 1 (.slice ia nI ic)).set 2 (.bool false)).set 3 (.slice fa nF fc))
                replace HI7 := Lib.hid (Own_past4 HI7.out HBX.out (by decide) (.bool cs) (.slice ia nI ic) (.bool false) (.slice fa nF fc))
                replace HF7 := Lib.hid (Own_past4 HF7.out HBX.out (by decide) (.bool cs) (.slice ia nI ic) (.bool false) (.slice fa nF fc))
                refine hK.out _ _ (by exact hS2) (fun hHeld => ?_)
                clear hK K hHeld hS
                have hS := hS2
                clear hS2 b0 f0 b1 f1 b2 f2 b3 f3
                generalize ((((yR1x20.setCell ⟨bX, 0, none⟩ (.bool cs)).setCell ⟨bX, 1, none⟩ (.slice ia nI ic)).setCell ⟨bX, 2, none⟩ (.bool false)).setCell ⟨bX, 3, none⟩ (.slice fa nF fc)) = yR1x21 at *
                try simp only [Act.put, List.setIfInBounds_toArray, List.set_cons_zero, List.set_cons_succ]
                change wpAnyH _ _ _ _ _ _ #[true, true, true, true, true, true, true, true, true, true, true, true, true, true, true, true, true, true, true, true, true] _ _
                refine wpAnyH_done (by kernel_rfl) ?_ _
                go_wp2_with fail
                go_meet
                exact ⟨bX, ia, ic, fa, fc, rfl, HW_bX.out, HE.out, HI7.out, HF7.out, hS⟩
              · go_simp
                have hq := (Q.refl yR1x17).alloc (.cells #[.bool false, .slice none 0 0, .bool false, .slice none 0 0] 30)
                have HBX := Lib.hid (Bk.new yR1x17 30 [.bool false, .slice none 0 0, .bool false, .slice none 0 0])
                have HW_bX := Lib.hid (Q.le hS)
                have HN_bA_bX := Lib.hid (Nat.ne_of_lt HB1.out.lt)
                have HN_bX_bA := Lib.hid (Nat.ne_of_gt HB1.out.lt)
                have HN_bC_bX := Lib.hid (Nat.ne_of_lt HB2.out.lt)
                have HN_bX_bC := Lib.hid (Nat.ne_of_gt HB2.out.lt)
                have HA6 := Lib.hid (Lst.q HA6.out hq)
                have HE6 := Lib.hid (Lst.q HE6.out hq)
                have HZ1 := Lib.hid (Lst.q HZ1.out hq)
                have HB1 := Lib.hid (Bk.q HB1.out hq)
                have HI7 := Lib.hid (Own.q HI7.out hq)
                have HZ2 := Lib.hid (Lst.q HZ2.out hq)
                have HB2 := Lib.hid (Bk.q HB2.out hq)
                have hS2 := Q.trans hS hq
                refine hK.out _ _ (by exact hS2) (fun hHeld => ?_)
                clear hK K hHeld hS hq
                have hS := hS2
                clear hS2
                generalize yR1x17.alloc (.cells #[.bool false, .slice none 0 0, .bool false, .slice none 0 0] 30) = yR1x22 at *
                generalize yR1x17.heap.size = bX at *
                try simp only [Act.put, List.setIfInBounds_toArray, List.set_cons_zero, List.set_cons_succ]
                change wpAnyH _ _ _ _ _ _ #[true, true, true, true, true, true, true, true, true, true, true, true, true, true, true, true, true, false, false, true, false] _ _
                refine wpAnyH_ready (rs := [17]) (by kernel_rfl) (by simp) ?_
                refine (AllReadyH.cons (by (try simp only [List.getElem?_toArray, List.getElem?_cons_succ, List.getElem?_cons_zero]); rfl) (fun K hK => ?_) AllReadyH.nil)
                go_simp
                refine (HC2.out _ _ _ _ _ _ HB2.out HE6.out HZ2.out).mono ?_
                rintro e yR1x23 ⟨fa, fc, rfl, hz0, hq⟩
                have HF7 := Lib.hid (hz0.mono hS.le)
                clear hz0
                try (go_wp2_with fail)
                have HA6 := Lib.hid (Lst.q HA6.out hq)
                have HE6 := Lib.hid (Lst.q HE6.out hq)
                have HZ1 := Lib.hid (Lst.q HZ1.out hq)
                have HB1 := Lib.hid (Bk.q HB1.out hq)
                have HI7 := Lib.hid (Own.q HI7.out hq)
                have HZ2 := Lib.hid (Lst.q HZ2.out hq)
                have HB2 := Lib.hid (Bk.q HB2.out hq)
                have HBX := Lib.hid (Bk.q HBX.out hq)
                have hS2 := Q.trans hS hq
                refine hK.out _ _ (by exact hS2) (fun hHeld => ?_)
                clear hK K hHeld hS hq
                have hS := hS2
                clear hS2
                try simp only [Act.put, List.setIfInBounds_toArray, List.set_cons_zero, List.set_cons_succ]
                change wpAnyH _ _ _ _ _ _ #[true, true, true, true, true, true, true, true, true, true, true, true, true, true, true, true, true, true, false, true, false] _ _
                refine wpAnyH_take (i := 18) (v := ?vR1x24) (by (try simp only [List.getElem?_toArray, List.getElem?_cons_succ, List.getElem?_cons_zero]); rfl) (by kernel_rfl) (by kernel_rfl) (by kernel_rfl) (by exact fun _ _ _ h => h) (Or.inl ⟨by first | kernel_rfl | rfl, ?hyR1x24⟩) (by exact hS) ?rsR1x24
                case hyR1x24 => (intro uz hSw; (try dsimp only at hSw); go_simp; try with_reducible rfl)
                try simp only [Act.put, List.setIfInBounds_toArray, List.set_cons_zero, List.set_cons_succ]
                change wpAnyH _ _ _ _ _ _ #[true, true, true, true, true, true, true, true, true, true, true, true, true, true, true, true, true, true, true, true, false] _ _
                refine wpAnyH_ready (rs := [20]) (by kernel_rfl) (by simp) ?_
                refine (AllReadyH.cons (by (try simp only [List.getElem?_toArray, List.getElem?_cons_succ, List.getElem?_cons_zero]); rfl) (fun K hK => ?_) AllReadyH.nil)
                have b0 := HBX.out.cell 0 rfl
                have f0 := HBX.out.free 0
                have b1 := HBX.out.cell 1 rfl
                have f1 := HBX.out.free 1
                have b2 := HBX.out.cell 2 rfl
                have f2 := HBX.out.free 2
                have b3 := HBX.out.cell 3 rfl
                have f3 := HBX.out.free 3
                go_simp
                have hS2 := (Q.setCell (Q.setCell (Q.setCell (Q.setCell hS (ad := ⟨bX, 0, none⟩) HW_bX.out (.bool cs)) (ad := ⟨bX, 1, none⟩) HW_bX.out (.slice ia nI ic)) (ad := ⟨bX, 2, none⟩) HW_bX.out (.bool false)) (ad := ⟨bX, 3, none⟩) HW_bX.out (.slice fa nF fc))
                have HE := Lib.hid ((((HBX.out.set 0 (.bool cs)).set 1 (.slice ia nI ic)).set 2 (.bool false)).set 3 (.slice fa nF fc))
                replace HI7 := Lib.hid (Own_past4 HI7.out HBX.out (by decide) (.bool cs) (.slice ia nI ic) (.bool false) (.slice fa nF fc))
                replace HF7 := Lib.hid (Own_past4 HF7.out HBX.out (by decide) (.bool cs) (.slice ia nI ic) (.bool false) (.slice fa nF fc))
                refine hK.out _ _ (by exact hS2) (fun hHeld => ?_)
                clear hK K hHeld hS
                have hS := hS2
                clear hS2 b0 f0 b1 f1 b2 f2 b3 f3
                generalize ((((yR1x23.setCell ⟨bX, 0, none⟩ (.bool cs)).setCell ⟨bX, 1, none⟩ (.slice ia nI ic)).setCell ⟨bX, 2, none⟩ (.bool false)).setCell ⟨bX, 3, none⟩ (.slice fa nF fc)) = yR1x25 at *
                try simp only [Act.put, List.setIfInBounds_toArray, List.set_cons_zero, List.set_cons_succ]
                change wpAnyH _ _ _ _ _ _ #[true, true, true, true, true, true, true, true, true, true, true, true, true, true, true, true, true, true, true, true, true] _ _
                refine wpAnyH_done (by kernel_rfl) ?_ _
                go_wp2_with fail
                go_meet
                exact ⟨bX, ia, ic, fa, fc, rfl, HW_bX.out, HE.out, HI7.out, HF7.out, hS⟩
            · go_simp
              have hq := (Q.refl yR1x16).alloc (.cells #[.bool false, .slice none 0 0, .bool false, .slice none 0 0] 30)
              have HBX := Lib.hid (Bk.new yR1x16 30 [.bool false, .slice none 0 0, .bool false, .slice none 0 0])
              have HW_bX := Lib.hid (Q.le hS)
              have HN_bA_bX := Lib.hid (Nat.ne_of_lt HB1.out.lt)
              have HN_bX_bA := Lib.hid (Nat.ne_of_gt HB1.out.lt)
              have HA6 := Lib.hid (Lst.q HA6.out hq)
              have HE6 := Lib.hid (Lst.q HE6.out hq)
              have HZ1 := Lib.hid (Lst.q HZ1.out hq)
              have HB1 := Lib.hid (Bk.q HB1.out hq)
              have HI7 := Lib.hid (Own.q HI7.out hq)
              have HZ2 := Lib.hid (Lst.q HZ2.out hq)
              have hS2 := Q.trans hS hq
              refine hK.out _ _ (by exact hS2) (fun hHeld => ?_)
              clear hK K hHeld hS hq
              have hS := hS2
              clear hS2
              generalize yR1x16.alloc (.cells #[.bool false, .slice none 0 0, .bool false, .slice none 0 0] 30) = yR1x26 at *
              generalize yR1x16.heap.size = bX at *
              try simp only [Act.put, List.setIfInBounds_toArray, List.set_cons_zero, List.set_cons_succ]
              change wpAnyH _ _ _ _ _ _ #[true, true, true, true, true, true, true, true, true, true, true, true, true, true, true, true, false, false, false, true, false] _ _
              refine wpAnyH_ready (rs := [16]) (by kernel_rfl) (by simp) ?_
              refine (AllReadyH.cons (by (try simp only [List.getElem?_toArray, List.getElem?_cons_succ, List.getElem?_cons_zero]); rfl) (fun K hK => ?_) AllReadyH.nil)
              go_simp
              have hq := (Q.refl yR1x26).alloc (.cells #[.slice y1' S y2', .slice ka q1 kc] 22)
              have HB2 := Lib.hid (Bk.new yR1x26 22 [.slice y1' S y2', .slice ka q1 kc])
              have HW_bC := Lib.hid (Q.le hS)
              have HN_bA_bC := Lib.hid (Nat.ne_of_lt HB1.out.lt)
              have HN_bC_bA := Lib.hid (Nat.ne_of_gt HB1.out.lt)
              have HN_bX_bC := Lib.hid (Nat.ne_of_lt HBX.out.lt)
              have HN_bC_bX := Lib.hid (Nat.ne_of_gt HBX.out.lt)
              have HA6 := Lib.hid (Lst.q HA6.out hq)
              have HE6 := Lib.hid (Lst.q HE6.out hq)
              have HZ1 := Lib.hid (Lst.q HZ1.out hq)
              have HB1 := Lib.hid (Bk.q HB1.out hq)
              have HI7 := Lib.hid (Own.q HI7.out hq)
              have HZ2 := Lib.hid (Lst.q HZ2.out hq)
              have HBX := Lib.hid (Bk.q HBX.out hq)
              have hS2 := Q.trans hS hq
              refine hK.out _ _ (by exact hS2) (fun hHeld => ?_)
              clear hK K hHeld hS hq
              have hS := hS2
              clear hS2
              generalize yR1x26.alloc (.cells #[.slice y1' S y2', .slice ka q1 kc] 22) = yR1x27 at *
              generalize yR1x26.heap.size = bC at *
              try simp only [Act.put, List.setIfInBounds_toArray, List.set_cons_zero, List.set_cons_succ]
              change wpAnyH _ _ _ _ _ _ #[true, true, true, true, true, true, true, true, true, true, true, true, true, true, true, true, true, false, false, true, false] _ _
              refine wpAnyH_ready (rs := [17]) (by kernel_rfl) (by simp) ?_
              refine (AllReadyH.cons (by (try simp only [List.getElem?_toArray, List.getElem?_cons_succ, List.getElem?_cons_zero]); rfl) (fun K hK => ?_) AllReadyH.nil)
              go_simp
              refine (HC2.out _ _ _ _ _ _ HB2.out HE6.out HZ2.out).mono ?_
              rintro e yR1x28 ⟨fa, fc, rfl, hz0, hq⟩
              have HF7 := Lib.hid (hz0.mono hS.le)
              clear hz0
              try (go_wp2_with fail)
              have HA6 := Lib.hid (Lst.q HA6.out hq)
              have HE6 := Lib.hid (Lst.q HE6.out hq)
              have HZ1 := Lib.hid (Lst.q HZ1.out hq)
              have HB1 := Lib.hid (Bk.q HB1.out hq)
              have HI7 := Lib.hid (Own.q HI7.out hq)
              have HZ2 := Lib.hid (Lst.q HZ2.out hq)
              have HBX := Lib.hid (Bk.q HBX.out hq)
              have HB2 := Lib.hid (Bk.q HB2.out hq)
              have hS2 := Q.trans hS hq
              refine hK.out _ _ (by exact hS2) (fun hHeld => ?_)
              clear hK K hHeld hS hq
              have hS := hS2
              clear hS2
              try simp only [Act.put, List.setIfInBounds_toArray, List.set_cons_zero, List.set_cons_succ]
              change wpAnyH _ _ _ _ _ _ #[true, true, true, true, true, true, true, true, true, true, true, true, true, true, true, true, true, true, false, true, false] _ _
              refine wpAnyH_take (i := 18) (v := ?vR1x29) (by (try simp only [List.getElem?_toArray, List.getElem?_cons_succ, List.getElem?_cons_zero]); rfl) (by kernel_rfl) (by kernel_rfl) (by kernel_rfl) (by exact fun _ _ _ h => h) (Or.inl ⟨by first | kernel_rfl | rfl, ?hyR1x29⟩) (by exact hS) ?rsR1x29
              case hyR1x29 => (intro uz hSw; (try dsimp only at hSw); go_simp; try with_reducible rfl)
              try simp only [Act.put, List.setIfInBounds_toArray, List.set_cons_zero, List.set_cons_succ]
              change wpAnyH _ _ _ _ _ _ #[true, true, true, true, true, true, true, true, true, true, true, true, true, true, true, true, true, true, true, true, false] _ _
              refine wpAnyH_ready (rs := [20]) (by kernel_rfl) (by simp) ?_
              refine (AllReadyH.cons (by (try simp only [List.getElem?_toArray, List.getElem?_cons_succ, List.getElem?_cons_zero]); rfl) (fun K hK => ?_) AllReadyH.nil)
              have b0 := HBX.out.cell 0 rfl
              have f0 := HBX.out.free 0
              have b1 := HBX.out.cell 1 rfl
              have f1 := HBX.out.free 1
              have b2 := HBX.out.cell 2 rfl
              have f2 := HBX.out.free 2
              have b3 := HBX.out.cell 3 rfl
              have f3 := HBX.out.free 3
              go_simp
              have hS2 := (Q.setCell (Q.setCell (Q.setCell (Q.setCell hS (ad := ⟨bX, 0, none⟩) HW_bX.out (.bool cs)) (ad := ⟨bX, 1, none⟩) HW_bX.out (.slice ia nI ic)) (ad := ⟨bX, 2, none⟩) HW_bX.out (.bool false)) (ad := ⟨bX, 3, none⟩) HW_bX.out (.slice fa nF fc))
              have HE := Lib.hid ((((HBX.out.set 0 (.bool cs)).set 1 (.slice ia nI ic)).set 2 (.bool false)).set 3 (.slice fa nF fc))
              replace HI7 := Lib.hid (Own_past4 HI7.out HBX.out (by decide) (.bool cs) (.slice ia nI ic) (.bool false) (.slice fa nF fc))
              replace HF7 := Lib.hid (Own_past4 HF7.out HBX.out (by decide) (.bool cs) (.slice ia nI ic) (.bool false) (.slice fa nF fc))
              refine hK.out _ _ (by exact hS2) (fun hHeld => ?_)
              clear hK K hHeld hS
              have hS := hS2
              clear hS2 b0 f0 b1 f1 b2 f2 b3 f3
              generalize ((((yR1x28.setCell ⟨bX, 0, none⟩ (.bool cs)).setCell ⟨bX, 1, none⟩ (.slice ia nI ic)).setCell ⟨bX, 2, none⟩ (.bool false)).setCell ⟨bX, 3, none⟩ (.slice fa nF fc)) = yR1x30 at *
              try simp only [Act.put, List.setIfInBounds_toArray, List.set_cons_zero, List.set_cons_succ]
              change wpAnyH _ _ _ _ _ _ #[true, true, true, true, true, true, true, true, true, true, true, true, true, true, true, true, true, true, true, true, true] _ _
              refine wpAnyH_done (by kernel_rfl) ?_ _
              go_wp2_with fail
              go_meet
              exact ⟨bX, ia, ic, fa, fc, rfl, HW_bX.out, HE.out, HI7.out, HF7.out, hS⟩
          · go_simp
            have hq := (Q.refl yR1x15).alloc (.cells #[.bool false, .slice none 0 0, .bool false, .slice none 0 0] 30)
            have HBX := Lib.hid (Bk.new yR1x15 30 [.bool false, .slice none 0 0, .bool false, .slice none 0 0])
            have HW_bX := Lib.hid (Q.le hS)
            have HN_bA_bX := Lib.hid (Nat.ne_of_lt HB1.out.lt)
            have HN_bX_bA := Lib.hid (Nat.ne_of_gt HB1.out.lt)
            have HA6 := Lib.hid (Lst.q HA6.out hq)
            have HE6 := Lib.hid (Lst.q HE6.out hq)
            have HZ1 := Lib.hid (Lst.q HZ1.out hq)
            have HB1 := Lib.hid (Bk.q HB1.out hq)
            have HI7 := Lib.hid (Own.q HI7.out hq)
            have hS2 := Q.trans hS hq
            refine hK.out _ _ (by exact hS2) (fun hHeld => ?_)
            clear hK K hHeld hS hq
            have hS := hS2
            clear hS2
            generalize yR1x15.alloc (.cells #[.bool false, .slice none 0 0, .bool false, .slice none 0 0] 30) = yR1x31 at *
            generalize yR1x15.heap.size = bX at *
            try simp only [Act.put, List.setIfInBounds_toArray, List.set_cons_zero, List.set_cons_succ]
            change wpAnyH _ _ _ _ _ _ #[true, true, true, true, true, true, true, true, true, true, true, true, true, true, true, false, false, false, false, true, false] _ _
            refine wpAnyH_ready (rs := [15]) (by kernel_rfl) (by simp) ?_
            refine (AllReadyH.cons (by (try simp only [List.getElem?_toArray, List.getElem?_cons_succ, List.getElem?_cons_zero]); rfl) (fun K hK => ?_) AllReadyH.nil)
            go_simp
            refine (HN2.out _).mono ?_
            rintro e yR1x32 ⟨ka, kc, rfl, hz0, hq⟩
            have HZ2 := Lib.hid hz0
            clear hz0
            try (go_wp2_with fail)
            have HA6 := Lib.hid (Lst.q HA6.out hq)
            have HE6 := Lib.hid (Lst.q HE6.out hq)
            have HZ1 := Lib.hid (Lst.q HZ1.out hq)
            have HB1 := Lib.hid (Bk.q HB1.out hq)
            have HI7 := Lib.hid (Own.q HI7.out hq)
            have HBX := Lib.hid (Bk.q HBX.out hq)
            have hS2 := Q.trans hS hq
            refine hK.out _ _ (by exact hS2) (fun hHeld => ?_)
            clear hK K hHeld hS hq
            have hS := hS2
            clear hS2
            try simp only [Act.put, List.setIfInBounds_toArray, List.set_cons_zero, List.set_cons_succ]
            change wpAnyH _ _ _ _ _ _ #[true, true, true, true, true, true, true, true, true, true, true, true, true, true, true, true, false, false, false, true, false] _ _
            refine wpAnyH_ready (rs := [16]) (by kernel_rfl) (by simp) ?_
            refine (AllReadyH.cons (by (try simp only [List.getElem?_toArray, List.getElem?_cons_succ, List.getElem?_cons_zero]); rfl) (fun K hK => ?_) AllReadyH.nil)
            go_simp
            have hq := (Q.refl yR1x32).alloc (.cells #[.slice y1' S y2', .slice ka q1 kc] 22)
            have HB2 := Lib.hid (Bk.new yR1x32 22 [.slice y1' S y2', .slice ka q1 kc])
            have HW_bC := Lib.hid (Q.le hS)
            have HN_bA_bC := Lib.hid (Nat.ne_of_lt HB1.out.lt)
            have HN_bC_bA := Lib.hid (Nat.ne_of_gt HB1.out.lt)
            have HN_bX_bC := Lib.hid (Nat.ne_of_lt HBX.out.lt)
            have HN_bC_bX := Lib.hid (Nat.ne_of_gt HBX.out.lt)
            have HA6 := Lib.hid (Lst.q HA6.out hq)
            have HE6 := Lib.hid (Lst.q HE6.out hq)
            have HZ1 := Lib.hid (Lst.q HZ1.out hq)
            have HB1 := Lib.hid (Bk.q HB1.out hq)
            have HI7 := Lib.hid (Own.q HI7.out hq)
            have HBX := Lib.hid (Bk.q HBX.out hq)
            have HZ2 := Lib.hid (Lst.q HZ2.out hq)
            have hS2 := Q.trans hS hq
            refine hK.out _ _ (by exact hS2) (fun hHeld => ?_)
            clear hK K hHeld hS hq
            have hS := hS2
            clear hS2
            generalize yR1x32.alloc (.cells #[.slice y1' S y2', .slice ka q1 kc] 22) = yR1x33 at *
            generalize yR1x32.heap.size = bC at *
            try simp only [Act.put, List.setIfInBounds_toArray, List.set_cons_zero, List.set_cons_succ]
            change wpAnyH _ _ _ _ _ _ #[true, true, true, true, true, true, true, true, true, true, true, true, true, true, true, true, true, false, false, true, false] _ _
            refine wpAnyH_ready (rs := [17]) (by kernel_rfl) (by simp) ?_
            refine (AllReadyH.cons (by (try simp only [List.getElem?_toArray, List.getElem?_cons_succ, List.getElem?_cons_zero]); rfl) (fun K hK => ?_) AllReadyH.nil)
            go_simp
            refine (HC2.out _ _ _ _ _ _ HB2.out HE6.out HZ2.out).mono ?_
            rintro e yR1x34 ⟨fa, fc, rfl, hz0, hq⟩
            have HF7 := Lib.hid (hz0.mono hS.le)
            clear hz0
            try (go_wp2_with fail)
            have HA6 := Lib.hid (Lst.q HA6.out hq)
            have HE6 := Lib.hid (Lst.q HE6.out hq)
            have HZ1 := Lib.hid (Lst.q HZ1.out hq)
            have HB1 := Lib.hid (Bk.q HB1.out hq)
            have HI7 := Lib.hid (Own.q HI7.out hq)
            have HBX := Lib.hid (Bk.q HBX.out hq)
            have HZ2 := Lib.hid (Lst.q HZ2.out hq)
            have HB2 := Lib.hid (Bk.q HB2.out hq)
            have hS2 := Q.trans hS hq
            refine hK.out _ _ (by exact hS2) (fun hHeld => ?_)
            clear hK K hHeld hS hq
            have hS := hS2
            clear hS2
            try simp only [Act.put, List.setIfInBounds_toArray, List.set_cons_zero, List.set_cons_succ]
            change wpAnyH _ _ _ _ _ _ #[true, true, true, true, true, true, true, true, true, true, true, true, true, true, true, true, true, true, false, true, false] _ _
            refine wpAnyH_take (i := 18) (v := ?vR1x35) (by (try simp only [List.getElem?_toArray, List.getElem?_cons_succ, List.getElem?_cons_zero]); rfl) (by kernel_rfl) (by kernel_rfl) (by kernel_rfl) (by exact fun _ _ _ h => h) (Or.inl ⟨by first | kernel_rfl | rfl, ?hyR1x35⟩) (by exact hS) ?rsR1x35
            case hyR1x35 => (intro uz hSw; (try dsimp only at hSw); go_simp; try with_reducible rfl)
            try simp only [Act.put, List.setIfInBounds_toArray, List.set_cons_zero, List.set_cons_succ]
            change wpAnyH _ _ _ _ _ _ #[true, true, true, true, true, true, true, true, true, true, true, true, true, true, true, true, true, true, true, true, false] _ _
            refine wpAnyH_ready (rs := [20]) (by kernel_rfl) (by simp) ?_
            refine (AllReadyH.cons (by (try simp only [List.getElem?_toArray, List.getElem?_cons_succ, List.getElem?_cons_zero]); rfl) (fun K hK => ?_) AllReadyH.nil)
            have b0 := HBX.out.cell 0 rfl
            have f0 := HBX.out.free 0
            have b1 := HBX.out.cell 1 rfl
            have f1 := HBX.out.free 1
            have b2 := HBX.out.cell 2 rfl
            have f2 := HBX.out.free 2
            have b3 := HBX.out.cell 3 rfl
            have f3 := HBX.out.free 3
            go_simp
            have hS2 := (Q.setCell (Q.setCell (Q.setCell (Q.setCell hS (ad := ⟨bX, 0, none⟩) HW_bX.out (.bool cs)) (ad := ⟨bX, 1, none⟩) HW_bX.out (.slice ia nI ic)) (ad := ⟨bX, 2, none⟩) HW_bX.out (.bool false)) (ad := ⟨bX, 3, none⟩) HW_bX.out (.slice fa nF fc))
            have HE := Lib.hid ((((HBX.out.set 0 (.bool cs)).set 1 (.slice ia nI ic)).set 2 (.bool false)).set 3 (.slice fa nF fc))
            replace HI7 := Lib.hid (Own_past4 HI7.out HBX.out (by decide) (.bool cs) (.slice ia nI ic) (.bool false) (.slice fa nF fc))
            replace HF7 := Lib.hid (Own_past4 HF7.out HBX.out (by decide) (.bool cs) (.slice ia nI ic) (.bool false) (.slice fa nF fc))
            refine hK.out _ _ (by exact hS2) (fun hHeld => ?_)
            clear hK K hHeld hS
            have hS := hS2
            clear hS2 b0 f0 b1 f1 b2 f2 b3 f3
            generalize ((((yR1x34.setCell ⟨bX, 0, none⟩ (.bool cs)).setCell ⟨bX, 1, none⟩ (.slice ia nI ic)).setCell ⟨bX, 2, none⟩ (.bool false)).setCell ⟨bX, 3, none⟩ (.slice fa nF fc)) = yR1x36 at *
            try simp only [Act.put, List.setIfInBounds_toArray, List.set_cons_zero, List.set_cons_succ]
            change wpAnyH _ _ _ _ _ _ #[true, true, true, true, true, true, true, true, true, true, true, true, true, true, true, true, true, true, true, true, true] _ _
            refine wpAnyH_done (by kernel_rfl) ?_ _
            go_wp2_with fail
            go_meet
            exact ⟨bX, ia, ic, fa, fc, rfl, HW_bX.out, HE.out, HI7.out, HF7.out, hS⟩
        · go_simp
          have hq := (Q.refl yR1x14).alloc (.cells #[.bool false, .slice none 0 0, .bool false, .slice none 0 0] 30)
          have HBX := Lib.hid (Bk.new yR1x14 30 [.bool false, .slice none 0 0, .bool false, .slice none 0 0])
          have HW_bX := Lib.hid (Q.le hS)
          have HN_bA_bX := Lib.hid (Nat.ne_of_lt HB1.out.lt)
          have HN_bX_bA := Lib.hid (Nat.ne_of_gt HB1.out.lt)
          have HA6 := Lib.hid (Lst.q HA6.out hq)
          have HE6 := Lib.hid (Lst.q HE6.out hq)
          have HZ1 := Lib.hid (Lst.q HZ1.out hq)
          have HB1 := Lib.hid (Bk.q HB1.out hq)
          have hS2 := Q.trans hS hq
          refine hK.out _ _ (by exact hS2) (fun hHeld => ?_)
          clear hK K hHeld hS hq
          have hS := hS2
          clear hS2
          generalize yR1x14.alloc (.cells #[.bool false, .slice none 0 0, .bool false, .slice none 0 0] 30) = yR1x37 at *
          generalize yR1x14.heap.size = bX at *
          try simp only [Act.put, List.setIfInBounds_toArray, List.set_cons_zero, List.set_cons_succ]
          change wpAnyH _ _ _ _ _ _ #[true, true, true, true, true, true, true, true, true, false, true, true, true, true, true, false, false, false, false, true, false] _ _
          refine wpAnyH_ready (rs := [9]) (by kernel_rfl) (by simp) ?_
          refine (AllReadyH.cons (by (try simp only [List.getElem?_toArray, List.getElem?_cons_succ, List.getElem?_cons_zero]); rfl) (fun K hK => ?_) AllReadyH.nil)
          go_simp
          refine (HC1.out _ _ _ _ _ _ HB1.out HZ1.out HA6.out).mono ?_
          rintro e yR1x38 ⟨ia, ic, rfl, hz0, hq⟩
          have HI7 := Lib.hid (hz0.mono hS.le)
          clear hz0
          try (go_wp2_with fail)
          have HA6 := Lib.hid (Lst.q HA6.out hq)
          have HE6 := Lib.hid (Lst.q HE6.out hq)
          have HZ1 := Lib.hid (Lst.q HZ1.out hq)
          have HB1 := Lib.hid (Bk.q HB1.out hq)
          have HBX := Lib.hid (Bk.q HBX.out hq)
          have hS2 := Q.trans hS hq
          refine hK.out _ _ (by exact hS2) (fun hHeld => ?_)
          clear hK K hHeld hS hq
          have hS := hS2
          clear hS2
          try simp only [Act.put, List.setIfInBounds_toArray, List.set_cons_zero, List.set_cons_succ]
          change wpAnyH _ _ _ _ _ _ #[true, true, true, true, true, true, true, true, true, true, true, true, true, true, true, false, false, false, false, true, false] _ _
          refine wpAnyH_ready (rs := [15]) (by kernel_rfl) (by simp) ?_
          refine (AllReadyH.cons (by (try simp only [List.getElem?_toArray, List.getElem?_cons_succ, List.getElem?_cons_zero]); rfl) (fun K hK => ?_) AllReadyH.nil)
          go_simp
          refine (HN2.out _).mono ?_
          rintro e yR1x39 ⟨ka, kc, rfl, hz0, hq⟩
          have HZ2 := Lib.hid hz0
          clear hz0
          try (go_wp2_with fail)
          have HA6 := Lib.hid (Lst.q HA6.out hq)
          have HE6 := Lib.hid (Lst.q HE6.out hq)
          have HZ1 := Lib.hid (Lst.q HZ1.out hq)
          have HB1 := Lib.hid (Bk.q HB1.out hq)
          have HBX := Lib.hid (Bk.q HBX.out hq)
          have HI7 := Lib.hid (Own.q HI7.out hq)
          have hS2 := Q.trans hS hq
          refine hK.out _ _ (by exact hS2) (fun hHeld => ?_)
          clear hK K hHeld hS hq
          have hS := hS2
          clear hS2
          try simp only [Act.put, List.setIfInBounds_toArray, List.set_cons_zero, List.set_cons_succ]
          change wpAnyH _ _ _ _ _ _ #[true, true, true, true, true, true, true, true, true, true, true, true, true, true, true, true, false, false, false, true, false] _ _
          refine wpAnyH_ready (rs := [16]) (by kernel_rfl) (by simp) ?_
          refine (AllReadyH.cons (by (try simp only [List.getElem?_toArray, List.getElem?_cons_succ, List.getElem?_cons_zero]); rfl) (fun K hK => ?_) AllReadyH.nil)
          go_simp
          have hq := (Q.refl yR1x39).alloc (.cells #[.slice y1' S y2', .slice ka q1 kc] 22)
          have HB2 := Lib.hid (Bk.new yR1x39 22 [.slice y1' S y2', .slice ka q1 kc])
          have HW_bC := Lib.hid (Q.le hS)
          have HN_bA_bC := Lib.hid (Nat.ne_of_lt HB1.out.lt)
          have HN_bC_bA := Lib.hid (Nat.ne_of_gt HB1.out.lt)
          have HN_bX_bC := Lib.hid (Nat.ne_of_lt HBX.out.lt)
          have HN_bC_bX := Lib.hid (Nat.ne_of_gt HBX.out.lt)
          have HA6 := Lib.hid (Lst.q HA6.out hq)
          have HE6 := Lib.hid (Lst.q HE6.out hq)
          have HZ1 := Lib.hid (Lst.q HZ1.out hq)
          have HB1 := Lib.hid (Bk.q HB1.out hq)
          have HBX := Lib.hid (Bk.q HBX.out hq)
          have HI7 := Lib.hid (Own.q HI7.out hq)
          have HZ2 := Lib.hid (Lst.q HZ2.out hq)
          have hS2 := Q.trans hS hq
          refine hK.out _ _ (by exact hS2) (fun hHeld => ?_)
          clear hK K hHeld hS hq
          have hS := hS2
          clear hS2
          generalize yR1x39.alloc (.cells #[.slice y1' S y2', .slice ka q1 kc] 22) = yR1x40 at *
          generalize yR1x39.heap.size = bC at *
          try simp only [Act.put, List.setIfInBounds_toArray, List.set_cons_zero, List.set_cons_succ]
          change wpAnyH _ _ _ _ _ _ #[true, true, true, true, true, true, true, true, true, true, true, true, true, true, true, true, true, false, false, true, false] _ _
          refine wpAnyH_ready (rs := [17]) (by kernel_rfl) (by simp) ?_
          refine (AllReadyH.cons (by (try simp only [List.getElem?_toArray, List.getElem?_cons_succ, List.getElem?_cons_zero]); rfl) (fun K hK => ?_) AllReadyH.nil)
          go_simp
          refine (HC2.out _ _ _ _ _ _ HB2.out HE6.out HZ2.out).mono ?_
          rintro e yR1x41 ⟨fa, fc, rfl, hz0, hq⟩
          have HF7 := Lib.hid (hz0.mono hS.le)
          clear hz0
          try (go_wp2_with fail)
          have HA6 := Lib.hid (Lst.q HA6.out hq)
          have HE6 := Lib.hid (Lst.q HE6.out hq)
          have HZ1 := Lib.hid (Lst.q HZ1.out hq)
          have HB1 := Lib.hid (Bk.q HB1.out hq)
          have HBX := Lib.hid (Bk.q HBX.out hq)
          have HI7 := Lib.hid (Own.q HI7.out hq)
          have HZ2 := Lib.hid (Lst.q HZ2.out hq)
          have HB2 := Lib.hid (Bk.q HB2.out hq)
          have hS2 := Q.trans hS hq
          refine hK.out _ _ (by exact hS2) (fun hHeld => ?_)
          clear hK K hHeld hS hq
          have hS := hS2
          clear hS2
          try simp only [Act.put, List.setIfInBounds_toArray, List.set_cons_zero, List.set_cons_succ]
          change wpAnyH _ _ _ _ _ _ #[true, true, true, true, true, true, true, true, true, true, true, true, true, true, true, true, true, true, false, true, false] _ _
          refine wpAnyH_take (i := 18) (v := ?vR1x42) (by (try simp only [List.getElem?_toArray, List.getElem?_cons_succ, List.getElem?_cons_zero]); rfl) (by kernel_rfl) (by kernel_rfl) (by kernel_rfl) (by exact fun _ _ _ h => h) (Or.inl ⟨by first | kernel_rfl | rfl, ?hyR1x42⟩) (by exact hS) ?rsR1x42
          case hyR1x42 => (intro uz hSw; (try dsimp only at hSw); go_simp; try with_reducible rfl)
          try simp only [Act.put, List.setIfInBounds_toArray, List.set_cons_zero, List.set_cons_succ]
          change wpAnyH _ _ _ _ _ _ #[true, true, true, true, true, true, true, true, true, true, true, true, true, true, true, true, true, true, true, true, false] _ _
          refine wpAnyH_ready (rs := [20]) (by kernel_rfl) (by simp) ?_
          refine (AllReadyH.cons (by (try simp only [List.getElem?_toArray, List.getElem?_cons_succ, List.getElem?_cons_zero]); rfl) (fun K hK => ?_) AllReadyH.nil)
          have b0 := HBX.out.cell 0 rfl
          have f0 := HBX.out.free 0
          have b1 := HBX.out.cell 1 rfl
          have f1 := HBX.out.free 1
          have b2 := HBX.out.cell 2 rfl
          have f2 := HBX.out.free 2
          have b3 := HBX.out.cell 3 rfl
          have f3 := HBX.out.free 3
          go_simp
          have hS2 := (Q.setCell (Q.setCell (Q.setCell (Q.setCell hS (ad := ⟨bX, 0, none⟩) HW_bX.out (.bool cs)) (ad := ⟨bX, 1, none⟩) HW_bX.out (.slice ia nI ic)) (ad := ⟨bX, 2, none⟩) HW_bX.out (.bool false)) (ad := ⟨bX, 3, none⟩) HW_bX.out (.slice fa nF fc))
          have HE := Lib.hid ((((HBX.out.set 0 (.bool cs)).set 1 (.slice ia nI ic)).set 2 (.bool false)).set 3 (.slice fa nF fc))
          replace HI7 := Lib.hid (Own_past4 HI7.out HBX.out (by decide) (.bool cs) (.slice ia nI ic) (.bool false) (.slice fa nF fc))
          replace HF7 := Lib.hid (Own_past4 HF7.out HBX.out (by decide) (.bool cs) (.slice ia nI ic) (.bool false) (.slice fa nF fc))
          refine hK.out _ _ (by exact hS2) (fun hHeld => ?_)
          clear hK K hHeld hS
          have hS := hS2
          clear hS2 b0 f0 b1 f1 b2 f2 b3 f3
          generalize ((((yR1x41.setCell ⟨bX, 0, none⟩ (.bool cs)).setCell ⟨bX, 1, none⟩ (.slice ia nI ic)).setCell ⟨bX, 2, none⟩ (.bool false)).setCell ⟨bX, 3, none⟩ (.slice fa nF fc)) = yR1x43 at *
          try simp only [Act.put, List.setIfInBounds_toArray, List.set_cons_zero, List.set_cons_succ]
          change wpAnyH _ _ _ _ _ _ #[true, true, true, true, true, true, true, true, true, true, true, true, true, true, true, true, true, true, true, true, true] _ _
          refine wpAnyH_done (by kernel_rfl) ?_ _
          go_wp2_with fail
          go_meet
          exact ⟨bX, ia, ic, fa, fc, rfl, HW_bX.out, HE.out, HI7.out, HF7.out, hS⟩
      · go_simp
        have hq := (Q.refl yR1x13).alloc (.cells #[.bool false, .slice none 0 0, .bool false, .slice none 0 0] 30)
        have HBX := Lib.hid (Bk.new yR1x13 30 [.bool false, .slice none 0 0, .bool false, .slice none 0 0])
        have HW_bX := Lib.hid (Q.le hS)
        have HA6 := Lib.hid (Lst.q HA6.out hq)
        have HE6 := Lib.hid (Lst.q HE6.out hq)
        have HZ1 := Lib.hid (Lst.q HZ1.out hq)
        have hS2 := Q.trans hS hq
        refine hK.out _ _ (by exact hS2) (fun hHeld => ?_)
        clear hK K hHeld hS hq
        have hS := hS2
        clear hS2
        generalize yR1x13.alloc (.cells #[.bool false, .slice none 0 0, .bool false, .slice none 0 0] 30) = yR1x44 at *
        generalize yR1x13.heap.size = bX at *
        try simp only [Act.put, List.setIfInBounds_toArray, List.set_cons_zero, List.set_cons_succ]
        change wpAnyH _ _ _ _ _ _ #[true, true, true, true, true, true, true, true, false, false, true, true, true, true, true, false, false, false, false, true, false] _ _
        refine wpAnyH_ready (rs := [8]) (by kernel_rfl) (by simp) ?_
        refine (AllReadyH.cons (by (try simp only [List.getElem?_toArray, List.getElem?_cons_succ, List.getElem?_cons_zero]); rfl) (fun K hK => ?_) AllReadyH.nil)
        go_simp
        have hq := (Q.refl yR1x44).alloc (.cells #[.slice za p1 zc, .slice x1' na x2'] 22)
        have HB1 := Lib.hid (Bk.new yR1x44 22 [.slice za p1 zc, .slice x1' na x2'])
        have HW_bA := Lib.hid (Q.le hS)
        have HN_bX_bA := Lib.hid (Nat.ne_of_lt HBX.out.lt)
        have HN_bA_bX := Lib.hid (Nat.ne_of_gt HBX.out.lt)
        have HA6 := Lib.hid (Lst.q HA6.out hq)
        have HE6 := Lib.hid (Lst.q HE6.out hq)
        have HZ1 := Lib.hid (Lst.q HZ1.out hq)
        have HBX := Lib.hid (Bk.q HBX.out hq)
        have hS2 := Q.trans hS hq
        refine hK.out _ _ (by exact hS2) (fun hHeld => ?_)
        clear hK K hHeld hS hq
        have hS := hS2
        clear hS2
        generalize yR1x44.alloc (.cells #[.slice za p1 zc, .slice x1' na x2'] 22) = yR1x45 at *
        generalize yR1x44.heap.size = bA at *
        try simp only [Act.put, List.setIfInBounds_toArray, List.set_cons_zero, List.set_cons_succ]
        change wpAnyH _ _ _ _ _ _ #[true, true, true, true, true, true, true, true, true, false, true, true, true, true, true, false, false, false, false, true, false] _ _
        refine wpAnyH_ready (rs := [9]) (by kernel_rfl) (by simp) ?_
        refine (AllReadyH.cons (by (try simp only [List.getElem?_toArray, List.getElem?_cons_succ, List.getElem?_cons_zero]); rfl) (fun K hK => ?_) AllReadyH.nil)
        go_simp
        refine (HC1.out _ _ _ _ _ _ HB1.out HZ1.out HA6.out).mono ?_
        rintro e yR1x46 ⟨ia, ic, rfl, hz0, hq⟩
        have HI7 := Lib.hid (hz0.mono hS.le)
        clear hz0
        try (go_wp2_with fail)
        have HA6 := Lib.hid (Lst.q HA6.out hq)
        have HE6 := Lib.hid (Lst.q HE6.out hq)
        have HZ1 := Lib.hid (Lst.q HZ1.out hq)
        have HBX := Lib.hid (Bk.q HBX.out hq)
        have HB1 := Lib.hid (Bk.q HB1.out hq)
        have hS2 := Q.trans hS hq
        refine hK.out _ _ (by exact hS2) (fun hHeld => ?_)
        clear hK K hHeld hS hq
        have hS := hS2
        clear hS2
        try simp only [Act.put, List.setIfInBounds_toArray, List.set_cons_zero, List.set_cons_succ]
        change wpAnyH _ _ _ _ _ _ #[true, true, true, true, true, true, true, true, true, true, true, true, true, true, true, false, false, false, false, true, false] _ _
        refine wpAnyH_ready (rs := [15]) (by kernel_rfl) (by simp) ?_
        refine (AllReadyH.cons (by (try simp only [List.getElem?_toArray, List.getElem?_cons_succ, List.getElem?_cons_zero]); rfl) (fun K hK => ?_) AllReadyH.nil)
        go_simp
        refine (HN2.out _).mono ?_
        rintro e yR1x47 ⟨ka, kc, rfl, hz0, hq⟩
        have HZ2 := Lib.hid hz0
        clear hz0
        try (go_wp2_with fail)
        have HA6 := Lib.hid (Lst.q HA6.out hq)
        have HE6 := Lib.hid (Lst.q HE6.out hq)
        have HZ1 := Lib.hid (Lst.q HZ1.out hq)
        have HBX := Lib.hid (Bk.q HBX.out hq)
        have HB1 := Lib.hid (Bk.q HB1.out hq)
        have HI7 := Lib.hid (Own.q HI7.out hq)
        have hS2 := Q.trans hS hq
        refine hK.out _ _ (by exact hS2) (fun hHeld => ?_)
        clear hK K hHeld hS hq
        have hS := hS2
        clear hS2
        try simp only [Act.put, List.setIfInBounds_toArray, List.set_cons_zero, List.set_cons_succ]
        change wpAnyH _ _ _ _ _ _ #[true, true, true, true, true, true, true, true, true, true, true, true, true, true, true, true, false, false, false, true, false] _ _
        refine wpAnyH_ready (rs := [16]) (by kernel_rfl) (by simp) ?_
        refine (AllReadyH.cons (by (try simp only [List.getElem?_toArray, List.getElem?_cons_succ, List.getElem?_cons_zero]); rfl) (fun K hK => ?_) AllReadyH.nil)
        go_simp
        have hq := (Q.refl yR1x47).alloc (.cells #[.slice y1' S y2', .slice ka q1 kc] 22)
        have HB2 := Lib.hid (Bk.new yR1x47 22 [.slice y1' S y2', .slice ka q1 kc])
        have HW_bC := Lib.hid (Q.le hS)
        have HN_bX_bC := Lib.hid (Nat.ne_of_lt HBX.out.lt)
        have HN_bC_bX := Lib.hid (Nat.ne_of_gt HBX.out.lt)
        have HN_bA_bC := Lib.hid (Nat.ne_of_lt HB1.out.lt)
        have HN_bC_bA := Lib.hid (Nat.ne_of_gt HB1.out.lt)
        have HA6 := Lib.hid (Lst.q HA6.out hq)
        have HE6 := Lib.hid (Lst.q HE6.out hq)
        have HZ1 := Lib.hid (Lst.q HZ1.out hq)
        have HBX := Lib.hid (Bk.q HBX.out hq)
        have HB1 := Lib.hid (Bk.q HB1.out hq)
        have HI7 := Lib.hid (Own.q HI7.out hq)
        have HZ2 := Lib.hid (Lst.q HZ2.out hq)
        have hS2 := Q.trans hS hq
        refine hK.out _ _ (by exact hS2) (fun hHeld => ?_)
        clear hK K hHeld hS hq
        have hS := hS2
        clear hS2
        generalize yR1x47.alloc (.cells #[.slice y1' S y2', .slice ka q1 kc] 22) = yR1x48 at *
        generalize yR1x47.heap.size = bC at *
        try simp only [Act.put, List.setIfInBounds_toArray, List.set_cons_zero, List.set_cons_succ]
        change wpAnyH _ _ _ _ _ _ #[true, true, true, true, true, true, true, true, true, true, true, true, true, true, true, true, true, false, false, true, false] _ _
        refine wpAnyH_ready (rs := [17]) (by kernel_rfl) (by simp) ?_
        refine (AllReadyH.cons (by (try simp only [List.getElem?_toArray, List.getElem?_cons_succ, List.getElem?_cons_zero]); rfl) (fun K hK => ?_) AllReadyH.nil)
        go_simp
        refine (HC2.out _ _ _ _ _ _ HB2.out HE6.out HZ2.out).mono ?_
        rintro e yR1x49 ⟨fa, fc, rfl, hz0, hq⟩
        have HF7 := Lib.hid (hz0.mono hS.le)
        clear hz0
        try (go_wp2_with fail)
        have HA6 := Lib.hid (Lst.q HA6.out hq)
        have HE6 := Lib.hid (Lst.q HE6.out hq)
        have HZ1 := Lib.hid (Lst.q HZ1.out hq)
        have HBX := Lib.hid (Bk.q HBX.out hq)
        have HB1 := Lib.hid (Bk.q HB1.out hq)
        have HI7 := Lib.hid (Own.q HI7.out hq)
        have HZ2 := Lib.hid (Lst.q HZ2.out hq)
        have HB2 := Lib.hid (Bk.q HB2.out hq)
        have hS2 := Q.trans hS hq
        refine hK.out _ _ (by exact hS2) (fun hHeld => ?_)
        clear hK K hHeld hS hq
        have hS := hS2
        clear hS2
        try simp only [Act.put, List.setIfInBounds_toArray, List.set_cons_zero, List.set_cons_succ]
        change wpAnyH _ _ _ _ _ _ #[true, true, true, true, true, true, true, true, true, true, true, true, true, true, true, true, true, true, false, true, false] _ _
        refine wpAnyH_take (i := 18) (v := ?vR1x50) (by (try simp only [List.getElem?_toArray, List.getElem?_cons_succ, List.getElem?_cons_zero]); rfl) (by kernel_rfl) (by kernel_rfl) (by kernel_rfl) (by exact fun _ _ _ h => h) (Or.inl ⟨by first | kernel_rfl | rfl, ?hyR1x50⟩) (by exact hS) ?rsR1x50
        case hyR1x50 => (intro uz hSw; (try dsimp only at hSw); go_simp; try with_reducible rfl)
        try simp only [Act.put, List.setIfInBounds_toArray, List.set_cons_zero, List.set_cons_succ]
        change wpAnyH _ _ _ _ _ _ #[true, true, true, true, true, true, true, true, true, true, true, true, true, true, true, true, true, true, true, true, false] _ _
        refine wpAnyH_ready (rs := [20]) (by kernel_rfl) (by simp) ?_
        refine (AllReadyH.cons (by (try simp only [List.getElem?_toArray, List.getElem?_cons_succ, List.getElem?_cons_zero]); rfl) (fun K hK => ?_) AllReadyH.nil)
        have b0 := HBX.out.cell 0 rfl
        have f0 := HBX.out.free 0
        have b1 := HBX.out.cell 1 rfl
        have f1 := HBX.out.free 1
        have b2 := HBX.out.cell 2 rfl
        have f2 := HBX.out.free 2
        have b3 := HBX.out.cell 3 rfl
        have f3 := HBX.out.free 3
        go_simp
        have hS2 := (Q.setCell (Q.setCell (Q.setCell (Q.setCell hS (ad := ⟨bX, 0, none⟩) HW_bX.out (.bool cs)) (ad := ⟨bX, 1, none⟩) HW_bX.out (.slice ia nI ic)) (ad := ⟨bX, 2, none⟩) HW_bX.out (.bool false)) (ad := ⟨bX, 3, none⟩) HW_bX.out (.slice fa nF fc))
        have HE := Lib.hid ((((HBX.out.set 0 (.bool cs)).set 1 (.slice ia nI ic)).set 2 (.bool false)).set 3 (.slice fa nF fc))
        replace HI7 := Lib.hid (Own_past4 HI7.out HBX.out (by decide) (.bool cs) (.slice ia nI ic) (.bool false) (.slice fa nF fc))
        replace HF7 := Lib.hid (Own_past4 HF7.out HBX.out (by decide) (.bool cs) (.slice ia nI ic) (.bool false) (.slice fa nF fc))
        refine hK.out _ _ (by exact hS2) (fun hHeld => ?_)
        clear hK K hHeld hS
        have hS := hS2
        clear hS2 b0 f0 b1 f1 b2 f2 b3 f3
        generalize ((((yR1x49.setCell ⟨bX, 0, none⟩ (.bool cs)).setCell ⟨bX, 1, none⟩ (.slice ia nI ic)).setCell ⟨bX, 2, none⟩ (.bool false)).setCell ⟨bX, 3, none⟩ (.slice fa nF fc)) = yR1x51 at *
        try simp only [Act.put, List.setIfInBounds_toArray, List.set_cons_zero, List.set_cons_succ]
        change wpAnyH _ _ _ _ _ _ #[true, true, true, true, true, true, true, true, true, true, true, true, true, true, true, true, true, true, true, true, true] _ _
        refine wpAnyH_done (by kernel_rfl) ?_ _
        go_wp2_with fail
        go_meet
        exact ⟨bX, ia, ic, fa, fc, rfl, HW_bX.out, HE.out, HI7.out, HF7.out, hS⟩
    · go_simp
      have hq := (Q.refl yR1x0).alloc (.cells #[.bool false, .slice none 0 0, .bool false, .slice none 0 0] 30)
      have HBX := Lib.hid (Bk.new yR1x0 30 [.bool false, .slice none 0 0, .bool false, .slice none 0 0])
      have HW_bX := Lib.hid (Q.le hS)
      have HA6 := Lib.hid (Lst.q HA6.out hq)
      have HE6 := Lib.hid (Lst.q HE6.out hq)
      have hS2 := Q.trans hS hq
      refine hK.out _ _ (by exact hS2) (fun hHeld => ?_)
      clear hK K hHeld hS hq
      have hS := hS2
      clear hS2
      generalize yR1x0.alloc (.cells #[.bool false, .slice none 0 0, .bool false, .slice none 0 0] 30) = yR1x52 at *
      generalize yR1x0.heap.size = bX at *
      try simp only [Act.put, List.setIfInBounds_toArray, List.set_cons_zero, List.set_cons_succ]
      change wpAnyH _ _ _ _ _ _ #[true, true, true, true, true, true, false, true, false, false, true, true, true, true, true, false, false, false, false, true, false] _ _
      refine wpAnyH_ready (rs := [6]) (by kernel_rfl) (by simp) ?_
      refine (AllReadyH.cons (by (try simp only [List.getElem?_toArray, List.getElem?_cons_succ, List.getElem?_cons_zero]); rfl) (fun K hK => ?_) AllReadyH.nil)
      go_simp
      refine (HN1.out _).mono ?_
      rintro e yR1x53 ⟨za, zc, rfl, hz0, hq⟩
      have HZ1 := Lib.hid hz0
      clear hz0
      try (go_wp2_with fail)
      have HA6 := Lib.hid (Lst.q HA6.out hq)
      have HE6 := Lib.hid (Lst.q HE6.out hq)
      have HBX := Lib.hid (Bk.q HBX.out hq)
      have hS2 := Q.trans hS hq
      refine hK.out _ _ (by exact hS2) (fun hHeld => ?_)
      clear hK K hHeld hS hq
      have hS := hS2
      clear hS2
      try simp only [Act.put, List.setIfInBounds_toArray, List.set_cons_zero, List.set_cons_succ]
      change wpAnyH _ _ _ _ _ _ #[true, true, true, true, true, true, true, true, false, false, true, true, true, true, true, false, false, false, false, true, false] _ _
      refine wpAnyH_ready (rs := [8]) (by kernel_rfl) (by simp) ?_
      refine (AllReadyH.cons (by (try simp only [List.getElem?_toArray, List.getElem?_cons_succ, List.getElem?_cons_zero]); rfl) (fun K hK => ?_) AllReadyH.nil)
      go_simp
      have hq := (Q.refl yR1x53).alloc (.cells #[.slice za p1 zc, .slice x1' na x2'] 22)
      have HB1 := Lib.hid (Bk.new yR1x53 22 [.slice za p1 zc, .slice x1' na x2'])
      have HW_bA := Lib.hid (Q.le hS)
      have HN_bX_bA := Lib.hid (Nat.ne_of_lt HBX.out.lt)
      have HN_bA_bX := Lib.hid (Nat.ne_of_gt HBX.out.lt)
      have HA6 := Lib.hid (Lst.q HA6.out hq)
      have HE6 := Lib.hid (Lst.q HE6.out hq)
      have HBX := Lib.hid (Bk.q HBX.out hq)
      have HZ1 := Lib.hid (Lst.q HZ1.out hq)
      have hS2 := Q.trans hS hq
      refine hK.out _ _ (by exact hS2) (fun hHeld => ?_)
      clear hK K hHeld hS hq
      have hS := hS2
      clear hS2
      generalize yR1x53.alloc (.cells #[.slice za p1 zc, .slice x1' na x2'] 22) = yR1x54 at *
      generalize yR1x53.heap.size = bA at *
      try simp only [Act.put, List.setIfInBounds_toArray, List.set_cons_zero, List.set_cons_succ]
      change wpAnyH _ _ _ _ _ _ #[true, true, true, true, true, true, true, true, true, false, true, true, true, true, true, false, false, false, false, true, false] _ _
      refine wpAnyH_ready (rs := [9]) (by kernel_rfl) (by simp) ?_
      refine (AllReadyH.cons (by (try simp only [List.getElem?_toArray, List.getElem?_cons_succ, List.getElem?_cons_zero]); rfl) (fun K hK => ?_) AllReadyH.nil)
      go_simp
      refine (HC1.out _ _ _ _ _ _ HB1.out HZ1.out HA6.out).mono ?_
      rintro e yR1x55 ⟨ia, ic, rfl, hz0, hq⟩
      have HI7 := Lib.hid (hz0.mono hS.le)
      clear hz0
      try (go_wp2_with fail)
      have HA6 := Lib.hid (Lst.q HA6.out hq)
      have HE6 := Lib.hid (Lst.q HE6.out hq)
      have HBX := Lib.hid (Bk.q HBX.out hq)
      have HZ1 := Lib.hid (Lst.q HZ1.out hq)
      have HB1 := Lib.hid (Bk.q HB1.out hq)
      have hS2 := Q.trans hS hq
      refine hK.out _ _ (by exact hS2) (fun hHeld => ?_)
      clear hK K hHeld hS hq
      have hS := hS2
      clear hS2
      try simp only [Act.put, List.setIfInBounds_toArray, List.set_cons_zero, List.set_cons_succ]
      change wpAnyH _ _ _ _ _ _ #[true, true, true, true, true, true, true, true, true, true, true, true, true, true, true, false, false, false, false, true, false] _ _
      refine wpAnyH_ready (rs := [15]) (by kernel_rfl) (by simp) ?_
      refine (AllReadyH.cons (by (try simp only [List.getElem?_toArray, List.getElem?_cons_succ, List.getElem?_cons_zero]); rfl) (fun K hK => ?_) AllReadyH.nil)
      go_simp
      refine (HN2.out _).mono ?_
      rintro e yR1x56 ⟨ka, kc, rfl, hz0, hq⟩
      have HZ2 := Lib.hid hz0
      clear hz0
      try (go_wp2_with fail)
      have HA6 := Lib.hid (Lst.q HA6.out hq)
      have HE6 := Lib.hid (Lst.q HE6.out hq)
      have HBX := Lib.hid (Bk.q HBX.out hq)
      have HZ1 := Lib.hid (Lst.q HZ1.out hq)
      have HB1 := Lib.hid (Bk.q HB1.out hq)
      have HI7 := Lib.hid (Own.q HI7.out hq)
      have hS2 := Q.trans hS hq
      refine hK.out _ _ (by exact hS2) (fun hHeld => ?_)
      clear hK K hHeld hS hq
      have hS := hS2
      clear hS2
      try simp only [Act.put, List.setIfInBounds_toArray, List.set_cons_zero, List.set_cons_succ]
      change wpAnyH _ _ _ _ _ _ #[true, true, true, true, true, true, true, true, true, true, true, true, true, true, true, true, false, false, false, true, false] _ _
      refine wpAnyH_ready (rs := [16]) (by kernel_rfl) (by simp) ?_
      refine (AllReadyH.cons (by (try simp only [List.getElem?_toArray, List.getElem?_cons_succ, List.getElem?_cons_zero]); rfl) (fun K hK => ?_) AllReadyH.nil)
      go_simp
      have hq := (Q.refl yR1x56).alloc (.cells #[.slice y1' S y2', .slice ka q1 kc] 22)
      have HB2 := Lib.hid (Bk.new yR1x56 22 [.slice y1' S y2', .slice ka q1 kc])
      have HW_bC := Lib.hid (Q.le hS)
      have HN_bX_bC := Lib.hid (Nat.ne_of_lt HBX.out.lt)
      have HN_bC_bX := Lib.hid (Nat.ne_of_gt HBX.out.lt)
      have HN_bA_bC := Lib.hid (Nat.ne_of_lt HB1.out.lt)
      have HN_bC_bA := Lib.hid (Nat.ne_of_gt HB1.out.lt)
      have HA6 := Lib.hid (Lst.q HA6.out hq)
      have HE6 := Lib.hid (Lst.q HE6.out hq)
      have HBX := Lib.hid (Bk.q HBX.out hq)
      have HZ1 := Lib.hid (Lst.q HZ1.out hq)
      have HB1 := Lib.hid (Bk.q HB1.out hq)
      have HI7 := Lib.hid (Own.q HI7.out hq)
      have HZ2 := Lib.hid (Lst.q HZ2.out hq)
      have hS2 := Q.trans hS hq
      refine hK.out _ _ (by exact hS2) (fun hHeld => ?_)
      clear hK K hHeld hS hq
      have hS := hS2
      clear hS2
      generalize yR1x56.alloc (.cells #[.slice y1' S y2', .slice ka q1 kc] 22) = yR1x57 at *
      generalize yR1x56.heap.size = bC at *
      try simp only [Act.put, List.setIfInBounds_toArray, List.set_cons_zero, List.set_cons_succ]
      change wpAnyH _ _ _ _ _ _ #[true, true, true, true, true, true, true, true, true, true, true, true, true, true, true, true, true, false, false, true, false] _ _
      refine wpAnyH_ready (rs := [17]) (by kernel_rfl) (by simp) ?_
      refine (AllReadyH.cons (by (try simp only [List.getElem?_toArray, List.getElem?_cons_succ, List.getElem?_cons_zero]); rfl) (fun K hK => ?_) AllReadyH.nil)
      go_simp
      refine (HC2.out _ _ _ _ _ _ HB2.out HE6.out HZ2.out).mono ?_
      rintro e yR1x58 ⟨fa, fc, rfl, hz0, hq⟩
      have HF7 := Lib.hid (hz0.mono hS.le)
      clear hz0
      try (go_wp2_with fail)
      have HA6 := Lib.hid (Lst.q HA6.out hq)
      have HE6 := Lib.hid (Lst.q HE6.out hq)
      have HBX := Lib.hid (Bk.q HBX.out hq)
      have HZ1 := Lib.hid (Lst.q HZ1.out hq)
      have HB1 := Lib.hid (Bk.q HB1.out hq)
      have HI7 := Lib.hid (Own.q HI7.out hq)
      have HZ2 := Lib.hid (Lst.q HZ2.out hq)
      have HB2 := Lib.hid (Bk.q HB2.out hq)
      have hS2 := Q.trans hS hq
      refine hK.out _ _ (by exact hS2) (fun hHeld => ?_)
      clear hK K hHeld hS hq
      have hS := hS2
      clear hS2
      try simp only [Act.put, List.setIfInBounds_toArray, List.set_cons_zero, List.set_cons_succ]
      change wpAnyH _ _ _ _ _ _ #[true, true, true, true, true, true, true, true, true, true, true, true, true, true, true, true, true, true, false, true, false] _ _
      refine wpAnyH_take (i := 18) (v := ?vR1x59) (by (try simp only [List.getElem?_toArray, List.getElem?_cons_succ, List.getElem?_cons_zero]); rfl) (by kernel_rfl) (by kernel_rfl) (by kernel_rfl) (by exact fun _ _ _ h => h) (Or.inl ⟨by first | kernel_rfl | rfl, ?hyR1x59⟩) (by exact hS) ?rsR1x59
      case hyR1x59 => (intro uz hSw; (try dsimp only at hSw); go_simp; try with_reducible rfl)
      try simp only [Act.put, List.setIfInBounds_toArray, List.set_cons_zero, List.set_cons_succ]
      change wpAnyH _ _ _ _ _ _ #[true, true, true, true, true, true, true, true, true, true, true, true, true, true, true, true, true, true, true, true, false] _ _
      refine wpAnyH_ready (rs := [20]) (by kernel_rfl) (by simp) ?_
      refine (AllReadyH.cons (by (try simp only [List.getElem?_toArray, List.getElem?_cons_succ, List.getElem?_cons_zero]); rfl) (fun K hK => ?_) AllReadyH.nil)
      have b0 := HBX.out.cell 0 rfl
      have f0 := HBX.out.free 0
      have b1 := HBX.out.cell 1 rfl
      have f1 := HBX.out.free 1
      have b2 := HBX.out.cell 2 rfl
      have f2 := HBX.out.free 2
      have b3 := HBX.out.cell 3 rfl
      have f3 := HBX.out.free 3
      go_simp
      have hS2 := (Q.setCell (Q.setCell (Q.setCell (Q.setCell hS (ad := ⟨bX, 0, none⟩) HW_bX.out (.bool cs)) (ad := ⟨bX, 1, none⟩) HW_bX.out (.slice ia nI ic)) (ad := ⟨bX, 2, none⟩) HW_bX.out (.bool false)) (ad := ⟨bX, 3, none⟩) HW_bX.out (.slice fa nF fc))
      have HE := Lib.hid ((((HBX.out.set 0 (.bool cs)).set 1 (.slice ia nI ic)).set 2 (.bool false)).set 3 (.slice fa nF fc))
      replace HI7 := Lib.hid (Own_past4 HI7.out HBX.out (by decide) (.bool cs) (.slice ia nI ic) (.bool false) (.slice fa nF fc))
      replace HF7 := Lib.hid (Own_past4 HF7.out HBX.out (by decide) (.bool cs) (.slice ia nI ic) (.bool false) (.slice fa nF fc))
      refine hK.out _ _ (by exact hS2) (fun hHeld => ?_)
      clear hK K hHeld hS
      have hS := hS2
      clear hS2 b0 f0 b1 f1 b2 f2 b3 f3
      generalize ((((yR1x58.setCell ⟨bX, 0, none⟩ (.bool cs)).setCell ⟨bX, 1, none⟩ (.slice ia nI ic)).setCell ⟨bX, 2, none⟩ (.bool false)).setCell ⟨bX, 3, none⟩ (.slice fa nF fc)) = yR1x60 at *
      try simp only [Act.put, List.setIfInBounds_toArray, List.set_cons_zero, List.set_cons_succ]
      change wpAnyH _ _ _ _ _ _ #[true, true, true, true, true, true, true, true, true, true, true, true, true, true, true, true, true, true, true, true, true] _ _
      refine wpAnyH_done (by kernel_rfl) ?_ _
      go_wp2_with fail
      go_meet
      exact ⟨bX, ia, ic, fa, fc, rfl, HW_bX.out, HE.out, HI7.out, HF7.out, hS⟩
  case rest =>
    obtain ⟨b, ia, ic, fa, fc, rfl, hbu, hbk, hi7, hf7, hq⟩ := hcut
    obtain ⟨u7, hu7⟩ : ∃ x, x = wc := ⟨_, rfl⟩
    subst hu7
    have HBU := Lib.hid hbu
    have HU7 := Lib.hid hq.le
    have HD7 := Lib.hid (HD6.out.q hq)
    have HQ7 := Lib.hid (HQ6.out.trans hq)
    have HWX := Lib.hid (Nat.le_trans HQ6.out.le hbu)
    have HNX := Lib.hid (show b ≠ w.heap.size + 1 by have := HS6.out; omega)
    have y3 := hbk.cell 3 rfl
    have y2 := hbk.cell 2 rfl
    have g2 := hbk.free 2
    have HK7 := Lib.hid hbk
    have HI7 := Lib.hid hi7
    have HF7 := Lib.hid hf7
    clear hbu hbk hi7 hf7 hq HD6 HB6 HA6 HE6
    by_cases hf0 : 0 < nF
    · have e0 : (nF : Int) > 0 := by omega
      have e1 : ((((nI + (sep true).length + nF : Nat)) : Int) == 0) = false := by rw [beq_eq_false_iff_ne]; omega
      have HK8 := Lib.hid (HK7.out.set 2 (.bool true))
      have HI8 := Lib.hid (Own_past HI7.out HK7.out (by decide) 2 (.bool true))
      have HF8 := Lib.hid (Own_past HF7.out HK7.out (by decide) 2 (.bool true))
      have HD8 := Lib.hid (HD7.out.past (g := b) (i := 2) HNX.out (.bool true))
      have HQ8 := Lib.hid (Q.setCell HQ7.out (ad := ⟨b, 2, none⟩) HWX.out (.bool true))
      obtain ⟨u8, hu8⟩ : ∃ u, u = u7.setCell ⟨b, 2, none⟩ (.bool true) := ⟨_, rfl⟩
      have HU8 := Lib.hid (show u6.heap.size ≤ u8.heap.size by rw [hu8]; simpa using HU7.out)
      rw [← hu8] at HK8 HI8 HF8 HD8 HQ8
      clear HK7 HI7 HF7 HD7
      go_upto_region 9 with fail
      rw [← hu8]
      clear hu8 y2 y3 g2 HQ7
      have y0 := HK8.out.cell 0 rfl
      have g0 := HK8.out.free 0
      have y1 := HK8.out.cell 1 rfl
      have g1 := HK8.out.free 1
      have y2 := HK8.out.cell 2 rfl
      have g2 := HK8.out.free 2
      have y3 := HK8.out.cell 3 rfl
      have g3 := HK8.out.free 3
      go_wp2_with fail
      refine (HLN.out _ _ _ _ _ _).mono ?_
      rintro e u9 ⟨rfl, hq⟩
      have HK9 := Lib.hid (HK8.out.q hq)
      have HI9 := Lib.hid (HI8.out.q hq)
      have HF9 := Lib.hid (HF8.out.q hq)
      have HD9 := Lib.hid (HD8.out.q hq)
      have HQ9 := Lib.hid (HQ8.out.trans hq)
      have HU9 := Lib.hid (Nat.le_trans HU8.out hq.le)
      clear hq y0 y1 y2 y3 g0 g1 g2 g3 HK8 HI8 HF8 HD8 HQ8
      have y0 := HK9.out.cell 0 rfl
      have g0 := HK9.out.free 0
      have y1 := HK9.out.cell 1 rfl
      have g1 := HK9.out.free 1
      have y2 := HK9.out.cell 2 rfl
      have g2 := HK9.out.free 2
      have y3 := HK9.out.cell 3 rfl
      have g3 := HK9.out.free 3
      have b0 := HD9.out.cell 0 rfl
      have f0 := HD9.out.free 0
      have b1 := HD9.out.cell 1 rfl
      have f1 := HD9.out.free 1
      have b2 := HD9.out.cell 2 rfl
      have f2 := HD9.out.free 2
      have b3 := HD9.out.cell 3 rfl
      have f3 := HD9.out.free 3
      go_wp2_with fail
      have hz1 := Own_past4 HI9.out HD9.out (by decide) (.bool cs) (.slice ia nI ic) (.bool true) (.slice fa nF fc)
      have hz2 := Own_past4 HF9.out HD9.out (by decide) (.bool cs) (.slice ia nI ic) (.bool true) (.slice fa nF fc)
      replace hz1 := hz1.mono HS6.out
      replace hz2 := hz2.mono HS6.out
      refine ret_d2 rfl rfl rfl rfl ((((HD9.out.set 0 _).set 1 _).set 2 _).set 3 _) rfl ⟨_, rfl, ?_, Q.setCell (Q.setCell (Q.setCell (Q.setCell HQ9.out HWD.out _) HWD.out _) HWD.out _) HWD.out _⟩
      have hi1 : I1 = I0 := HI1.out.trans (if_neg (by first | assumption | omega))
      have hv1 : sv = true := HSV.out.trans (decide_eq_true hf0)
      subst hi1
      subst hv1
      exact ⟨ia, ic, fa, fc, by rw [HL.out.2]; rw [HL.out.1]; rfl, by rw [HL.out.1]; exact hz1, by rw [HL.out.2]; exact hz2⟩
    · have hf1 : nF = 0 := by omega
      subst hf1
      by_cases hi0 : nI = 0
      · subst hi0
        have HK8 := Lib.hid (HK7.out.set 2 (.bool false))
        have HI8 := Lib.hid (Own_past HI7.out HK7.out (by decide) 2 (.bool false))
        have HF8 := Lib.hid (Own_past HF7.out HK7.out (by decide) 2 (.bool false))
        have HD8 := Lib.hid (HD7.out.past (g := b) (i := 2) HNX.out (.bool false))
        have HQ8 := Lib.hid (Q.setCell HQ7.out (ad := ⟨b, 2, none⟩) HWX.out (.bool false))
        obtain ⟨u8, hu8⟩ : ∃ u, u = u7.setCell ⟨b, 2, none⟩ (.bool false) := ⟨_, rfl⟩
        have HU8 := Lib.hid (show u6.heap.size ≤ u8.heap.size by rw [hu8]; simpa using HU7.out)
        rw [← hu8] at HK8 HI8 HF8 HD8 HQ8
        clear HK7 HI7 HF7 HD7
        go_upto_region 9 with fail
        rw [← hu8]
        clear hu8 y2 y3 g2 HQ7
        have y0 := HK8.out.cell 0 rfl
        have g0 := HK8.out.free 0
        have y1 := HK8.out.cell 1 rfl
        have g1 := HK8.out.free 1
        have y2 := HK8.out.cell 2 rfl
        have g2 := HK8.out.free 2
        have y3 := HK8.out.cell 3 rfl
        have g3 := HK8.out.free 3
        go_wp2_with fail
        refine (HLN.out _ _ _ _ _ _).mono ?_
        rintro e u9 ⟨rfl, hq⟩
        have HK9 := Lib.hid (HK8.out.q hq)
        have HI9 := Lib.hid (HI8.out.q hq)
        have HF9 := Lib.hid (HF8.out.q hq)
        have HD9 := Lib.hid (HD8.out.q hq)
        have HQ9 := Lib.hid (HQ8.out.trans hq)
        have HU9 := Lib.hid (Nat.le_trans HU8.out hq.le)
        clear hq y0 y1 y2 y3 g0 g1 g2 g3 HK8 HI8 HF8 HD8 HQ8
        go_wp2_with fail
        refine (HN3.out _).mono ?_
        rintro e v9 ⟨na', nc', rfl, hno, hq⟩
        have hk := HK9.out.q hq
        have y1 := hk.cell 1 rfl
        have g1 := hk.free 1
        have HK10 := Lib.hid (hk.set 1 (.slice na' 1 nc'))
        have HI10 := Lib.hid (Own_past (hno.mono (show u6.heap.size ≤ u9.heap.size from HU9.out)) hk (by decide) 1 (.slice na' 1 nc'))
        have HF10 := Lib.hid (Own_past (HF9.out.q hq) hk (by decide) 1 (.slice na' 1 nc'))
        have HD10 := Lib.hid ((HD9.out.q hq).past (g := b) (i := 1) HNX.out (.slice na' 1 nc'))
        have HQ10 := Lib.hid (Q.setCell (HQ9.out.trans hq) (ad := ⟨b, 1, none⟩) HWX.out (.slice na' 1 nc'))
        obtain ⟨u10, hu10⟩ : ∃ u, u = v9.setCell ⟨b, 1, none⟩ (.slice na' 1 nc') := ⟨_, rfl⟩
        rw [← hu10] at HK10 HI10 HF10 HD10 HQ10
        clear HK9 HI9 HF9 HD9 HQ9 hk hno hq
        go_upto_region 11 with fail
        rw [← hu10]
        clear hu10 y1 g1
        have y0 := HK10.out.cell 0 rfl
        have g0 := HK10.out.free 0
        have y1 := HK10.out.cell 1 rfl
        have g1 := HK10.out.free 1
        have y2 := HK10.out.cell 2 rfl
        have g2 := HK10.out.free 2
        have y3 := HK10.out.cell 3 rfl
        have g3 := HK10.out.free 3
        have b0 := HD10.out.cell 0 rfl
        have f0 := HD10.out.free 0
        have b1 := HD10.out.cell 1 rfl
        have f1 := HD10.out.free 1
        have b2 := HD10.out.cell 2 rfl
        have f2 := HD10.out.free 2
        have b3 := HD10.out.cell 3 rfl
        have f3 := HD10.out.free 3
        go_wp2_with fail
        have hz1 := Own_past4 HI10.out HD10.out (by decide) (.bool cs) (.slice na' 1 nc') (.bool false) (.slice fa 0 fc)
        have hz2 := Own_past4 HF10.out HD10.out (by decide) (.bool cs) (.slice na' 1 nc') (.bool false) (.slice fa 0 fc)
        replace hz1 := hz1.mono HS6.out
        replace hz2 := hz2.mono HS6.out
        refine ret_d2 rfl rfl rfl rfl ((((HD10.out.set 0 _).set 1 _).set 2 _).set 3 _) rfl ⟨_, rfl, ?_, Q.setCell (Q.setCell (Q.setCell (Q.setCell HQ10.out HWD.out _) HWD.out _) HWD.out _) HWD.out _⟩
        have hi1 : I1 = [0] := HI1.out.trans (if_pos (by first | trivial | rfl | omega))
        have hv1 : sv = false := HSV.out.trans (by simp)
        subst hi1
        subst hv1
        exact ⟨na', nc', fa, fc, by rw [HL.out.2]; rfl, by exact hz1, by rw [HL.out.2]; exact hz2⟩
      · have e1 : ((((nI + (sep false).length + 0 : Nat)) : Int) == 0) = false := by rw [beq_eq_false_iff_ne]; omega
        have HK8 := Lib.hid (HK7.out.set 2 (.bool false))
        have HI8 := Lib.hid (Own_past HI7.out HK7.out (by decide) 2 (.bool false))
        have HF8 := Lib.hid (Own_past HF7.out HK7.out (by decide) 2 (.bool false))
        have HD8 := Lib.hid (HD7.out.past (g := b) (i := 2) HNX.out (.bool false))
        have HQ8 := Lib.hid (Q.setCell HQ7.out (ad := ⟨b, 2, none⟩) HWX.out (.bool false))
        obtain ⟨u8, hu8⟩ : ∃ u, u = u7.setCell ⟨b, 2, none⟩ (.bool false) := ⟨_, rfl⟩
        have HU8 := Lib.hid (show u6.heap.size ≤ u8.heap.size by rw [hu8]; simpa using HU7.out)
        rw [← hu8] at HK8 HI8 HF8 HD8 HQ8
        clear HK7 HI7 HF7 HD7
        go_upto_region 9 with fail
        rw [← hu8]
        clear hu8 y2 y3 g2 HQ7
        have y0 := HK8.out.cell 0 rfl
        have g0 := HK8.out.free 0
        have y1 := HK8.out.cell 1 rfl
        have g1 := HK8.out.free 1
        have y2 := HK8.out.cell 2 rfl
        have g2 := HK8.out.free 2
        have y3 := HK8.out.cell 3 rfl
        have g3 := HK8.out.free 3
        go_wp2_with fail
        refine (HLN.out _ _ _ _ _ _).mono ?_
        rintro e u9 ⟨rfl, hq⟩
        have HK9 := Lib.hid (HK8.out.q hq)
        have HI9 := Lib.hid (HI8.out.q hq)
        have HF9 := Lib.hid (HF8.out.q hq)
        have HD9 := Lib.hid (HD8.out.q hq)
        have HQ9 := Lib.hid (HQ8.out.trans hq)
        have HU9 := Lib.hid (Nat.le_trans HU8.out hq.le)
        clear hq y0 y1 y2 y3 g0 g1 g2 g3 HK8 HI8 HF8 HD8 HQ8
        have y0 := HK9.out.cell 0 rfl
        have g0 := HK9.out.free 0
        have y1 := HK9.out.cell 1 rfl
        have g1 := HK9.out.free 1
        have y2 := HK9.out.cell 2 rfl
        have g2 := HK9.out.free 2
        have y3 := HK9.out.cell 3 rfl
        have g3 := HK9.out.free 3
        have b0 := HD9.out.cell 0 rfl
        have f0 := HD9.out.free 0
        have b1 := HD9.out.cell 1 rfl
        have f1 := HD9.out.free 1
        have b2 := HD9.out.cell 2 rfl
        have f2 := HD9.out.free 2
        have b3 := HD9.out.cell 3 rfl
        have f3 := HD9.out.free 3
        go_wp2_with fail
        have hz1 := Own_past4 HI9.out HD9.out (by decide) (.bool cs) (.slice ia nI ic) (.bool false) (.slice fa 0 fc)
        have hz2 := Own_past4 HF9.out HD9.out (by decide) (.bool cs) (.slice ia nI ic) (.bool false) (.slice fa 0 fc)
        replace hz1 := hz1.mono HS6.out
        replace hz2 := hz2.mono HS6.out
        refine ret_d2 rfl rfl rfl rfl ((((HD9.out.set 0 _).set 1 _).set 2 _).set 3 _) rfl ⟨_, rfl, ?_, Q.setCell (Q.setCell (Q.setCell (Q.setCell HQ9.out HWD.out _) HWD.out _) HWD.out _) HWD.out _⟩
        have hi1 : I1 = I0 := HI1.out.trans (if_neg (by first | assumption | omega))
        have hv1 : sv = false := HSV.out.trans (by simp)
        subst hi1
        subst hv1
        exact ⟨ia, ic, fa, fc, by rw [HL.out.2]; rw [HL.out.1]; rfl, by rw [HL.out.1]; exact hz1, by rw [HL.out.2]; exact hz2⟩

end Tp
end Go.Proofs.Ytagpofhencpliaa
