/- The document's own config: the three texts, and the rules. (and more) -/
import Derived.Test.YtagpofhencpliaaGreatDoorR00
import Derived.Test.YtagpofhencpliaaGreatDoorR04
import Derived.Test.YtagpofhencpliaaGreatDoorR22
import Derived.Test.YtagpofhencpliaaGreatDoorR21
import Derived.Test.YtagpofhencpliaaGreatDoorR28
import Derived.Test.YtagpofhencpliaaGreatDoorR14
import Derived.Test.YtagpofhencpliaaGreatDoorR08
import Derived.Test.YtagpofhencpliaaGreatDoorR02
import Derived.Test.YtagpofhencpliaaGreatDoorR10
import Derived.Test.YtagpofhencpliaaGreatDoorR13
import Derived.Test.YtagpofhencpliaaGreatDoorR25
import Derived.Test.YtagpofhencpliaaGreatDoorR03
import Derived.Test.YtagpofhencpliaaGreatDoorRows
import Derived.Deep.Cut
import Derived.Deep.RegionHeld
import Derived.Deep.QuietTactic
import Derived.BigQuiet
import Derived.Laws.CopyOwn
import Derived.Laws.Tables
set_option linter.unusedVariables false
set_option linter.unusedSimpArgs false
namespace Go.Proofs.YtagpofhencpliaaGreatDoor
open Go.RowKit
namespace Kr
open Er (dv LF LF.of LF.nil LF.mono LF.q LF.put LF.shape LF.lst)
def Fr (B : Nat) (p : D3.E) : Prop := ∀ a n c, p.2.1 = .slice (some a) n c → n ≠ 0 → B ≤ a.block
def GivesF (B : Nat) (w' : World) (e : Ending) (g : Nat → Bool) (L : Nat → List Int) (s : Nat → Nat) (i0 i1 i2 i3 i4 i5 i6 : Int) : Prop :=
  ∃ p0 p1 p2, Tri w' (g 0) (L 0) (s 0) p0 ∧ Tri w' (g 1) (L 1) (s 1) p1 ∧ Tri w' (g 2) (L 2) (s 2) p2 ∧ Fr B p0 ∧ Fr B p1 ∧ Fr B p2 ∧ e = .returned (.tuple #[rul p0.1 p1.1 p2.1 p0.1 p0.2.1 p1.2.1 p2.2.1 p0.2.2 p1.2.2 p2.2.2 i0 i1 i2 i3 i4 i5 i6, .string ByteArray.empty, .int .i64 0])
set_option maxRecDepth 100000 in
set_option maxHeartbeats 30000000 in
theorem new_run (t0 t1 t2 : ByteArray) (i0 i1 i2 i3 i4 i5 i6 : Int) (w : World) (g : Nat → Bool) (L : Nat → List Int) (s : Nat → Nat) (r : Nat → Int)
    (h0 : 1 ≤ i0 ∧ i0 ≤ 64) (h1 : 0 ≤ i1 ∧ i1 ≤ 64) (h2 : 0 ≤ i2 ∧ i2 ≤ i1) (h3 : 0 ≤ i3 ∧ i3 ≤ i0) (h4 : 0 ≤ i4 ∧ i4 ≤ i2) (h5 : 0 ≤ i5 ∧ i5 ≤ 6) (h6 : 1 ≤ i6 ∧ i6 ≤ 1024)
    (hm : ∀ i, i < 3 → (tx t0 t1 t2 i).size ≤ 1000000) (hp : ∀ i, i < 3 → Dm.prs (tx t0 t1 t2 i).data.toList = (g i, L i, s i, r i)) (hl : ∀ i, i < 3 → (L i).length < 1900) (hd : ∀ i, i < 3 → Dm.okD (L i)) (hs : ∀ i, i < 3 → s i ≤ 1000) (hr : ∀ i, i < 3 → 0 ≤ r i ∧ r i ≤ 100) :
    Calls Tryz.prog 10 #[.agg #[.string t0, .string t1, .string t2, .int .i64 i0, .int .i64 i1, .int .i64 i2, .int .i64 i3, .int .i64 i4, .int .i64 i5, .int .i64 i6]] w fun e w' => ((∃ k, k < 3 ∧ (∀ j, j < k → bad i0 i2 (r j) (L j) (s j) = 0) ∧ bad i0 i2 (r k) (L k) (s k) ≠ 0 ∧ e = .returned (.tuple #[rul0, .string (wh k), .int .i64 (bad i0 i2 (r k) (L k) (s k))])) ∨
      ((∀ j, j < 3 → bad i0 i2 (r j) (L j) (s j) = 0) ∧ ((Dm.cmpD (Dm.cg (g 2) (Dm.num (L 2))) (Dm.st (Dm.num (L 2)) (s 2)).1 (Dm.st (Dm.num (L 2)) (s 2)).2 false 0 0 ≤ 0 ∧ e = .returned (.tuple #[rul0, .string (wh 2), .int .i64 3])) ∨
        (0 < Dm.cmpD (Dm.cg (g 2) (Dm.num (L 2))) (Dm.st (Dm.num (L 2)) (s 2)).1 (Dm.st (Dm.num (L 2)) (s 2)).2 false 0 0 ∧ 0 < Dm.cmpD (Dm.cg (g 0) (Dm.num (L 0))) (Dm.st (Dm.num (L 0)) (s 0)).1 (Dm.st (Dm.num (L 0)) (s 0)).2 (Dm.cg (g 1) (Dm.num (L 1))) (Dm.st (Dm.num (L 1)) (s 1)).1 (Dm.st (Dm.num (L 1)) (s 1)).2 ∧ e = .returned (.tuple #[rul0, .string (wh 1), .int .i64 3])) ∨
        (0 < Dm.cmpD (Dm.cg (g 2) (Dm.num (L 2))) (Dm.st (Dm.num (L 2)) (s 2)).1 (Dm.st (Dm.num (L 2)) (s 2)).2 false 0 0 ∧ ¬ 0 < Dm.cmpD (Dm.cg (g 0) (Dm.num (L 0))) (Dm.st (Dm.num (L 0)) (s 0)).1 (Dm.st (Dm.num (L 0)) (s 0)).2 (Dm.cg (g 1) (Dm.num (L 1))) (Dm.st (Dm.num (L 1)) (s 1)).1 (Dm.st (Dm.num (L 1)) (s 1)).2 ∧ GivesF (w.heap.size + 2) w' e g L s i0 i1 i2 i3 i4 i5 i6)))) ∧ Q w w' := by
  have HPA := Lib.hid (fun i (hi : i < 3) u => Er.parse_any (tx t0 t1 t2 i) u (hm i hi))
  have HPR := Lib.hid hp
  have HLL := Lib.hid hl
  have HDD := Lib.hid hd
  have HSS := Lib.hid hs
  have HRR := Lib.hid hr
  clear hm hp hl hd hs hr
  have HO0 := Lib.hid (fun u => out_any i0 1 (64) u)
  rw [show (!(decide (1 ≤ i0) && decide (i0 ≤ 64))) = false by rw [decide_eq_true h0.1, decide_eq_true h0.2]; rfl] at HO0
  have HO1 := Lib.hid (fun u => out_any i1 0 (64) u)
  rw [show (!(decide (0 ≤ i1) && decide (i1 ≤ 64))) = false by rw [decide_eq_true h1.1, decide_eq_true h1.2]; rfl] at HO1
  have HO2 := Lib.hid (fun u => out_any i2 0 (i1) u)
  rw [show (!(decide (0 ≤ i2) && decide (i2 ≤ i1))) = false by rw [decide_eq_true h2.1, decide_eq_true h2.2]; rfl] at HO2
  have HO3 := Lib.hid (fun u => out_any i3 0 (i0) u)
  rw [show (!(decide (0 ≤ i3) && decide (i3 ≤ i0))) = false by rw [decide_eq_true h3.1, decide_eq_true h3.2]; rfl] at HO3
  have HO4 := Lib.hid (fun u => out_any i4 0 (i2) u)
  rw [show (!(decide (0 ≤ i4) && decide (i4 ≤ i2))) = false by rw [decide_eq_true h4.1, decide_eq_true h4.2]; rfl] at HO4
  have HO5 := Lib.hid (fun u => out_any i5 0 (6) u)
  rw [show (!(decide (0 ≤ i5) && decide (i5 ≤ 6))) = false by rw [decide_eq_true h5.1, decide_eq_true h5.2]; rfl] at HO5
  have HO6 := Lib.hid (fun u => out_any i6 1 (1024) u)
  rw [show (!(decide (1 ≤ i6) && decide (i6 ≤ 1024))) = false by rw [decide_eq_true h6.1, decide_eq_true h6.2]; rfl] at HO6
  clear h0 h1 h2 h3 h4 h5 h6
  obtain ⟨y1, hy1⟩ : ∃ y, y = w.alloc (.cells #[.string t0, .string t1, .string t2, .int .i64 i0, .int .i64 i1, .int .i64 i2, .int .i64 i3, .int .i64 i4, .int .i64 i5, .int .i64 i6] 25) := ⟨_, rfl⟩
  have hQ1 : Q w y1 := by rw [hy1]; exact (Q.refl w).alloc _
  have hb1 : Bk y1 w.heap.size 25 [.string t0, .string t1, .string t2, .int .i64 i0, .int .i64 i1, .int .i64 i2, .int .i64 i3, .int .i64 i4, .int .i64 i5, .int .i64 i6] := by rw [hy1]; exact Bk.new _ _ _
  have hs1 : y1.heap.size = w.heap.size + 1 := by rw [hy1]; simp
  obtain ⟨z, hz⟩ : ∃ y, y = y1.alloc (.cells #[.bool false, .slice none 0 0, .int .i64 0, .bool false, .slice none 0 0, .int .i64 0, .bool false, .slice none 0 0, .int .i64 0, .bool false, .int .i64 0, .int .i64 0, .int .i64 0, .int .i64 0, .int .i64 0, .int .i64 0, .int .i64 0] 48) := ⟨_, rfl⟩
  have hq2 : Q y1 z := by rw [hz]; exact (Q.refl y1).alloc _
  have hb2 : Bk z (w.heap.size + 1) 48 [.bool false, .slice none 0 0, .int .i64 0, .bool false, .slice none 0 0, .int .i64 0, .bool false, .slice none 0 0, .int .i64 0, .bool false, .int .i64 0, .int .i64 0, .int .i64 0, .int .i64 0, .int .i64 0, .int .i64 0, .int .i64 0] := by rw [hz, ← hs1]; exact Bk.new _ _ _
  have hc := hb1.q hq2
  have HZS := Lib.hid (show z.heap.size = w.heap.size + 1 + 1 by rw [hz]; simp; omega)
  have k3 := hc.cell 3 rfl
  have k4 := hc.cell 4 rfl
  have k5 := hc.cell 5 rfl
  have k6 := hc.cell 6 rfl
  have k7 := hc.cell 7 rfl
  have k8 := hc.cell 8 rfl
  have k9 := hc.cell 9 rfl
  obtain ⟨W, hW⟩ : ∃ y, y = z.alloc (.cells #[.int .i64 i0, .int .i64 i1, .int .i64 i2, .int .i64 i3, .int .i64 i4, .int .i64 i5, .int .i64 i6] 23) := ⟨_, rfl⟩
  have hqW : Q z W := by rw [hW]; exact (Q.refl z).alloc _
  have hn : Bk W (w.heap.size + 1 + 1) 23 [.int .i64 i0, .int .i64 i1, .int .i64 i2, .int .i64 i3, .int .i64 i4, .int .i64 i5, .int .i64 i6] := by rw [hW, ← HZS.out]; exact Bk.new _ _ _
  have HQ := Lib.hid (show Q w W from (hQ1.trans hq2).trans hqW)
  have HC := Lib.hid (hc.q hqW)
  have HB := Lib.hid (hb2.q hqW)
  have HN := Lib.hid hn
  go_enter Tryz.func10, Tryz.ntmps10
  go_upto_region 1 with fail
  first | rw [← hy1, ← hz] | (rw [hy1] at hz; rw [← hz])
  clear hQ1 hb1 hy1 hs1 hq2 hb2 hz
  go_upto_region 2 with fail
  rw [← hW]
  try rw [HZS.out]
  clear hqW hW hc k3 k4 k5 k6 k7 k8 k9
  have n0 := hn.cell 0 rfl
  have n1 := hn.cell 1 rfl
  have n2 := hn.cell 2 rfl
  have n3 := hn.cell 3 rfl
  have n4 := hn.cell 4 rfl
  have n5 := hn.cell 5 rfl
  have n6 := hn.cell 6 rfl
  clear hn
  go_wp2_with fail
  refine (HO0.out _).mono ?_
  rintro e u ⟨rfl, rfl⟩
  go_wp2_with fail
  refine (HO1.out _).mono ?_
  rintro e u ⟨rfl, rfl⟩
  go_wp2_with fail
  refine (HO2.out _).mono ?_
  rintro e u ⟨rfl, rfl⟩
  go_wp2_with fail
  refine (HO3.out _).mono ?_
  rintro e u ⟨rfl, rfl⟩
  go_wp2_with fail
  refine (HO4.out _).mono ?_
  rintro e u ⟨rfl, rfl⟩
  go_wp2_with fail
  refine (HO5.out _).mono ?_
  rintro e u ⟨rfl, rfl⟩
  go_wp2_with fail
  refine (HO6.out _).mono ?_
  rintro e u ⟨rfl, rfl⟩
  have hcc := HC.out
  have q0 := hcc.cell 0 rfl
  have q1 := hcc.cell 1 rfl
  have q2 := hcc.cell 2 rfl
  go_upto_region 18 with fail
  obtain ⟨V, hV⟩ : ∃ V, V = (W.alloc (.cells #[.string t0, .string t1, .string t2] 9)).alloc (.cells #[.string ⟨#[109, 105, 110]⟩, .string ⟨#[109, 97, 120]⟩, .string ⟨#[115, 116, 101, 112]⟩] 9) := ⟨_, rfl⟩
  rw [← hV]
  have hq3 : Q W V := by rw [hV]; exact ((Q.refl W).alloc _).alloc _
  have htx : Bk V W.heap.size 9 [.string t0, .string t1, .string t2] := by rw [hV]; exact (Bk.new _ _ _).q ((Q.refl _).alloc _)
  have hwh : Bk V (W.heap.size + 1) 9 [.string (wh 0), .string (wh 1), .string (wh 2)] := by rw [hV, show W.heap.size + 1 = (W.alloc (.cells #[.string t0, .string t1, .string t2] 9)).heap.size by simp]; exact Bk.new _ _ _
  have hlt1 := HN.out.lt
  obtain ⟨b3, hb3⟩ : ∃ b, b = W.heap.size := ⟨_, rfl⟩
  rw [← hb3] at htx hwh hlt1 ⊢
  have HTX := Lib.hid htx
  have HWH := Lib.hid hwh
  have HB3 := Lib.hid (show w.heap.size + 2 < b3 from hlt1)
  have HVS := Lib.hid hwh.lt
  replace HB := Lib.hid (HB.out.q hq3)
  replace HN := Lib.hid (HN.out.q hq3)
  replace HQ := Lib.hid (HQ.out.trans hq3)
  clear hV hq3 htx hwh hlt1 hb3 HC HZS hcc q0 q1 q2
  go_wp2_with fail
  go_loopw [8, 9] (fun u t wr => ∃ (i : Nat) (l : List D3.E), t = .int .i64 i ∧ i ≤ 3 ∧ D3.OwnE 28 wr V.heap.size u l ∧ l.length = i ∧ (∀ j, j < i → Apt V.heap.size wr u (g j) (L j) (s j) (l.getD j D3.z0)) ∧ (∀ j, j < i → bad i0 i2 (r j) (L j) (s j) = 0) ∧ Q V wr) (fun _ t _ => 3 - (intOf t).toNat)
  case atStart => exact ⟨0, [], rfl, by omega, D3.OwnE.nil _ _ _, rfl, fun j h => absurd h (by omega), fun j h => absurd h (by omega), Q.refl _⟩
  case round =>
    obtain ⟨i, l, rfl, hi3, hol, hll, htr, hbd, hq⟩ := hrel
    by_cases hlt : i < 3
    · have hlt2 : (i : Int) < 3 := by omega
      have hct := cell3 (f := tx t0 t1 t2) (HTX.out.q hq) hlt
      have HOL := Lib.hid hol
      have HLN := Lib.hid hll
      have HTR := Lib.hid htr
      have HBD := Lib.hid hbd
      have HQR := Lib.hid hq
      have HLT := Lib.hid hlt
      clear hol hll htr hbd hq hi3
      go_wp2_with fail
      clear hct
      refine (HPA.out i hlt _).mono ?_
      rintro e w1 ⟨u1, rfl, hu1, hq1⟩
      rw [HPR.out i hlt] at hu1 ⊢
      simp only at hu1 ⊢
      obtain ⟨a1, c1, rfl⟩ := hu1.shape
      unfold dv
      obtain ⟨n, hn⟩ : ∃ n, n = (L i).length := ⟨_, rfl⟩
      rw [← hn] at hu1 ⊢
      have HNL := Lib.hid hn
      obtain ⟨w2, hw2⟩ : ∃ x, x = w1.alloc (.cells #[.bool (g i), .slice a1 n c1, .int .i64 (s i)] 28) := ⟨_, rfl⟩
      have hqb : Q w1 w2 := by rw [hw2]; exact (Q.refl w1).alloc _
      have hdb : Bk w2 w1.heap.size 28 [.bool (g i), .slice a1 n c1, .int .i64 (s i)] := by rw [hw2]; exact Bk.new _ _ _
      obtain ⟨bd, hbd⟩ : ∃ b, b = w1.heap.size := ⟨_, rfl⟩
      rw [← hbd] at hdb
      have HDB := Lib.hid hdb
      have HU := Lib.hid (hu1.q hqb)
      have HQW := Lib.hid (hq1.trans hqb)
      replace HQR := Lib.hid (HQR.out.trans HQW.out)
      have HWH2 := Lib.hid (HWH.out.q HQR.out)
      have HN2 := Lib.hid (HN.out.q HQR.out)
      have HBO := Lib.hid (HB.out.q HQR.out)
      have HQ2 := Lib.hid (HQ.out.trans HQR.out)
      have HVL := Lib.hid HQR.out.le
      have hne : b3 + 1 ≠ w.heap.size + 1 := by have := HB3.out; omega
      clear hn hdb hqb hu1 hq1
      have HRI := Lib.hid (HRR.out i hlt)
      go_upto_region 23 with fail
      rw [← hw2, ← hbd]
      clear hw2 hbd
      obtain ⟨ri, hri⟩ : ∃ x, x = r i := ⟨_, rfl⟩
      rw [← hri] at HRI ⊢
      by_cases hrz : ri = 0
      · subst hrz
        have HRZ := Lib.hid hri.symm
        clear hri
        have hfn := fits_any i0 i1 i2 i3 i4 i5 i6 (g i) _ (s i) (L i) w2 HU.out (HLL.out i hlt) (HDD.out i hlt) (HSS.out i hlt)
        unfold dv at hfn
        obtain ⟨fb, hfb⟩ : ∃ fb, fb = Km.fit i0 i2 (Dm.num (L i)) (s i) := ⟨_, rfl⟩
        rw [← hfb] at hfn
        have hn2 := HN2.out
        have m0 := hn2.cell 0 rfl
        have m1 := hn2.cell 1 rfl
        have m2 := hn2.cell 2 rfl
        have m3 := hn2.cell 3 rfl
        have m4 := hn2.cell 4 rfl
        have m5 := hn2.cell 5 rfl
        have m6 := hn2.cell 6 rfl
        have hd2 := HDB.out
        have d0 := hd2.cell 0 rfl
        have d1 := hd2.cell 1 rfl
        have d2 := hd2.cell 2 rfl
        clear hn2 hd2
        have hnz : ((0 : Int) == 0) = true := rfl
        go_wp2_with fail
        clear m0 m1 m2 m3 m4 m5 m6 d0 d1 d2
        refine hfn.mono ?_
        rintro e w3 ⟨rfl, hq3⟩
        have HU3 := Lib.hid (HU.out.q hq3)
        have HDB3 := Lib.hid (HDB.out.q hq3)
        have HQR3 := Lib.hid (HQR.out.trans hq3)
        have HQW3 := Lib.hid (HQW.out.trans hq3)
        have HWH3 := Lib.hid (HWH2.out.q hq3)
        have HBO3 := Lib.hid (HBO.out.q hq3)
        have HQ3 := Lib.hid (HQ2.out.trans hq3)
        clear hq3 hfn
        cases fb
        · have HBE := Lib.hid (show bad i0 i2 (r i) (L i) (s i) = 4 by unfold bad; rw [HRZ.out, if_neg (fun h => h rfl), ← hfb]; rfl)
          have HBN := Lib.hid (show (4 : Int) ≠ 0 by decide)
          clear hfb
          replace HB := HBO3
          clear HBO HBO3
          go_upto_region 27 with fail
          refine wp_region_held_drew (S := fun u => Kr.SB w w3 (w.heap.size + 1) u) (by kernel_rfl) (by exact Kr.SB.of _ (HQ3.out)) (fun hHeld => ?_)
          have hS : Kr.SB w w3 (w.heap.size + 1) w3.drew := hHeld
          clear hHeld
          have hq : Q w3 w3.drew := (Q.refl _).drew
          have HB := Lib.hid (Bk.q HB.out hq)
          clear hq
          generalize w3.drew = yR2x0 at *
          change wpAnyH _ _ _ _ _ _ #[ff,ff,ff,ff,ff,ff,ff,ff] _ _
          refine wpAnyH_take (i := 0) (v := ?vR2x1) (by (try simp only [gA, gB, gC]); rfl) (by kernel_rfl) (by kernel_rfl) (by kernel_rfl) (by exact fun _ _ _ h => h) (Or.inl ⟨by first | kernel_rfl | rfl, ?hyR2x1⟩) (by exact hS) ?rsR2x1
          case hyR2x1 => (intro uz hSw; (try dsimp only at hSw); go_simp; try with_reducible rfl)
          try simp only [Act.put, sA, sB, sC]
          change wpAnyH _ _ _ _ _ _ #[tt,ff,ff,ff,ff,ff,ff,ff] _ _
          refine wpAnyH_take (i := 1) (v := ?vR2x2) (by (try simp only [gA, gB, gC]); rfl) (by kernel_rfl) (by kernel_rfl) (by kernel_rfl) (by exact fun _ _ _ h => h) (Or.inl ⟨by first | kernel_rfl | rfl, ?hyR2x2⟩) (by exact hS) ?rsR2x2
          case hyR2x2 => (intro uz hSw; (try dsimp only at hSw); go_simp; try with_reducible rfl)
          try simp only [Act.put, sA, sB, sC]
          change wpAnyH _ _ _ _ _ _ #[tt,tt,ff,ff,ff,ff,ff,ff] _ _
          refine wpAnyH_take (i := 2) (v := ?vR2x3) (by (try simp only [gA, gB, gC]); rfl) (by kernel_rfl) (by kernel_rfl) (by kernel_rfl) (by exact fun _ _ _ h => h) (Or.inl ⟨by first | kernel_rfl | rfl, ?hyR2x3⟩) (by exact hS) ?rsR2x3
          case hyR2x3 => (intro uz hSw; (try dsimp only at hSw); go_simp; try with_reducible rfl)
          try simp only [Act.put, sA, sB, sC]
          change wpAnyH _ _ _ _ _ _ #[tt,tt,tt,ff,ff,ff,ff,ff] _ _
          refine wpAnyH_take (i := 3) (v := ?vR2x4) (by (try simp only [gA, gB, gC]); rfl) (by kernel_rfl) (by kernel_rfl) (by kernel_rfl) (by exact fun _ _ _ h => h) (Or.inl ⟨by first | kernel_rfl | rfl, ?hyR2x4⟩) (by exact hS) ?rsR2x4
          case hyR2x4 => (intro uz hSw; (try dsimp only at hSw); go_simp; try with_reducible rfl)
          try simp only [Act.put, sA, sB, sC]
          change wpAnyH _ _ _ _ _ _ #[tt,tt,tt,tt,ff,ff,ff,ff] _ _
          refine wpAnyH_take (i := 4) (v := ?vR2x5) (by (try simp only [gA, gB, gC]); rfl) (by kernel_rfl) (by kernel_rfl) (by kernel_rfl) (by exact fun _ _ _ h => h) (Or.inl ⟨by first | kernel_rfl | rfl, ?hyR2x5⟩) (by exact hS) ?rsR2x5
          case hyR2x5 => (intro uz hSw; (try dsimp only at hSw); have kw := cell3 (f := wh) (hSw.bk HWH3.out (by omega)) HLT.out; go_simp; try with_reducible rfl)
          try simp only [Act.put, sA, sB, sC]
          change wpAnyH _ _ _ _ _ _ #[tt,tt,tt,tt,tt,ff,ff,ff] _ _
          refine wpAnyH_ready (rs := [5]) (by kernel_rfl) (by simp) ?_
          refine (AllReadyH.cons (by (try simp only [gA, gB, gC]); rfl) (fun K hK => ?_) AllReadyH.nil)
          rw [if_pos (by rfl)]
          refine wp_store_row 48 _ _ rfl (w.heap.size + 1) #[.bool false, .slice none 0 0, .int .i64 0, .bool false, .slice none 0 0, .int .i64 0, .bool false, .slice none 0 0, .int .i64 0, .bool false, .int .i64 0, .int .i64 0, .int .i64 0, .int .i64 0, .int .i64 0, .int .i64 0, .int .i64 0] (by rfl) (by rfl) 48 _ HB.out (by exact infoRu) rfl (Kr.all1 (by rfl)) ?_
          have hS2 := Kr.SB.row hS (Nat.le_succ _) #[.bool false, .slice none 0 0, .int .i64 0, .bool false, .slice none 0 0, .int .i64 0, .bool false, .slice none 0 0, .int .i64 0, .bool false, .int .i64 0, .int .i64 0, .int .i64 0, .int .i64 0, .int .i64 0, .int .i64 0, .int .i64 0]
          replace HB := Lib.hid (Kr.Bk_row HB.out [.bool false, .slice none 0 0, .int .i64 0, .bool false, .slice none 0 0, .int .i64 0, .bool false, .slice none 0 0, .int .i64 0, .bool false, .int .i64 0, .int .i64 0, .int .i64 0, .int .i64 0, .int .i64 0, .int .i64 0, .int .i64 0])
          refine hK.out _ _ (by exact hS2) (fun hHeld => ?_)
          clear hK K hHeld hS
          have hS := hS2
          clear hS2
          generalize yR2x0.setRow (w.heap.size + 1) #[.bool false, .slice none 0 0, .int .i64 0, .bool false, .slice none 0 0, .int .i64 0, .bool false, .slice none 0 0, .int .i64 0, .bool false, .int .i64 0, .int .i64 0, .int .i64 0, .int .i64 0, .int .i64 0, .int .i64 0, .int .i64 0] = yR2x6 at *
          try simp only [Act.put, sA, sB, sC]
          change wpAnyH _ _ _ _ _ _ #[tt,tt,tt,tt,tt,tt,ff,ff] _ _
          refine wpAnyH_take (i := 6) (v := ?vR2x7) (by (try simp only [gA, gB, gC]); rfl) (by kernel_rfl) (by kernel_rfl) (by kernel_rfl) (by exact fun _ _ _ h => h) (Or.inl ⟨by first | kernel_rfl | rfl, ?hyR2x7⟩) (by exact hS) ?rsR2x7
          case hyR2x7 => (intro uz hSw; (try dsimp only at hSw); go_simp; try with_reducible rfl)
          try simp only [Act.put, sA, sB, sC]
          change wpAnyH _ _ _ _ _ _ #[tt,tt,tt,tt,tt,tt,tt,ff] _ _
          refine wpAnyH_take (i := 7) (v := ?vR2x8) (by (try simp only [gA, gB, gC]); rfl) (by kernel_rfl) (by kernel_rfl) (by kernel_rfl) (by exact fun _ _ _ h => h) (Or.inl ⟨by first | kernel_rfl | rfl, ?hyR2x8⟩) (by exact hS) ?rsR2x8
          case hyR2x8 => (intro uz hSw; (try dsimp only at hSw); go_simp; try with_reducible rfl)
          try simp only [Act.put, sA, sB, sC]
          change wpAnyH _ _ _ _ _ _ #[tt,tt,tt,tt,tt,tt,tt,tt] _ _
          refine wpAnyH_done (by kernel_rfl) ?_ _
          go_wp2_with fail
          exact ret_rtt (l := [.bool false, .slice none 0 0, .int .i64 0, .bool false, .slice none 0 0, .int .i64 0, .bool false, .slice none 0 0, .int .i64 0, .bool false, .int .i64 0, .int .i64 0, .int .i64 0, .int .i64 0, .int .i64 0, .int .i64 0, .int .i64 0]) rfl Tryz.underlying48 (by exact infoRu) rfl rfl rfl HB.out rfl ⟨.inl ⟨i, HLT.out, fun j h => HBD.out j h, by rw [HBE.out]; exact HBN.out, by rw [HBE.out]; try rfl⟩, hS.1⟩
        · have HBE := Lib.hid (show bad i0 i2 (r i) (L i) (s i) = 0 by unfold bad; rw [HRZ.out, if_neg (fun h => h rfl), ← hfb]; rfl)
          clear hfb
          have hlL := HLL.out i hlt
          have hsL := HSS.out i hlt
          have HTM := Lib.hid (Er.trim_sh (g i) _ (s i) (L i) w3 HU3.out (by omega) (HDD.out i hlt) (by omega))
          clear hlL hsL
          have hd2 := HDB3.out
          have d0 := hd2.cell 0 rfl
          have d1 := hd2.cell 1 rfl
          have d2 := hd2.cell 2 rfl
          clear hd2
          go_wp2_with fail
          clear d0 d1 d2
          refine HTM.out.mono ?_
          rintro e w4 ⟨ta, tc, rfl, hlf, hq4⟩
          obtain ⟨tn, htn⟩ : ∃ x, x = (Dm.dg (Dm.st (Dm.num (L i)) (s i)).1).length := ⟨_, rfl⟩
          obtain ⟨tg, htg⟩ : ∃ x, x = Dm.cg (g i) (Dm.num (L i)) := ⟨_, rfl⟩
          obtain ⟨ts, hts⟩ : ∃ x, x = (Dm.st (Dm.num (L i)) (s i)).2 := ⟨_, rfl⟩
          rw [← htn] at hlf ⊢
          rw [← htg, ← hts]
          have HQW4 := Lib.hid (HQW3.out.trans hq4)
          have HQR4 := Lib.hid (HQR3.out.trans hq4)
          have HAP := Lib.hid (show ∀ uu, D3.OwnE 28 wr V.heap.size uu l → Apt V.heap.size w4 uu (g i) (L i) (s i) (tg, .slice ta tn tc, (ts : Int)) from fun uu ho => ⟨⟨htg, hlf.lst, by rw [hts], rfl⟩, fun a n c e hn => by
            have h1 := LF_fresh hlf a n c e hn
            have h3 := HQW3.out.le
            have h4 := HQR3.out.le
            refine ⟨fun hx => ?_, by omega⟩
            have h2 := (ho.lt _ hx).2
            omega⟩)
          have hB4 : V.heap.size ≤ w4.heap.size := HQR4.out.le
          have hlen : l.length < 1073741824 := by rw [HLN.out]; omega
          clear hlf hq4 htn htg hts
          go_wp2_with (at_builtin; refine D3.push D3.el (HOL.out.q HQW4.out) rfl _ _ rfl _ _ _ rfl (by rfl) (by rfl) hlen hB4 ?_)
          intro v2 w5 ho2 hg2 hat2
          have HAS := Lib.hid (apts HLN.out (fun j h => (HTR.out j h).q HQW4.out) (HAP.out _ HOL.out) hg2 hat2)
          have HO5 := Lib.hid ho2
          have HQ5 := Lib.hid (HQR4.out.grown hg2 (fun k h => (HOL.out.lt k h).1))
          clear ho2 hg2 hat2
          go_wp2_with fail
          exact ⟨⟨i + 1, _, by go_num, by omega, HO5.out, by rw [List.length_append, HLN.out]; rfl, HAS.out, fun j h => by
            by_cases e : j < i
            · exact HBD.out j e
            · obtain rfl : j = i := by omega
              exact HBE.out, HQ5.out⟩, by simp [intOf]; omega⟩
      · have HBE := Lib.hid (show bad i0 i2 (r i) (L i) (s i) = ri by unfold bad; rw [← hri, if_pos hrz])
        have HBN := Lib.hid hrz
        have hnz : (ri == 0) = false := beq_eq_false_iff_ne.2 hrz
        clear hri hrz
        replace HB := HBO
        clear HBO
        go_upto_region 24 with fail
        refine wp_region_held_drew (S := fun u => Kr.SB w w2 (w.heap.size + 1) u) (by kernel_rfl) (by exact Kr.SB.of _ (HQ2.out)) (fun hHeld => ?_)
        have hS : Kr.SB w w2 (w.heap.size + 1) w2.drew := hHeld
        clear hHeld
        have hq : Q w2 w2.drew := (Q.refl _).drew
        have HB := Lib.hid (Bk.q HB.out hq)
        clear hq
        generalize w2.drew = yR1x0 at *
        change wpAnyH _ _ _ _ _ _ #[ff,ff,ff,ff,ff,ff,ff,ff,ff] _ _
        refine wpAnyH_take (i := 0) (v := ?vR1x1) (by (try simp only [gA, gB, gC]); rfl) (by kernel_rfl) (by kernel_rfl) (by kernel_rfl) (by exact fun _ _ _ h => h) (Or.inl ⟨by first | kernel_rfl | rfl, ?hyR1x1⟩) (by exact hS) ?rsR1x1
        case hyR1x1 => (intro uz hSw; (try dsimp only at hSw); go_simp; try with_reducible rfl)
        try simp only [Act.put, sA, sB, sC]
        change wpAnyH _ _ _ _ _ _ #[tt,ff,ff,ff,ff,ff,ff,ff,ff] _ _
        refine wpAnyH_take (i := 1) (v := ?vR1x2) (by (try simp only [gA, gB, gC]); rfl) (by kernel_rfl) (by kernel_rfl) (by kernel_rfl) (by exact fun _ _ _ h => h) (Or.inl ⟨by first | kernel_rfl | rfl, ?hyR1x2⟩) (by exact hS) ?rsR1x2
        case hyR1x2 => (intro uz hSw; (try dsimp only at hSw); go_simp; try with_reducible rfl)
        try simp only [Act.put, sA, sB, sC]
        change wpAnyH _ _ _ _ _ _ #[tt,tt,ff,ff,ff,ff,ff,ff,ff] _ _
        refine wpAnyH_take (i := 2) (v := ?vR1x3) (by (try simp only [gA, gB, gC]); rfl) (by kernel_rfl) (by kernel_rfl) (by kernel_rfl) (by exact fun _ _ _ h => h) (Or.inl ⟨by first | kernel_rfl | rfl, ?hyR1x3⟩) (by exact hS) ?rsR1x3
        case hyR1x3 => (intro uz hSw; (try dsimp only at hSw); go_simp; try with_reducible rfl)
        try simp only [Act.put, sA, sB, sC]
        change wpAnyH _ _ _ _ _ _ #[tt,tt,tt,ff,ff,ff,ff,ff,ff] _ _
        refine wpAnyH_take (i := 3) (v := ?vR1x4) (by (try simp only [gA, gB, gC]); rfl) (by kernel_rfl) (by kernel_rfl) (by kernel_rfl) (by exact fun _ _ _ h => h) (Or.inl ⟨by first | kernel_rfl | rfl, ?hyR1x4⟩) (by exact hS) ?rsR1x4
        case hyR1x4 => (intro uz hSw; (try dsimp only at hSw); go_simp; try with_reducible rfl)
        try simp only [Act.put, sA, sB, sC]
        change wpAnyH _ _ _ _ _ _ #[tt,tt,tt,tt,ff,ff,ff,ff,ff] _ _
        refine wpAnyH_take (i := 4) (v := ?vR1x5) (by (try simp only [gA, gB, gC]); rfl) (by kernel_rfl) (by kernel_rfl) (by kernel_rfl) (by exact fun _ _ _ h => h) (Or.inl ⟨by first | kernel_rfl | rfl, ?hyR1x5⟩) (by exact hS) ?rsR1x5
        case hyR1x5 => (intro uz hSw; (try dsimp only at hSw); have kw := cell3 (f := wh) (hSw.bk HWH2.out (by omega)) HLT.out; go_simp; try with_reducible rfl)
        try simp only [Act.put, sA, sB, sC]
        change wpAnyH _ _ _ _ _ _ #[tt,tt,tt,tt,tt,ff,ff,ff,ff] _ _
        refine wpAnyH_take (i := 5) (v := ?vR1x6) (by (try simp only [gA, gB, gC]); rfl) (by kernel_rfl) (by kernel_rfl) (by kernel_rfl) (by exact fun _ _ _ h => h) (Or.inl ⟨by first | kernel_rfl | rfl, ?hyR1x6⟩) (by exact hS) ?rsR1x6
        case hyR1x6 => (intro uz hSw; (try dsimp only at hSw); go_simp; try with_reducible rfl)
        try simp only [Act.put, sA, sB, sC]
        change wpAnyH _ _ _ _ _ _ #[tt,tt,tt,tt,tt,tt,ff,ff,ff] _ _
        refine wpAnyH_ready (rs := [6]) (by kernel_rfl) (by simp) ?_
        refine (AllReadyH.cons (by (try simp only [gA, gB, gC]); rfl) (fun K hK => ?_) AllReadyH.nil)
        rw [if_pos (by rfl)]
        refine wp_store_row 48 _ _ rfl (w.heap.size + 1) #[.bool false, .slice none 0 0, .int .i64 0, .bool false, .slice none 0 0, .int .i64 0, .bool false, .slice none 0 0, .int .i64 0, .bool false, .int .i64 0, .int .i64 0, .int .i64 0, .int .i64 0, .int .i64 0, .int .i64 0, .int .i64 0] (by rfl) (by rfl) 48 _ HB.out (by exact infoRu) rfl (Kr.all1 (by rfl)) ?_
        have hS2 := Kr.SB.row hS (Nat.le_succ _) #[.bool false, .slice none 0 0, .int .i64 0, .bool false, .slice none 0 0, .int .i64 0, .bool false, .slice none 0 0, .int .i64 0, .bool false, .int .i64 0, .int .i64 0, .int .i64 0, .int .i64 0, .int .i64 0, .int .i64 0, .int .i64 0]
        replace HB := Lib.hid (Kr.Bk_row HB.out [.bool false, .slice none 0 0, .int .i64 0, .bool false, .slice none 0 0, .int .i64 0, .bool false, .slice none 0 0, .int .i64 0, .bool false, .int .i64 0, .int .i64 0, .int .i64 0, .int .i64 0, .int .i64 0, .int .i64 0, .int .i64 0])
        refine hK.out _ _ (by exact hS2) (fun hHeld => ?_)
        clear hK K hHeld hS
        have hS := hS2
        clear hS2
        generalize yR1x0.setRow (w.heap.size + 1) #[.bool false, .slice none 0 0, .int .i64 0, .bool false, .slice none 0 0, .int .i64 0, .bool false, .slice none 0 0, .int .i64 0, .bool false, .int .i64 0, .int .i64 0, .int .i64 0, .int .i64 0, .int .i64 0, .int .i64 0, .int .i64 0] = yR1x7 at *
        try simp only [Act.put, sA, sB, sC]
        change wpAnyH _ _ _ _ _ _ #[tt,tt,tt,tt,tt,tt,tt,ff,ff] _ _
        refine wpAnyH_take (i := 7) (v := ?vR1x8) (by (try simp only [gA, gB, gC]); rfl) (by kernel_rfl) (by kernel_rfl) (by kernel_rfl) (by exact fun _ _ _ h => h) (Or.inl ⟨by first | kernel_rfl | rfl, ?hyR1x8⟩) (by exact hS) ?rsR1x8
        case hyR1x8 => (intro uz hSw; (try dsimp only at hSw); go_simp; try with_reducible rfl)
        try simp only [Act.put, sA, sB, sC]
        change wpAnyH _ _ _ _ _ _ #[tt,tt,tt,tt,tt,tt,tt,tt,ff] _ _
        refine wpAnyH_take (i := 8) (v := ?vR1x9) (by (try simp only [gA, gB, gC]); rfl) (by kernel_rfl) (by kernel_rfl) (by kernel_rfl) (by exact fun _ _ _ h => h) (Or.inl ⟨by first | kernel_rfl | rfl, ?hyR1x9⟩) (by exact hS) ?rsR1x9
        case hyR1x9 => (intro uz hSw; (try dsimp only at hSw); go_simp; try with_reducible rfl)
        try simp only [Act.put, sA, sB, sC]
        change wpAnyH _ _ _ _ _ _ #[tt,tt,tt,tt,tt,tt,tt,tt,tt] _ _
        refine wpAnyH_done (by kernel_rfl) ?_ _
        go_wp2_with fail
        exact ret_rtt (l := [.bool false, .slice none 0 0, .int .i64 0, .bool false, .slice none 0 0, .int .i64 0, .bool false, .slice none 0 0, .int .i64 0, .bool false, .int .i64 0, .int .i64 0, .int .i64 0, .int .i64 0, .int .i64 0, .int .i64 0, .int .i64 0]) rfl Tryz.underlying48 (by exact infoRu) rfl rfl rfl HB.out rfl ⟨.inl ⟨i, HLT.out, fun j h => HBD.out j h, by rw [HBE.out]; exact HBN.out, by rw [HBE.out]; try rfl⟩, hS.1⟩
    · obtain rfl : i = 3 := by omega
      obtain ⟨gg, cap, rfl, hBg, hgl, hcp1, hcp2, hcell⟩ := hol.form hll (by omega)
      have hD : ∀ j, j < 3 → (Dm.dg (Dm.st (Dm.num (L j)) (s j)).1).length < 10000 := fun j h => by
        have a := Dm.dg_len_le _ _ (st_fst_le (Dm.num (L j)) (s j))
        have b := Dm.dg_len (L j) (HDD.out j h)
        have c := HLL.out j h
        omega
      have hS1 : ∀ j, j < 3 → (Dm.st (Dm.num (L j)) (s j)).2 ≤ 1000 := fun j h => Nat.le_trans (Dm.st_le _ _) (HSS.out j h)
      have e0 : wr.cell? ⟨gg, 0, none⟩ = some (.bool (l.getD 0 D3.z0).1) := (hcell 0 (by omega)).1
      have e1 : wr.cell? ⟨gg, 1, none⟩ = some (l.getD 0 D3.z0).2.1 := (hcell 0 (by omega)).2.1
      have e2 : wr.cell? ⟨gg, 2, none⟩ = some (.int .i64 (l.getD 0 D3.z0).2.2) := (hcell 0 (by omega)).2.2
      have T0 := (htr 0 (by omega)).1
      have F0 := fun a n c e hn => ((htr 0 (by omega)).2 a n c e hn).2
      have e3 : wr.cell? ⟨gg, 3, none⟩ = some (.bool (l.getD 1 D3.z0).1) := (hcell 1 (by omega)).1
      have e4 : wr.cell? ⟨gg, 4, none⟩ = some (l.getD 1 D3.z0).2.1 := (hcell 1 (by omega)).2.1
      have e5 : wr.cell? ⟨gg, 5, none⟩ = some (.int .i64 (l.getD 1 D3.z0).2.2) := (hcell 1 (by omega)).2.2
      have T1 := (htr 1 (by omega)).1
      have F1 := fun a n c e hn => ((htr 1 (by omega)).2 a n c e hn).2
      have e6 : wr.cell? ⟨gg, 6, none⟩ = some (.bool (l.getD 2 D3.z0).1) := (hcell 2 (by omega)).1
      have e7 : wr.cell? ⟨gg, 7, none⟩ = some (l.getD 2 D3.z0).2.1 := (hcell 2 (by omega)).2.1
      have e8 : wr.cell? ⟨gg, 8, none⟩ = some (.int .i64 (l.getD 2 D3.z0).2.2) := (hcell 2 (by omega)).2.2
      have T2 := (htr 2 (by omega)).1
      have F2 := fun a n c e hn => ((htr 2 (by omega)).2 a n c e hn).2
      have HBD := Lib.hid hbd
      have HGB := Lib.hid hBg
      clear hcell htr hol hll hbd hBg
      generalize l.getD 0 D3.z0 = p0 at *
      obtain ⟨sg0, v0, k0⟩ := p0
      obtain ⟨tA0, tB0, tC0, tD0⟩ := T0
      simp only at tA0 tB0 tC0 e0 e1 e2 F0
      obtain ⟨a0, c0, hv0⟩ := tB0.shape
      obtain ⟨n0, hn0⟩ : ∃ x, x = (Dm.dg (Dm.st (Dm.num (L 0)) (s 0)).1).length := ⟨_, rfl⟩
      rw [← hn0] at hv0
      subst hv0
      have HA0 := Lib.hid tA0
      have HK0 := Lib.hid tC0
      clear tD0
      have HT0 := Lib.hid tB0
      have HF0 := Lib.hid F0
      clear F0
      generalize l.getD 1 D3.z0 = p1 at *
      obtain ⟨sg1, v1, k1⟩ := p1
      obtain ⟨tA1, tB1, tC1, tD1⟩ := T1
      simp only at tA1 tB1 tC1 e3 e4 e5 F1
      obtain ⟨a1, c1, hv1⟩ := tB1.shape
      obtain ⟨n1, hn1⟩ : ∃ x, x = (Dm.dg (Dm.st (Dm.num (L 1)) (s 1)).1).length := ⟨_, rfl⟩
      rw [← hn1] at hv1
      subst hv1
      have HA1 := Lib.hid tA1
      have HK1 := Lib.hid tC1
      clear tD1
      have HT1 := Lib.hid tB1
      have HF1 := Lib.hid F1
      clear F1
      generalize l.getD 2 D3.z0 = p2 at *
      obtain ⟨sg2, v2, k2⟩ := p2
      obtain ⟨tA2, tB2, tC2, tD2⟩ := T2
      simp only at tA2 tB2 tC2 e6 e7 e8 F2
      obtain ⟨a2, c2, hv2⟩ := tB2.shape
      obtain ⟨n2, hn2⟩ : ∃ x, x = (Dm.dg (Dm.st (Dm.num (L 2)) (s 2)).1).length := ⟨_, rfl⟩
      rw [← hn2] at hv2
      subst hv2
      have HA2 := Lib.hid tA2
      have HK2 := Lib.hid tC2
      clear tD2
      have HT2 := Lib.hid tB2
      have HF2 := Lib.hid F2
      clear F2
      clear hn0 hn1 hn2
      obtain ⟨X, hX⟩ : ∃ X, X = Dm.cmpD (Dm.cg (g 2) (Dm.num (L 2))) (Dm.st (Dm.num (L 2)) (s 2)).1 (Dm.st (Dm.num (L 2)) (s 2)).2 false 0 0 := ⟨_, rfl⟩
      obtain ⟨Y, hY⟩ : ∃ Y, Y = Dm.cmpD (Dm.cg (g 0) (Dm.num (L 0))) (Dm.st (Dm.num (L 0)) (s 0)).1 (Dm.st (Dm.num (L 0)) (s 0)).2 (Dm.cg (g 1) (Dm.num (L 1))) (Dm.st (Dm.num (L 1)) (s 1)).1 (Dm.st (Dm.num (L 1)) (s 1)).2 := ⟨_, rfl⟩
      have HX := Lib.hid hX
      have HY := Lib.hid hY
      rw [← tA2] at hX
      rw [← tA0, ← tA1] at hY
      have HC2 := Lib.hid (show ∀ u, Q wr u → Calls Tryz.prog 17 #[.agg #[.bool sg2, .slice a2 n2 c2, .int .i64 k2], .agg #[.bool false, .slice none 0 0, .int .i64 0]] u (fun e w' => e = .returned (.int .i64 X) ∧ Q u w') from fun u q => by
        have h := Er.compare_any sg2 false (.slice a2 n2 c2) (.slice none 0 0) (Dm.st (Dm.num (L 2)) (s 2)).2 0 (Dm.dg (Dm.st (Dm.num (L 2)) (s 2)).1) [] u (tB2.q q) (Lst.nil u none 0 (by unfold maxLen; omega) (fun _ => rfl)) (hD 2 (by omega)) (by simp) (Dm.okD_dg _) (by intro x hx; cases hx) (hS1 2 (by omega)) (by omega)
        unfold dv at h
        rw [Dm.num_dg, ← tC2] at h
        rw [hX]
        exact h)
      have HC01 := Lib.hid (show ∀ u, Q wr u → Calls Tryz.prog 17 #[.agg #[.bool sg0, .slice a0 n0 c0, .int .i64 k0], .agg #[.bool sg1, .slice a1 n1 c1, .int .i64 k1]] u (fun e w' => e = .returned (.int .i64 Y) ∧ Q u w') from fun u q => by
        have h := Er.compare_any sg0 sg1 (.slice a0 n0 c0) (.slice a1 n1 c1) (Dm.st (Dm.num (L 0)) (s 0)).2 (Dm.st (Dm.num (L 1)) (s 1)).2 (Dm.dg (Dm.st (Dm.num (L 0)) (s 0)).1) (Dm.dg (Dm.st (Dm.num (L 1)) (s 1)).1) u (tB0.q q) (tB1.q q) (hD 0 (by omega)) (hD 1 (by omega)) (Dm.okD_dg _) (Dm.okD_dg _) (hS1 0 (by omega)) (hS1 1 (by omega))
        unfold dv at h
        rw [Dm.num_dg, Dm.num_dg, ← tC0, ← tC1] at h
        rw [hY]
        exact h)
      clear hD hS1 tB0 tB1 tB2 tA0 tA1 tA2 tC0 tC1 tC2 hX hY
      go_wp2_with fail
      refine (HC2.out _ (Q.refl _)).mono ?_
      rintro e w6 ⟨rfl, hq6⟩
      have E0 := Lib.hid ((World.cell?_of_block (w := wr) (a := ⟨gg, 0, none⟩) (hq6.block hgl)).trans e0)
      have E1 := Lib.hid ((World.cell?_of_block (w := wr) (a := ⟨gg, 1, none⟩) (hq6.block hgl)).trans e1)
      have E2 := Lib.hid ((World.cell?_of_block (w := wr) (a := ⟨gg, 2, none⟩) (hq6.block hgl)).trans e2)
      have E3 := Lib.hid ((World.cell?_of_block (w := wr) (a := ⟨gg, 3, none⟩) (hq6.block hgl)).trans e3)
      have E4 := Lib.hid ((World.cell?_of_block (w := wr) (a := ⟨gg, 4, none⟩) (hq6.block hgl)).trans e4)
      have E5 := Lib.hid ((World.cell?_of_block (w := wr) (a := ⟨gg, 5, none⟩) (hq6.block hgl)).trans e5)
      have E6 := Lib.hid ((World.cell?_of_block (w := wr) (a := ⟨gg, 6, none⟩) (hq6.block hgl)).trans e6)
      have E7 := Lib.hid ((World.cell?_of_block (w := wr) (a := ⟨gg, 7, none⟩) (hq6.block hgl)).trans e7)
      have E8 := Lib.hid ((World.cell?_of_block (w := wr) (a := ⟨gg, 8, none⟩) (hq6.block hgl)).trans e8)
      clear e0 e1 e2 e3 e4 e5 e6 e7 e8
      have HGL := Lib.hid (show gg < w6.heap.size from Nat.lt_of_lt_of_le hgl hq6.le)
      have HW6 := Lib.hid hq6
      replace HB := Lib.hid (HB.out.q (hq.trans hq6))
      replace HN := Lib.hid (HN.out.q (hq.trans hq6))
      replace HQ := Lib.hid (HQ.out.trans (hq.trans hq6))
      clear hq hq6 hgl
      by_cases hle : X ≤ 0
      · go_wp2_with (refine wpList_store_row (by rfl) 48 _ _ (by rfl) (w.heap.size + 1) #[.bool false, .slice none 0 0, .int .i64 0, .bool false, .slice none 0 0, .int .i64 0, .bool false, .slice none 0 0, .int .i64 0, .bool false, .int .i64 0, .int .i64 0, .int .i64 0, .int .i64 0, .int .i64 0, .int .i64 0, .int .i64 0] (by rfl) (by rfl) 48 _ HB.out (by exact infoRu) rfl (all1 (by rfl)) ?_)
        exact ret_rtt (l := [.bool false, .slice none 0 0, .int .i64 0, .bool false, .slice none 0 0, .int .i64 0, .bool false, .slice none 0 0, .int .i64 0, .bool false, .int .i64 0, .int .i64 0, .int .i64 0, .int .i64 0, .int .i64 0, .int .i64 0, .int .i64 0]) rfl Tryz.underlying48 (by exact infoRu) rfl rfl rfl (Bk_row HB.out [.bool false, .slice none 0 0, .int .i64 0, .bool false, .slice none 0 0, .int .i64 0, .bool false, .slice none 0 0, .int .i64 0, .bool false, .int .i64 0, .int .i64 0, .int .i64 0, .int .i64 0, .int .i64 0, .int .i64 0, .int .i64 0]) rfl ⟨.inr ⟨fun j h => HBD.out j h, .inl ⟨by rw [← HX.out]; exact hle, rfl⟩⟩, Q_row HQ.out (Nat.le_succ _) _⟩
      · have hgt : 0 < X := by omega
        go_upto_region 31 with fail
        refine wp_region_held_drew (S := fun u => Q w6 u) (by kernel_rfl) (by exact (Q.refl w6).drew) (fun hHeld => ?_)
        have hS : Q w6 w6.drew := hHeld
        clear hHeld
        have hq : Q w6 w6.drew := (Q.refl _).drew
        clear hq
        generalize w6.drew = yR3x0 at *
        change wpAnyH _ _ _ _ _ _ #[ff,ff,ff,ff,ff,ff,ff,ff] _ _
        refine wpAnyH_take (i := 0) (v := ?vR3x1) (by (try simp only [gA, gB, gC]); rfl) (by kernel_rfl) (by kernel_rfl) (by kernel_rfl) (by exact fun _ _ _ h => h) (Or.inl ⟨by first | kernel_rfl | rfl, ?hyR3x1⟩) (by exact hS) ?rsR3x1
        case hyR3x1 => (intro uz hSw; (try dsimp only at hSw); go_simp; try with_reducible rfl)
        try simp only [Act.put, sA, sB, sC]
        change wpAnyH _ _ _ _ _ _ #[tt,ff,ff,ff,ff,ff,ff,ff] _ _
        refine wpAnyH_take (i := 1) (v := ?vR3x2) (by (try simp only [gA, gB, gC]); rfl) (by kernel_rfl) (by kernel_rfl) (by kernel_rfl) (by exact fun _ _ _ h => h) (Or.inl ⟨by first | kernel_rfl | rfl, ?hyR3x2⟩) (by exact hS) ?rsR3x2
        case hyR3x2 => (intro uz hSw; (try dsimp only at hSw); go_simp; try with_reducible rfl)
        try simp only [Act.put, sA, sB, sC]
        change wpAnyH _ _ _ _ _ _ #[tt,tt,ff,ff,ff,ff,ff,ff] _ _
        refine wpAnyH_take (i := 2) (v := ?vR3x3) (by (try simp only [gA, gB, gC]); rfl) (by kernel_rfl) (by kernel_rfl) (by kernel_rfl) (by exact fun _ _ _ h => h) (Or.inl ⟨by first | kernel_rfl | rfl, ?hyR3x3⟩) (by exact hS) ?rsR3x3
        case hyR3x3 => (intro uz hSw; (try dsimp only at hSw); have z0 := (World.cell?_of_block (w := w6) (a := ⟨gg, 0, none⟩) (hSw.block HGL.out)).trans E0.out; have z1 := (World.cell?_of_block (w := w6) (a := ⟨gg, 1, none⟩) (hSw.block HGL.out)).trans E1.out; have z2 := (World.cell?_of_block (w := w6) (a := ⟨gg, 2, none⟩) (hSw.block HGL.out)).trans E2.out; have z3 := (World.cell?_of_block (w := w6) (a := ⟨gg, 3, none⟩) (hSw.block HGL.out)).trans E3.out; have z4 := (World.cell?_of_block (w := w6) (a := ⟨gg, 4, none⟩) (hSw.block HGL.out)).trans E4.out; have z5 := (World.cell?_of_block (w := w6) (a := ⟨gg, 5, none⟩) (hSw.block HGL.out)).trans E5.out; go_simp; try with_reducible rfl)
        try simp only [Act.put, sA, sB, sC]
        change wpAnyH _ _ _ _ _ _ #[tt,tt,tt,ff,ff,ff,ff,ff] _ _
        refine wpAnyH_take (i := 3) (v := ?vR3x4) (by (try simp only [gA, gB, gC]); rfl) (by kernel_rfl) (by kernel_rfl) (by kernel_rfl) (by exact fun _ _ _ h => h) (Or.inl ⟨by first | kernel_rfl | rfl, ?hyR3x4⟩) (by exact hS) ?rsR3x4
        case hyR3x4 => (intro uz hSw; (try dsimp only at hSw); go_simp; try with_reducible rfl)
        try simp only [Act.put, sA, sB, sC]
        change wpAnyH _ _ _ _ _ _ #[tt,tt,tt,tt,ff,ff,ff,ff] _ _
        refine wpAnyH_take (i := 4) (v := ?vR3x5) (by (try simp only [gA, gB, gC]); rfl) (by kernel_rfl) (by kernel_rfl) (by kernel_rfl) (by exact fun _ _ _ h => h) (Or.inl ⟨by first | kernel_rfl | rfl, ?hyR3x5⟩) (by exact hS) ?rsR3x5
        case hyR3x5 => (intro uz hSw; (try dsimp only at hSw); go_simp; try with_reducible rfl)
        try simp only [Act.put, sA, sB, sC]
        change wpAnyH _ _ _ _ _ _ #[tt,tt,tt,tt,tt,ff,ff,ff] _ _
        refine wpAnyH_take (i := 5) (v := ?vR3x6) (by (try simp only [gA, gB, gC]); rfl) (by kernel_rfl) (by kernel_rfl) (by kernel_rfl) (by exact fun _ _ _ h => h) (Or.inl ⟨by first | kernel_rfl | rfl, ?hyR3x6⟩) (by exact hS) ?rsR3x6
        case hyR3x6 => (intro uz hSw; (try dsimp only at hSw); have z0 := (World.cell?_of_block (w := w6) (a := ⟨gg, 0, none⟩) (hSw.block HGL.out)).trans E0.out; have z1 := (World.cell?_of_block (w := w6) (a := ⟨gg, 1, none⟩) (hSw.block HGL.out)).trans E1.out; have z2 := (World.cell?_of_block (w := w6) (a := ⟨gg, 2, none⟩) (hSw.block HGL.out)).trans E2.out; have z3 := (World.cell?_of_block (w := w6) (a := ⟨gg, 3, none⟩) (hSw.block HGL.out)).trans E3.out; have z4 := (World.cell?_of_block (w := w6) (a := ⟨gg, 4, none⟩) (hSw.block HGL.out)).trans E4.out; have z5 := (World.cell?_of_block (w := w6) (a := ⟨gg, 5, none⟩) (hSw.block HGL.out)).trans E5.out; go_simp; try with_reducible rfl)
        try simp only [Act.put, sA, sB, sC]
        change wpAnyH _ _ _ _ _ _ #[tt,tt,tt,tt,tt,tt,ff,ff] _ _
        refine wpAnyH_ready (rs := [6]) (by kernel_rfl) (by simp) ?_
        refine (AllReadyH.cons (by (try simp only [gA, gB, gC]); rfl) (fun K hK => ?_) AllReadyH.nil)
        go_simp
        refine (HC01.out _ (HW6.out.trans hS)).mono ?_
        rintro e yR3x7 ⟨rfl, hq⟩
        try (go_wp2_with fail)
        have hS2 := Q.trans hS hq
        refine hK.out _ _ (by exact hS2) (fun hHeld => ?_)
        clear hK K hHeld hS hq
        have hS := hS2
        clear hS2
        try simp only [Act.put, sA, sB, sC]
        change wpAnyH _ _ _ _ _ _ #[tt,tt,tt,tt,tt,tt,tt,ff] _ _
        refine wpAnyH_take (i := 7) (v := ?vR3x8) (by (try simp only [gA, gB, gC]); rfl) (by kernel_rfl) (by kernel_rfl) (by kernel_rfl) (by exact fun _ _ _ h => h) (Or.inl ⟨by first | kernel_rfl | rfl, ?hyR3x8⟩) (by exact hS) ?rsR3x8
        case hyR3x8 => (intro uz hSw; (try dsimp only at hSw); go_simp; try with_reducible rfl)
        try simp only [Act.put, sA, sB, sC]
        change wpAnyH _ _ _ _ _ _ #[tt,tt,tt,tt,tt,tt,tt,tt] _ _
        refine wpAnyH_done (by kernel_rfl) ?_ _
        generalize yR3x7 = w7 at *
        have HW7 := Lib.hid hS
        clear hS
        replace HB := Lib.hid (HB.out.q HW7.out)
        replace HN := Lib.hid (HN.out.q HW7.out)
        replace HQ := Lib.hid (HQ.out.trans HW7.out)
        by_cases h01 : 0 < Y
        · go_wp2_with (refine wpList_store_row (by rfl) 48 _ _ (by rfl) (w.heap.size + 1) #[.bool false, .slice none 0 0, .int .i64 0, .bool false, .slice none 0 0, .int .i64 0, .bool false, .slice none 0 0, .int .i64 0, .bool false, .int .i64 0, .int .i64 0, .int .i64 0, .int .i64 0, .int .i64 0, .int .i64 0, .int .i64 0] (by rfl) (by rfl) 48 _ HB.out (by exact infoRu) rfl (all1 (by rfl)) ?_)
          exact ret_rtt (l := [.bool false, .slice none 0 0, .int .i64 0, .bool false, .slice none 0 0, .int .i64 0, .bool false, .slice none 0 0, .int .i64 0, .bool false, .int .i64 0, .int .i64 0, .int .i64 0, .int .i64 0, .int .i64 0, .int .i64 0, .int .i64 0]) rfl Tryz.underlying48 (by exact infoRu) rfl rfl rfl (Bk_row HB.out [.bool false, .slice none 0 0, .int .i64 0, .bool false, .slice none 0 0, .int .i64 0, .bool false, .slice none 0 0, .int .i64 0, .bool false, .int .i64 0, .int .i64 0, .int .i64 0, .int .i64 0, .int .i64 0, .int .i64 0, .int .i64 0]) rfl ⟨.inr ⟨fun j h => HBD.out j h, .inr (.inl ⟨by rw [← HX.out]; exact hgt, by rw [← HY.out]; exact h01, rfl⟩)⟩, Q_row HQ.out (Nat.le_succ _) _⟩
        · go_upto_region 33 with fail
          have HE0 := Lib.hid ((World.cell?_of_block (w := w6) (a := ⟨gg, 0, none⟩) (HW7.out.block HGL.out)).trans E0.out)
          have HE1 := Lib.hid ((World.cell?_of_block (w := w6) (a := ⟨gg, 1, none⟩) (HW7.out.block HGL.out)).trans E1.out)
          have HE2 := Lib.hid ((World.cell?_of_block (w := w6) (a := ⟨gg, 2, none⟩) (HW7.out.block HGL.out)).trans E2.out)
          have HE3 := Lib.hid ((World.cell?_of_block (w := w6) (a := ⟨gg, 3, none⟩) (HW7.out.block HGL.out)).trans E3.out)
          have HE4 := Lib.hid ((World.cell?_of_block (w := w6) (a := ⟨gg, 4, none⟩) (HW7.out.block HGL.out)).trans E4.out)
          have HE5 := Lib.hid ((World.cell?_of_block (w := w6) (a := ⟨gg, 5, none⟩) (HW7.out.block HGL.out)).trans E5.out)
          have HE6 := Lib.hid ((World.cell?_of_block (w := w6) (a := ⟨gg, 6, none⟩) (HW7.out.block HGL.out)).trans E6.out)
          have HE7 := Lib.hid ((World.cell?_of_block (w := w6) (a := ⟨gg, 7, none⟩) (HW7.out.block HGL.out)).trans E7.out)
          have HE8 := Lib.hid ((World.cell?_of_block (w := w6) (a := ⟨gg, 8, none⟩) (HW7.out.block HGL.out)).trans E8.out)
          have HGL7 := Lib.hid (show gg < w7.heap.size from Nat.lt_of_lt_of_le HGL.out HW7.out.le)
          have HGN := Lib.hid (show gg ≠ w.heap.size + 1 by have h1 := HGB.out; have h2 := HB3.out; have h3 := HVS.out; omega)
          refine wp_region_held_drew (S := fun u => Kr.SB w w7 (w.heap.size + 1) u) (by kernel_rfl) (by exact Kr.SB.of _ (HQ.out)) (fun hHeld => ?_)
          have hS : Kr.SB w w7 (w.heap.size + 1) w7.drew := hHeld
          clear hHeld
          have hq : Q w7 w7.drew := (Q.refl _).drew
          have HB := Lib.hid (Bk.q HB.out hq)
          clear hq
          generalize w7.drew = yR4x0 at *
          change wpAnyH _ _ _ _ _ _ #[ff,ff,ff,ff,ff,ff,ff,ff,ff,ff,ff,ff,ff,ff,ff,ff,ff,ff] _ _
          refine wpAnyH_take (i := 0) (v := ?vR4x1) (by (try simp only [gA, gB, gC]); rfl) (by kernel_rfl) (by kernel_rfl) (by kernel_rfl) (by exact fun _ _ _ h => h) (Or.inl ⟨by first | kernel_rfl | rfl, ?hyR4x1⟩) (by exact hS) ?rsR4x1
          case hyR4x1 => (intro uz hSw; (try dsimp only at hSw); go_simp; try with_reducible rfl)
          try simp only [Act.put, sA, sB, sC]
          change wpAnyH _ _ _ _ _ _ #[tt,ff,ff,ff,ff,ff,ff,ff,ff,ff,ff,ff,ff,ff,ff,ff,ff,ff] _ _
          refine wpAnyH_take (i := 1) (v := ?vR4x2) (by (try simp only [gA, gB, gC]); rfl) (by kernel_rfl) (by kernel_rfl) (by kernel_rfl) (by exact fun _ _ _ h => h) (Or.inl ⟨by first | kernel_rfl | rfl, ?hyR4x2⟩) (by exact hS) ?rsR4x2
          case hyR4x2 => (intro uz hSw; (try dsimp only at hSw); go_simp; try with_reducible rfl)
          try simp only [Act.put, sA, sB, sC]
          change wpAnyH _ _ _ _ _ _ #[tt,tt,ff,ff,ff,ff,ff,ff,ff,ff,ff,ff,ff,ff,ff,ff,ff,ff] _ _
          refine wpAnyH_take (i := 2) (v := ?vR4x3) (by (try simp only [gA, gB, gC]); rfl) (by kernel_rfl) (by kernel_rfl) (by kernel_rfl) (by exact fun _ _ _ h => h) (Or.inl ⟨by first | kernel_rfl | rfl, ?hyR4x3⟩) (by exact hS) ?rsR4x3
          case hyR4x3 => (intro uz hSw; (try dsimp only at hSw); have z0 := hSw.cell HE0.out HGL7.out HGN.out; have z1 := hSw.cell HE1.out HGL7.out HGN.out; have z2 := hSw.cell HE2.out HGL7.out HGN.out; have z3 := hSw.cell HE3.out HGL7.out HGN.out; have z4 := hSw.cell HE4.out HGL7.out HGN.out; have z5 := hSw.cell HE5.out HGL7.out HGN.out; have z6 := hSw.cell HE6.out HGL7.out HGN.out; have z7 := hSw.cell HE7.out HGL7.out HGN.out; have z8 := hSw.cell HE8.out HGL7.out HGN.out; have zn := hSw.bk HN.out (by omega); have y0 := zn.cell 0 rfl; have y1 := zn.cell 1 rfl; have y2 := zn.cell 2 rfl; have y3 := zn.cell 3 rfl; have y4 := zn.cell 4 rfl; have y5 := zn.cell 5 rfl; have y6 := zn.cell 6 rfl; clear zn; go_simp; try with_reducible rfl)
          try simp only [Act.put, sA, sB, sC]
          change wpAnyH _ _ _ _ _ _ #[tt,tt,tt,ff,ff,ff,ff,ff,ff,ff,ff,ff,ff,ff,ff,ff,ff,ff] _ _
          refine wpAnyH_take (i := 3) (v := ?vR4x4) (by (try simp only [gA, gB, gC]); rfl) (by kernel_rfl) (by kernel_rfl) (by kernel_rfl) (by exact fun _ _ _ h => h) (Or.inl ⟨by first | kernel_rfl | rfl, ?hyR4x4⟩) (by exact hS) ?rsR4x4
          case hyR4x4 => (intro uz hSw; (try dsimp only at hSw); go_simp; try with_reducible rfl)
          try simp only [Act.put, sA, sB, sC]
          change wpAnyH _ _ _ _ _ _ #[tt,tt,tt,tt,ff,ff,ff,ff,ff,ff,ff,ff,ff,ff,ff,ff,ff,ff] _ _
          refine wpAnyH_take (i := 4) (v := ?vR4x5) (by (try simp only [gA, gB, gC]); rfl) (by kernel_rfl) (by kernel_rfl) (by kernel_rfl) (by exact fun _ _ _ h => h) (Or.inl ⟨by first | kernel_rfl | rfl, ?hyR4x5⟩) (by exact hS) ?rsR4x5
          case hyR4x5 => (intro uz hSw; (try dsimp only at hSw); go_simp; try with_reducible rfl)
          try simp only [Act.put, sA, sB, sC]
          change wpAnyH _ _ _ _ _ _ #[tt,tt,tt,tt,tt,ff,ff,ff,ff,ff,ff,ff,ff,ff,ff,ff,ff,ff] _ _
          refine wpAnyH_take (i := 5) (v := ?vR4x6) (by (try simp only [gA, gB, gC]); rfl) (by kernel_rfl) (by kernel_rfl) (by kernel_rfl) (by exact fun _ _ _ h => h) (Or.inl ⟨by first | kernel_rfl | rfl, ?hyR4x6⟩) (by exact hS) ?rsR4x6
          case hyR4x6 => (intro uz hSw; (try dsimp only at hSw); have z0 := hSw.cell HE0.out HGL7.out HGN.out; have z1 := hSw.cell HE1.out HGL7.out HGN.out; have z2 := hSw.cell HE2.out HGL7.out HGN.out; have z3 := hSw.cell HE3.out HGL7.out HGN.out; have z4 := hSw.cell HE4.out HGL7.out HGN.out; have z5 := hSw.cell HE5.out HGL7.out HGN.out; have z6 := hSw.cell HE6.out HGL7.out HGN.out; have z7 := hSw.cell HE7.out HGL7.out HGN.out; have z8 := hSw.cell HE8.out HGL7.out HGN.out; have zn := hSw.bk HN.out (by omega); have y0 := zn.cell 0 rfl; have y1 := zn.cell 1 rfl; have y2 := zn.cell 2 rfl; have y3 := zn.cell 3 rfl; have y4 := zn.cell 4 rfl; have y5 := zn.cell 5 rfl; have y6 := zn.cell 6 rfl; clear zn; go_simp; try with_reducible rfl)
          try simp only [Act.put, sA, sB, sC]
          change wpAnyH _ _ _ _ _ _ #[tt,tt,tt,tt,tt,tt,ff,ff,ff,ff,ff,ff,ff,ff,ff,ff,ff,ff] _ _
          refine wpAnyH_take (i := 6) (v := ?vR4x7) (by (try simp only [gA, gB, gC]); rfl) (by kernel_rfl) (by kernel_rfl) (by kernel_rfl) (by exact fun _ _ _ h => h) (Or.inl ⟨by first | kernel_rfl | rfl, ?hyR4x7⟩) (by exact hS) ?rsR4x7
          case hyR4x7 => (intro uz hSw; (try dsimp only at hSw); go_simp; try with_reducible rfl)
          try simp only [Act.put, sA, sB, sC]
          change wpAnyH _ _ _ _ _ _ #[tt,tt,tt,tt,tt,tt,tt,ff,ff,ff,ff,ff,ff,ff,ff,ff,ff,ff] _ _
          refine wpAnyH_take (i := 7) (v := ?vR4x8) (by (try simp only [gA, gB, gC]); rfl) (by kernel_rfl) (by kernel_rfl) (by kernel_rfl) (by exact fun _ _ _ h => h) (Or.inl ⟨by first | kernel_rfl | rfl, ?hyR4x8⟩) (by exact hS) ?rsR4x8
          case hyR4x8 => (intro uz hSw; (try dsimp only at hSw); go_simp; try with_reducible rfl)
          try simp only [Act.put, sA, sB, sC]
          change wpAnyH _ _ _ _ _ _ #[tt,tt,tt,tt,tt,tt,tt,tt,ff,ff,ff,ff,ff,ff,ff,ff,ff,ff] _ _
          refine wpAnyH_take (i := 8) (v := ?vR4x9) (by (try simp only [gA, gB, gC]); rfl) (by kernel_rfl) (by kernel_rfl) (by kernel_rfl) (by exact fun _ _ _ h => h) (Or.inl ⟨by first | kernel_rfl | rfl, ?hyR4x9⟩) (by exact hS) ?rsR4x9
          case hyR4x9 => (intro uz hSw; (try dsimp only at hSw); have z0 := hSw.cell HE0.out HGL7.out HGN.out; have z1 := hSw.cell HE1.out HGL7.out HGN.out; have z2 := hSw.cell HE2.out HGL7.out HGN.out; have z3 := hSw.cell HE3.out HGL7.out HGN.out; have z4 := hSw.cell HE4.out HGL7.out HGN.out; have z5 := hSw.cell HE5.out HGL7.out HGN.out; have z6 := hSw.cell HE6.out HGL7.out HGN.out; have z7 := hSw.cell HE7.out HGL7.out HGN.out; have z8 := hSw.cell HE8.out HGL7.out HGN.out; have zn := hSw.bk HN.out (by omega); have y0 := zn.cell 0 rfl; have y1 := zn.cell 1 rfl; have y2 := zn.cell 2 rfl; have y3 := zn.cell 3 rfl; have y4 := zn.cell 4 rfl; have y5 := zn.cell 5 rfl; have y6 := zn.cell 6 rfl; clear zn; go_simp; try with_reducible rfl)
          try simp only [Act.put, sA, sB, sC]
          change wpAnyH _ _ _ _ _ _ #[tt,tt,tt,tt,tt,tt,tt,tt,tt,ff,ff,ff,ff,ff,ff,ff,ff,ff] _ _
          refine wpAnyH_take (i := 9) (v := ?vR4x10) (by (try simp only [gA, gB, gC]); rfl) (by kernel_rfl) (by kernel_rfl) (by kernel_rfl) (by exact fun _ _ _ h => h) (Or.inl ⟨by first | kernel_rfl | rfl, ?hyR4x10⟩) (by exact hS) ?rsR4x10
          case hyR4x10 => (intro uz hSw; (try dsimp only at hSw); go_simp; try with_reducible rfl)
          try simp only [Act.put, sA, sB, sC]
          change wpAnyH _ _ _ _ _ _ #[tt,tt,tt,tt,tt,tt,tt,tt,tt,tt,ff,ff,ff,ff,ff,ff,ff,ff] _ _
          refine wpAnyH_take (i := 10) (v := ?vR4x11) (by (try simp only [gA, gB, gC]); rfl) (by kernel_rfl) (by kernel_rfl) (by kernel_rfl) (by exact fun _ _ _ h => h) (Or.inl ⟨by first | kernel_rfl | rfl, ?hyR4x11⟩) (by exact hS) ?rsR4x11
          case hyR4x11 => (intro uz hSw; (try dsimp only at hSw); go_simp; try with_reducible rfl)
          try simp only [Act.put, sA, sB, sC]
          change wpAnyH _ _ _ _ _ _ #[tt,tt,tt,tt,tt,tt,tt,tt,tt,tt,tt,ff,ff,ff,ff,ff,ff,ff] _ _
          refine wpAnyH_take (i := 11) (v := ?vR4x12) (by (try simp only [gA, gB, gC]); rfl) (by kernel_rfl) (by kernel_rfl) (by kernel_rfl) (by exact fun _ _ _ h => h) (Or.inl ⟨by first | kernel_rfl | rfl, ?hyR4x12⟩) (by exact hS) ?rsR4x12
          case hyR4x12 => (intro uz hSw; (try dsimp only at hSw); go_simp; try with_reducible rfl)
          try simp only [Act.put, sA, sB, sC]
          change wpAnyH _ _ _ _ _ _ #[tt,tt,tt,tt,tt,tt,tt,tt,tt,tt,tt,tt,ff,ff,ff,ff,ff,ff] _ _
          refine wpAnyH_take (i := 12) (v := ?vR4x13) (by (try simp only [gA, gB, gC]); rfl) (by kernel_rfl) (by kernel_rfl) (by kernel_rfl) (by exact fun _ _ _ h => h) (Or.inl ⟨by first | kernel_rfl | rfl, ?hyR4x13⟩) (by exact hS) ?rsR4x13
          case hyR4x13 => (intro uz hSw; (try dsimp only at hSw); have z0 := hSw.cell HE0.out HGL7.out HGN.out; have z1 := hSw.cell HE1.out HGL7.out HGN.out; have z2 := hSw.cell HE2.out HGL7.out HGN.out; have z3 := hSw.cell HE3.out HGL7.out HGN.out; have z4 := hSw.cell HE4.out HGL7.out HGN.out; have z5 := hSw.cell HE5.out HGL7.out HGN.out; have z6 := hSw.cell HE6.out HGL7.out HGN.out; have z7 := hSw.cell HE7.out HGL7.out HGN.out; have z8 := hSw.cell HE8.out HGL7.out HGN.out; have zn := hSw.bk HN.out (by omega); have y0 := zn.cell 0 rfl; have y1 := zn.cell 1 rfl; have y2 := zn.cell 2 rfl; have y3 := zn.cell 3 rfl; have y4 := zn.cell 4 rfl; have y5 := zn.cell 5 rfl; have y6 := zn.cell 6 rfl; clear zn; go_simp; try with_reducible rfl)
          try simp only [Act.put, sA, sB, sC]
          change wpAnyH _ _ _ _ _ _ #[tt,tt,tt,tt,tt,tt,tt,tt,tt,tt,tt,tt,tt,ff,ff,ff,ff,ff] _ _
          refine wpAnyH_take (i := 13) (v := ?vR4x14) (by (try simp only [gA, gB, gC]); rfl) (by kernel_rfl) (by kernel_rfl) (by kernel_rfl) (by exact fun _ _ _ h => h) (Or.inl ⟨by first | kernel_rfl | rfl, ?hyR4x14⟩) (by exact hS) ?rsR4x14
          case hyR4x14 => (intro uz hSw; (try dsimp only at hSw); have z0 := hSw.cell HE0.out HGL7.out HGN.out; have z1 := hSw.cell HE1.out HGL7.out HGN.out; have z2 := hSw.cell HE2.out HGL7.out HGN.out; have z3 := hSw.cell HE3.out HGL7.out HGN.out; have z4 := hSw.cell HE4.out HGL7.out HGN.out; have z5 := hSw.cell HE5.out HGL7.out HGN.out; have z6 := hSw.cell HE6.out HGL7.out HGN.out; have z7 := hSw.cell HE7.out HGL7.out HGN.out; have z8 := hSw.cell HE8.out HGL7.out HGN.out; have zn := hSw.bk HN.out (by omega); have y0 := zn.cell 0 rfl; have y1 := zn.cell 1 rfl; have y2 := zn.cell 2 rfl; have y3 := zn.cell 3 rfl; have y4 := zn.cell 4 rfl; have y5 := zn.cell 5 rfl; have y6 := zn.cell 6 rfl; clear zn; go_simp; try with_reducible rfl)
          try simp only [Act.put, sA, sB, sC]
          change wpAnyH _ _ _ _ _ _ #[tt,tt,tt,tt,tt,tt,tt,tt,tt,tt,tt,tt,tt,tt,ff,ff,ff,ff] _ _
          refine wpAnyH_take (i := 14) (v := ?vR4x15) (by (try simp only [gA, gB, gC]); rfl) (by kernel_rfl) (by kernel_rfl) (by kernel_rfl) (by exact fun _ _ _ h => h) (Or.inl ⟨by first | kernel_rfl | rfl, ?hyR4x15⟩) (by exact hS) ?rsR4x15
          case hyR4x15 => (intro uz hSw; (try dsimp only at hSw); go_simp; try with_reducible rfl)
          try simp only [Act.put, sA, sB, sC]
          change wpAnyH _ _ _ _ _ _ #[tt,tt,tt,tt,tt,tt,tt,tt,tt,tt,tt,tt,tt,tt,tt,ff,ff,ff] _ _
          refine wpAnyH_ready (rs := [15]) (by kernel_rfl) (by simp) ?_
          refine (AllReadyH.cons (by (try simp only [gA, gB, gC]); rfl) (fun K hK => ?_) AllReadyH.nil)
          rw [if_pos (by rfl)]
          refine wp_store_row 48 _ _ rfl (w.heap.size + 1) #[.bool sg0, .slice a0 n0 c0, .int .i64 k0, .bool sg1, .slice a1 n1 c1, .int .i64 k1, .bool sg2, .slice a2 n2 c2, .int .i64 k2, .bool sg0, .int .i64 i0, .int .i64 i1, .int .i64 i2, .int .i64 i3, .int .i64 i4, .int .i64 i5, .int .i64 i6] (by rfl) (by rfl) 48 _ HB.out (by exact infoRu) rfl (Kr.all1 (by rfl)) ?_
          have hS2 := Kr.SB.row hS (Nat.le_succ _) #[.bool sg0, .slice a0 n0 c0, .int .i64 k0, .bool sg1, .slice a1 n1 c1, .int .i64 k1, .bool sg2, .slice a2 n2 c2, .int .i64 k2, .bool sg0, .int .i64 i0, .int .i64 i1, .int .i64 i2, .int .i64 i3, .int .i64 i4, .int .i64 i5, .int .i64 i6]
          replace HB := Lib.hid (Kr.Bk_row HB.out [.bool sg0, .slice a0 n0 c0, .int .i64 k0, .bool sg1, .slice a1 n1 c1, .int .i64 k1, .bool sg2, .slice a2 n2 c2, .int .i64 k2, .bool sg0, .int .i64 i0, .int .i64 i1, .int .i64 i2, .int .i64 i3, .int .i64 i4, .int .i64 i5, .int .i64 i6])
          refine hK.out _ _ (by exact hS2) (fun hHeld => ?_)
          clear hK K hHeld hS
          have hS := hS2
          clear hS2
          generalize yR4x0.setRow (w.heap.size + 1) #[.bool sg0, .slice a0 n0 c0, .int .i64 k0, .bool sg1, .slice a1 n1 c1, .int .i64 k1, .bool sg2, .slice a2 n2 c2, .int .i64 k2, .bool sg0, .int .i64 i0, .int .i64 i1, .int .i64 i2, .int .i64 i3, .int .i64 i4, .int .i64 i5, .int .i64 i6] = yR4x16 at *
          try simp only [Act.put, sA, sB, sC]
          change wpAnyH _ _ _ _ _ _ #[tt,tt,tt,tt,tt,tt,tt,tt,tt,tt,tt,tt,tt,tt,tt,tt,ff,ff] _ _
          refine wpAnyH_take (i := 16) (v := ?vR4x17) (by (try simp only [gA, gB, gC]); rfl) (by kernel_rfl) (by kernel_rfl) (by kernel_rfl) (by exact fun _ _ _ h => h) (Or.inl ⟨by first | kernel_rfl | rfl, ?hyR4x17⟩) (by exact hS) ?rsR4x17
          case hyR4x17 => (intro uz hSw; (try dsimp only at hSw); go_simp; try with_reducible rfl)
          try simp only [Act.put, sA, sB, sC]
          change wpAnyH _ _ _ _ _ _ #[tt,tt,tt,tt,tt,tt,tt,tt,tt,tt,tt,tt,tt,tt,tt,tt,tt,ff] _ _
          refine wpAnyH_take (i := 17) (v := ?vR4x18) (by (try simp only [gA, gB, gC]); rfl) (by kernel_rfl) (by kernel_rfl) (by kernel_rfl) (by exact fun _ _ _ h => h) (Or.inl ⟨by first | kernel_rfl | rfl, ?hyR4x18⟩) (by exact hS) ?rsR4x18
          case hyR4x18 => (intro uz hSw; (try dsimp only at hSw); go_simp; try with_reducible rfl)
          try simp only [Act.put, sA, sB, sC]
          change wpAnyH _ _ _ _ _ _ #[tt,tt,tt,tt,tt,tt,tt,tt,tt,tt,tt,tt,tt,tt,tt,tt,tt,tt] _ _
          refine wpAnyH_done (by kernel_rfl) ?_ _
          go_wp2_with fail
          exact ret_rtt (l := [.bool sg0, .slice a0 n0 c0, .int .i64 k0, .bool sg1, .slice a1 n1 c1, .int .i64 k1, .bool sg2, .slice a2 n2 c2, .int .i64 k2, .bool sg0, .int .i64 i0, .int .i64 i1, .int .i64 i2, .int .i64 i3, .int .i64 i4, .int .i64 i5, .int .i64 i6]) rfl Tryz.underlying48 (by exact infoRu) rfl rfl rfl HB.out rfl ⟨.inr ⟨fun j h => HBD.out j h, .inr (.inr ⟨by rw [← HX.out]; exact hgt, by rw [← HY.out]; exact h01, by unfold GivesF; exact ⟨(sg0, .slice a0 n0 c0, k0), (sg1, .slice a1 n1 c1, k1), (sg2, .slice a2 n2 c2, k2), Tri.sb hS ⟨HA0.out, HT0.out.q (HW6.out.trans HW7.out), HK0.out, rfl⟩ (fun a n c e hn => by have h1 := HF0.out a n c e hn; have h2 := HB3.out; have h3 := HVS.out; omega), Tri.sb hS ⟨HA1.out, HT1.out.q (HW6.out.trans HW7.out), HK1.out, rfl⟩ (fun a n c e hn => by have h1 := HF1.out a n c e hn; have h2 := HB3.out; have h3 := HVS.out; omega), Tri.sb hS ⟨HA2.out, HT2.out.q (HW6.out.trans HW7.out), HK2.out, rfl⟩ (fun a n c e hn => by have h1 := HF2.out a n c e hn; have h2 := HB3.out; have h3 := HVS.out; omega), (fun a n c e hn => by have h1 := HF0.out a n c e hn; have h2 := HB3.out; have h3 := HVS.out; omega), (fun a n c e hn => by have h1 := HF1.out a n c e hn; have h2 := HB3.out; have h3 := HVS.out; omega), (fun a n c e hn => by have h1 := HF2.out a n c e hn; have h2 := HB3.out; have h3 := HVS.out; omega), rfl⟩⟩)⟩, hS.1⟩
end Kr
end Go.Proofs.YtagpofhencpliaaGreatDoor
