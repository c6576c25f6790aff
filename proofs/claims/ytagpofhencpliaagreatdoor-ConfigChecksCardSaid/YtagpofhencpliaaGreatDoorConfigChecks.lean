/- ConfigChecks: of whatever configuration (its texts cut to 20 bytes; raw, and one that may be, with one text or limit another one), whether it may be, and of others where something is wrong and what, is told as the document says; so are the rules. Condition: the package-level variables that the row lists hold at the call what the program's text lays in them (the card ties them to that text; that nothing else writes them is the translator's report, over the seat's pruned copy of the project). -/
import Derived.Test.YtagpofhencpliaaGreatDoorRows
import Derived.WalkKit
import Derived.ProofKit
import Derived.OpenShut
import Derived.ShutString
import Derived.ChangeOld
import Derived.Below
import Derived.Lib.SmallJoins
import Derived.Test.YtagpofhencpliaaGreatDoorR00
import Derived.SevenTiedAt
import Derived.Handed
import Derived.Test.YtagpofhencpliaaGreatDoorCards
import Derived.Test.YtagpofhencpliaaGreatDoorTie
import Derived.Test.YtagpofhencpliaaGreatDoorR03
import Derived.Test.YtagpofhencpliaaGreatDoorR04
import Derived.Test.YtagpofhencpliaaGreatDoorR02
import Derived.Test.YtagpofhencpliaaGreatDoorR08
import Derived.Test.YtagpofhencpliaaGreatDoorR10
import Derived.Test.YtagpofhencpliaaGreatDoorR05
import Derived.Test.YtagpofhencpliaaGreatDoorR40
import Derived.Test.YtagpofhencpliaaGreatDoorR21
import Derived.Test.YtagpofhencpliaaGreatDoorR28
import Derived.Test.YtagpofhencpliaaGreatDoorR22
import Derived.Test.YtagpofhencpliaaGreatDoorR45
import Derived.Test.YtagpofhencpliaaGreatDoorR06
import Derived.Test.YtagpofhencpliaaGreatDoorR16
import Derived.Test.YtagpofhencpliaaGreatDoorR46
import Derived.Test.YtagpofhencpliaaGreatDoorR47
set_option linter.unusedVariables false
set_option linter.unusedSimpArgs false
namespace Go.Proofs.YtagpofhencpliaaGreatDoor.configChecks
open Go.ChangeShapes Go.WideShapes Go.ChangeAt Go.RowKit
open Go.ChangeMaps (open_string shut_string)

theorem own : ownKnob Tryz.prog.godebug = none := by kernel_rfl
theorem laidOut : laidOutB Tryz.prog = true := by kernel_rfl


set_option maxHeartbeats 8000000 in
set_option maxRecDepth 100000 in
theorem walk (w : World) (he : Fe.Handle w) (t0_0 : ByteArray) (z0_0 : t0_0.size ≤ maxLen) (t0_1 : ByteArray) (z0_1 : t0_1.size ≤ maxLen) (t0_2 : ByteArray) (z0_2 : t0_2.size ≤ maxLen) (s0_3 : Int) (ws0_3 : -9223372036854775808 ≤ s0_3 ∧ s0_3 ≤ 9223372036854775807) (s0_4 : Int) (ws0_4 : -9223372036854775808 ≤ s0_4 ∧ s0_4 ≤ 9223372036854775807) (s0_5 : Int) (ws0_5 : -9223372036854775808 ≤ s0_5 ∧ s0_5 ≤ 9223372036854775807) (s0_6 : Int) (ws0_6 : -9223372036854775808 ≤ s0_6 ∧ s0_6 ≤ 9223372036854775807) (s0_7 : Int) (ws0_7 : -9223372036854775808 ≤ s0_7 ∧ s0_7 ≤ 9223372036854775807) (s0_8 : Int) (ws0_8 : -9223372036854775808 ≤ s0_8 ∧ s0_8 ≤ 9223372036854775807) (s0_9 : Int) (ws0_9 : -9223372036854775808 ≤ s0_9 ∧ s0_9 ≤ 9223372036854775807) (g1_0 : Bool) (f1_1 : Value) (xs1_1 : List Int) (w1_1 : Lst w f1_1 xs1_1) (b1_1 : ∀ n ∈ xs1_1, -9223372036854775808 ≤ n ∧ n ≤ 9223372036854775807) (s1_2 : Int) (ws1_2 : -9223372036854775808 ≤ s1_2 ∧ s1_2 ≤ 9223372036854775807) (g1_3 : Bool) (f1_4 : Value) (xs1_4 : List Int) (w1_4 : Lst w f1_4 xs1_4) (b1_4 : ∀ n ∈ xs1_4, -9223372036854775808 ≤ n ∧ n ≤ 9223372036854775807) (s1_5 : Int) (ws1_5 : -9223372036854775808 ≤ s1_5 ∧ s1_5 ≤ 9223372036854775807) (f1_6 : Value) (xs1_6 : List Int) (w1_6 : Lst w f1_6 xs1_6) (b1_6 : ∀ n ∈ xs1_6, -9223372036854775808 ≤ n ∧ n ≤ 9223372036854775807) (g1_7 : Bool) (s1_8 : Int) (ws1_8 : -9223372036854775808 ≤ s1_8 ∧ s1_8 ≤ 9223372036854775807) (s1_9 : Int) (ws1_9 : -9223372036854775808 ≤ s1_9 ∧ s1_9 ≤ 9223372036854775807) (s1_10 : Int) (ws1_10 : -9223372036854775808 ≤ s1_10 ∧ s1_10 ≤ 9223372036854775807) (s1_11 : Int) (ws1_11 : -9223372036854775808 ≤ s1_11 ∧ s1_11 ≤ 9223372036854775807) (s1_12 : Int) (ws1_12 : -9223372036854775808 ≤ s1_12 ∧ s1_12 ≤ 9223372036854775807) (s1_13 : Int) (ws1_13 : -9223372036854775808 ≤ s1_13 ∧ s1_13 ≤ 9223372036854775807) (s1_14 : Int) (ws1_14 : -9223372036854775808 ≤ s1_14 ∧ s1_14 ≤ 9223372036854775807) (a2 : Int) (w2 : -9223372036854775808 ≤ a2 ∧ a2 ≤ 9223372036854775807) (a3 : Int) (w3 : -9223372036854775808 ≤ a3 ∧ a3 ≤ 9223372036854775807) (a4 : ByteArray) (w4 : a4.size ≤ maxLen) :
    Calls Tryz.prog 3 #[.agg #[.string t0_0, .string t0_1, .string t0_2, .int .i64 s0_3, .int .i64 s0_4, .int .i64 s0_5, .int .i64 s0_6, .int .i64 s0_7, .int .i64 s0_8, .int .i64 s0_9], .agg #[.bool g1_0, f1_1, .int .i64 s1_2, .bool g1_3, f1_4, .int .i64 s1_5, f1_6, .bool g1_7, .int .i64 s1_8, .int .i64 s1_9, .int .i64 s1_10, .int .i64 s1_11, .int .i64 s1_12, .int .i64 s1_13, .int .i64 s1_14], .int .i64 a2, .int .i64 a3, .string a4] w fun e w' => e = .returned (.bool true) ∧ Q w w' := by
  obtain ⟨ga, gb, A, B, d, n0, n1, n2, n3, n4, n5, n6, hgk, hgd⟩ := Kl.start g1_0 g1_3 g1_7 f1_1 f1_4 f1_6 s1_2 s1_5 xs1_1 xs1_4 xs1_6 s1_8 s1_9 s1_10 s1_11 s1_12 s1_13 s1_14 w w1_1 w1_4 w1_6 b1_1 b1_4 b1_6 ws1_2 ws1_5 ws1_8 ws1_9 ws1_10 ws1_11 ws1_12 ws1_13 ws1_14
  obtain ⟨al, cl, rfl⟩ := w1_1.shape
  obtain ⟨ah, ch, rfl⟩ := w1_4.shape
  obtain ⟨az, cz, rfl⟩ := w1_6.shape
  obtain ⟨ll, hll⟩ : ∃ x, x = xs1_1.length := ⟨_, rfl⟩
  obtain ⟨lh, hlh⟩ : ∃ x, x = xs1_4.length := ⟨_, rfl⟩
  obtain ⟨lz, hlz⟩ : ∃ x, x = xs1_6.length := ⟨_, rfl⟩
  rw [← hll, ← hlh, ← hlz] at hgd ⊢
  have q1 := hgk.al
  have q2 := hgk.bl
  have q3 := hgk.m0
  have q4 := hgk.m1
  have q5 := hgk.m2
  have q6 := hgk.m5
  have r0 := Dm.prt_size ga A n2
  have r1 := Dm.prt_size gb B n2
  have r2 := Dm.prt_size false [d] n2
  simp only [List.length_cons, List.length_nil] at r2
  have p0 : (Dm.prt ga A n2).size ≤ 100 := by omega
  have p1 : (Dm.prt gb B n2).size ≤ 100 := by omega
  have p2 : (Dm.prt false [d] n2).size ≤ 100 := by omega
  have p5 : Kc.In64 (n5 : Int) := by unfold Kc.In64; omega
  generalize Dm.prt ga A n2 = G0 at *
  generalize Dm.prt gb B n2 = G1 at *
  generalize Dm.prt false [d] n2 = G2 at *
  have HGD := Lib.hid hgd
  have hfs : ∀ s : ByteArray, (Ur.few s 20).size ≤ 20 := by
    intro s
    unfold Ur.few
    split
    · simp; omega
    · omega
  have HFE := Lib.hid (fun s (hs : s.size ≤ maxLen) u => ((Ur.few_any s 20 u hs (by omega)).mono fun _ _ h => ⟨h.1, by rw [h.2]; exact Q.refl _⟩ : Calls Tryz.prog 4 #[.string s, .int .i64 20] u fun e w' => e = .returned (.string (Ur.few s 20)) ∧ Q u w'))
  obtain ⟨T0, hT0⟩ : ∃ t, t = Ur.few t0_0 20 := ⟨_, rfl⟩
  obtain ⟨T1, hT1⟩ : ∃ t, t = Ur.few t0_1 20 := ⟨_, rfl⟩
  obtain ⟨T2, hT2⟩ : ∃ t, t = Ur.few t0_2 20 := ⟨_, rfl⟩
  obtain ⟨T4, hT4⟩ : ∃ t, t = Ur.few a4 20 := ⟨_, rfl⟩
  have e0 := HFE.out t0_0 z0_0
  have e1 := HFE.out t0_1 z0_1
  have e2 := HFE.out t0_2 z0_2
  have e4 := HFE.out a4 w4
  rw [← hT0] at e0
  rw [← hT1] at e1
  rw [← hT2] at e2
  rw [← hT4] at e4
  have HF0 := Lib.hid e0
  have HF1 := Lib.hid e1
  have HF2 := Lib.hid e2
  have HF4 := Lib.hid e4
  have x0 : T0.size ≤ 100 := by have := hfs t0_0; rw [← hT0] at this; omega
  have x1 : T1.size ≤ 100 := by have := hfs t0_1; rw [← hT1] at this; omega
  have x2 : T2.size ≤ 100 := by have := hfs t0_2; rw [← hT2] at this; omega
  have x4 : T4.size ≤ 100 := by have := hfs a4; rw [← hT4] at this; omega
  have x5 : Kc.In64 s0_8 := ws0_8
  obtain ⟨nz, hnz⟩ : ∃ n, n = Um.around a3 12 := ⟨_, rfl⟩
  have nb := Um.around_bd a3 12 (by omega)
  rw [← hnz] at nb
  have x6 : Kc.In64 nz := by unfold Kc.In64; omega
  have HAR := Lib.hid (fun u => (by
    refine (Ur.around_any a3 12 u w3.1 w3.2 (by omega) (by omega)).mono ?_
    rintro e w' ⟨rfl, rfl⟩
    exact ⟨by rw [hnz], Q.refl _⟩ : Calls Tryz.prog 7 #[.int .i64 a3, .int .i64 12] u fun e w' => e = .returned (.int .i64 nz) ∧ Q u w'))
  have HC1 := Lib.hid (fun u => Kc.changed_any G0 G1 G2 T4 n0 n1 n2 n3 n4 n5 n6 a2 a3 u p0 p1 p2 x4 w2 w3 p5)
  have HC2 := Lib.hid (fun u => Kc.changed_any G0 G1 G2 G1 n0 n1 n2 n3 n4 n5 n6 a2 nz u p0 p1 p2 p1 w2 x6 p5)
  have HOF := Lib.hid Kl.of_q
  have HLV := Lib.hid Kl.lives_any
  have HPA := Lib.hid (⟨x0, x1, x2, x5⟩ : _ ∧ _ ∧ _ ∧ _)
  have HPB := Lib.hid (⟨p0, p1, p2, p5⟩ : _ ∧ _ ∧ _ ∧ _)
  have HHE := Lib.hid he
  clear hll hlh hlz hgd hgk q1 q2 q3 q4 q5 q6 r0 r1 r2 hfs HFE hT0 hT1 hT2 hT4 e0 e1 e2 e4 x0 x1 x2 x4 x5 x6 p0 p1 p2 p5 hnz nb he w1_1 w1_4 w1_6 b1_1 b1_4 b1_6 ws1_2 ws1_5 ws1_8 ws1_9 ws1_10 ws1_11 ws1_12 ws1_13 ws1_14 ws0_3 ws0_4 ws0_5 ws0_6 ws0_7 ws0_8 ws0_9 w2 w3 w4 z0_0 z0_1 z0_2
  obtain ⟨y0, hy0⟩ : ∃ y, y = w.alloc (.cells #[.string t0_0, .string t0_1, .string t0_2, .int .i64 s0_3, .int .i64 s0_4, .int .i64 s0_5, .int .i64 s0_6, .int .i64 s0_7, .int .i64 s0_8, .int .i64 s0_9] 25) := ⟨_, rfl⟩
  have hq : Q w y0 := by rw [hy0]; exact (Q.refl _).alloc _
  have hb : Bk y0 (w.heap.size) 25 [.string t0_0, .string t0_1, .string t0_2, .int .i64 s0_3, .int .i64 s0_4, .int .i64 s0_5, .int .i64 s0_6, .int .i64 s0_7, .int .i64 s0_8, .int .i64 s0_9] := by rw [hy0]; exact Bk.new _ _ _
  have hs0 : y0.heap.size = w.heap.size + 1 := by rw [hy0]; simp
  have HQ := Lib.hid hq
  have HA := Lib.hid hb
  clear hq hb
  obtain ⟨y1, hy1⟩ : ∃ y, y = y0.alloc (.cells #[.bool g1_0, .slice al ll cl, .int .i64 s1_2, .bool g1_3, .slice ah lh ch, .int .i64 s1_5, .slice az lz cz, .bool g1_7, .int .i64 s1_8, .int .i64 s1_9, .int .i64 s1_10, .int .i64 s1_11, .int .i64 s1_12, .int .i64 s1_13, .int .i64 s1_14] 30) := ⟨_, rfl⟩
  have hq : Q y0 y1 := by rw [hy1]; exact (Q.refl _).alloc _
  have hb : Bk y1 (w.heap.size + 1) 30 [.bool g1_0, .slice al ll cl, .int .i64 s1_2, .bool g1_3, .slice ah lh ch, .int .i64 s1_5, .slice az lz cz, .bool g1_7, .int .i64 s1_8, .int .i64 s1_9, .int .i64 s1_10, .int .i64 s1_11, .int .i64 s1_12, .int .i64 s1_13, .int .i64 s1_14] := by rw [hy1, ← hs0]; exact Bk.new _ _ _
  have hs1 : y1.heap.size = w.heap.size + 1 + 1 := by rw [hy1]; simp; omega
  replace HQ := Lib.hid (Q.trans HQ.out hq)
  replace HA := Lib.hid (Bk.q HA.out hq)
  have HG := Lib.hid hb
  clear hq hb
  go_enter Tryz.func3, Tryz.ntmps3
  go_upto_region 1 with fail
  first | rw [← hy0, ← hy1] | (rw [hy0] at hy1; rw [← hy1])
  clear hy0 hy1 hs0 hs1
  have d0 := HA.out.cell 0 rfl
  go_wp2_with fail
  refine (HF0.out _).mono ?_
  rintro e v1 ⟨rfl, hq⟩
  clear d0
  replace HQ := Lib.hid (Q.trans HQ.out hq)
  replace HA := Lib.hid (Bk.q HA.out hq)
  replace HG := Lib.hid (Bk.q HG.out hq)
  clear hq
  have d9 := HA.out.cell 0 rfl
  have zf := HA.out.free 0
  obtain ⟨v2, hv2⟩ : ∃ y, y = v1.setCell ⟨w.heap.size, 0, none⟩ (.string T0) := ⟨_, rfl⟩
  have hq1 : Q w v2 := by rw [hv2]; exact Q.setCell HQ.out (Nat.le_refl _) _
  have ha1 : Bk v2 w.heap.size 25 [.string T0, .string t0_1, .string t0_2, .int .i64 s0_3, .int .i64 s0_4, .int .i64 s0_5, .int .i64 s0_6, .int .i64 s0_7, .int .i64 s0_8, .int .i64 s0_9] := by rw [hv2]; exact HA.out.set 0 _
  have hg1 : Bk v2 (w.heap.size + 1) 30 [.bool g1_0, .slice al ll cl, .int .i64 s1_2, .bool g1_3, .slice ah lh ch, .int .i64 s1_5, .slice az lz cz, .bool g1_7, .int .i64 s1_8, .int .i64 s1_9, .int .i64 s1_10, .int .i64 s1_11, .int .i64 s1_12, .int .i64 s1_13, .int .i64 s1_14] := by rw [hv2]; exact HG.out.past (g := w.heap.size) (i := 0) (by omega) _
  go_upto_region 2 with fail
  rw [← hv2]
  replace HQ := Lib.hid hq1
  replace HA := Lib.hid ha1
  replace HG := Lib.hid hg1
  clear hv2 hq1 ha1 hg1 d9 zf
  have d1 := HA.out.cell 1 rfl
  go_wp2_with fail
  refine (HF1.out _).mono ?_
  rintro e v3 ⟨rfl, hq⟩
  clear d1
  replace HQ := Lib.hid (Q.trans HQ.out hq)
  replace HA := Lib.hid (Bk.q HA.out hq)
  replace HG := Lib.hid (Bk.q HG.out hq)
  clear hq
  have d9 := HA.out.cell 1 rfl
  have zf := HA.out.free 1
  obtain ⟨v4, hv4⟩ : ∃ y, y = v3.setCell ⟨w.heap.size, 1, none⟩ (.string T1) := ⟨_, rfl⟩
  have hq1 : Q w v4 := by rw [hv4]; exact Q.setCell HQ.out (Nat.le_refl _) _
  have ha1 : Bk v4 w.heap.size 25 [.string T0, .string T1, .string t0_2, .int .i64 s0_3, .int .i64 s0_4, .int .i64 s0_5, .int .i64 s0_6, .int .i64 s0_7, .int .i64 s0_8, .int .i64 s0_9] := by rw [hv4]; exact HA.out.set 1 _
  have hg1 : Bk v4 (w.heap.size + 1) 30 [.bool g1_0, .slice al ll cl, .int .i64 s1_2, .bool g1_3, .slice ah lh ch, .int .i64 s1_5, .slice az lz cz, .bool g1_7, .int .i64 s1_8, .int .i64 s1_9, .int .i64 s1_10, .int .i64 s1_11, .int .i64 s1_12, .int .i64 s1_13, .int .i64 s1_14] := by rw [hv4]; exact HG.out.past (g := w.heap.size) (i := 1) (by omega) _
  go_upto_region 3 with fail
  rw [← hv4]
  replace HQ := Lib.hid hq1
  replace HA := Lib.hid ha1
  replace HG := Lib.hid hg1
  clear hv4 hq1 ha1 hg1 d9 zf
  have d2 := HA.out.cell 2 rfl
  go_wp2_with fail
  refine (HF2.out _).mono ?_
  rintro e v5 ⟨rfl, hq⟩
  clear d2
  replace HQ := Lib.hid (Q.trans HQ.out hq)
  replace HA := Lib.hid (Bk.q HA.out hq)
  replace HG := Lib.hid (Bk.q HG.out hq)
  clear hq
  have d9 := HA.out.cell 2 rfl
  have zf := HA.out.free 2
  obtain ⟨v6, hv6⟩ : ∃ y, y = v5.setCell ⟨w.heap.size, 2, none⟩ (.string T2) := ⟨_, rfl⟩
  have hq1 : Q w v6 := by rw [hv6]; exact Q.setCell HQ.out (Nat.le_refl _) _
  have ha1 : Bk v6 w.heap.size 25 [.string T0, .string T1, .string T2, .int .i64 s0_3, .int .i64 s0_4, .int .i64 s0_5, .int .i64 s0_6, .int .i64 s0_7, .int .i64 s0_8, .int .i64 s0_9] := by rw [hv6]; exact HA.out.set 2 _
  have hg1 : Bk v6 (w.heap.size + 1) 30 [.bool g1_0, .slice al ll cl, .int .i64 s1_2, .bool g1_3, .slice ah lh ch, .int .i64 s1_5, .slice az lz cz, .bool g1_7, .int .i64 s1_8, .int .i64 s1_9, .int .i64 s1_10, .int .i64 s1_11, .int .i64 s1_12, .int .i64 s1_13, .int .i64 s1_14] := by rw [hv6]; exact HG.out.past (g := w.heap.size) (i := 2) (by omega) _
  go_upto_region 4 with fail
  rw [← hv6]
  replace HQ := Lib.hid hq1
  replace HA := Lib.hid ha1
  replace HG := Lib.hid hg1
  clear hv6 hq1 ha1 hg1 d9 zf
  go_wp2_with (refine wpList_load_row (by rfl) 30 _ (by rfl) (w.heap.size + 1) (by rfl) 30 #[.bool g1_0, .slice al ll cl, .int .i64 s1_2, .bool g1_3, .slice ah lh ch, .int .i64 s1_5, .slice az lz cz, .bool g1_7, .int .i64 s1_8, .int .i64 s1_9, .int .i64 s1_10, .int .i64 s1_11, .int .i64 s1_12, .int .i64 s1_13, .int .i64 s1_14] (0, 0) _ HG.out Tryz.underlying30 rfl (by exact Kc.infoG) ?_)
  refine (HGD.out _ HQ.out).mono ?_
  rintro e v7 ⟨rfl, hq⟩
  replace HQ := Lib.hid (Q.trans HQ.out hq)
  replace HA := Lib.hid (Bk.q HA.out hq)
  replace HG := Lib.hid (Bk.q HG.out hq)
  clear hq
  obtain ⟨v8, hv8⟩ : ∃ y, y = v7.alloc (.cells #[.string G0, .string G1, .string G2, .int .i64 (n0 : Nat), .int .i64 (n1 : Nat), .int .i64 (n2 : Nat), .int .i64 (n3 : Nat), .int .i64 (n4 : Nat), .int .i64 (n5 : Nat), .int .i64 (n6 : Nat)] 25) := ⟨_, rfl⟩
  have hqb : Q v7 v8 := by rw [hv8]; exact (Q.refl _).alloc _
  have hbx : Bk v8 v7.heap.size 25 [.string G0, .string G1, .string G2, .int .i64 (n0 : Nat), .int .i64 (n1 : Nat), .int .i64 (n2 : Nat), .int .i64 (n3 : Nat), .int .i64 (n4 : Nat), .int .i64 (n5 : Nat), .int .i64 (n6 : Nat)] := by rw [hv8]; exact Bk.new _ _ _
  obtain ⟨bgd, hbgd⟩ : ∃ b, b = v7.heap.size := ⟨_, rfl⟩
  rw [← hbgd] at hbx
  replace HQ := Lib.hid (Q.trans HQ.out hqb)
  replace HA := Lib.hid (Bk.q HA.out hqb)
  replace HG := Lib.hid (Bk.q HG.out hqb)
  have HBgd := Lib.hid hbx
  clear hqb hbx
  go_upto_region 5 with fail
  rw [← hv8, ← hbgd]
  clear hv8 hbgd
  go_cut [12] (fun sl wx => ∃ b c20 c21 c22 j20 j21 j22 j23 j24 j25 j26 c30 c31 c32 j30 j31 j32 j33 j34 j35 j36, sl = .slice (some ⟨b, 0, none⟩) 4 4 ∧ Bk wx b 25 [.string T0, .string T1, .string T2, .int .i64 s0_3, .int .i64 s0_4, .int .i64 s0_5, .int .i64 s0_6, .int .i64 s0_7, .int .i64 s0_8, .int .i64 s0_9, .string G0, .string G1, .string G2, .int .i64 (n0 : Nat), .int .i64 (n1 : Nat), .int .i64 (n2 : Nat), .int .i64 (n3 : Nat), .int .i64 (n4 : Nat), .int .i64 (n5 : Nat), .int .i64 (n6 : Nat), .string c20, .string c21, .string c22, .int .i64 j20, .int .i64 j21, .int .i64 j22, .int .i64 j23, .int .i64 j24, .int .i64 j25, .int .i64 j26, .string c30, .string c31, .string c32, .int .i64 j30, .int .i64 j31, .int .i64 j32, .int .i64 j33, .int .i64 j34, .int .i64 j35, .int .i64 j36] ∧ (c20.size ≤ 100 ∧ c21.size ≤ 100 ∧ c22.size ≤ 100 ∧ Kc.In64 j25) ∧ (c30.size ≤ 100 ∧ c31.size ≤ 100 ∧ c32.size ≤ 100 ∧ Kc.In64 j35) ∧ Q v8 wx)
  case first =>
    refine wp_region_held_drew (S := fun u => Q v8 u) (by kernel_rfl) (by exact (Q.refl v8).drew) (fun hHeld => ?_)
    have hS : Q v8 v8.drew := hHeld
    clear hHeld
    have hq : Q v8 v8.drew := (Q.refl _).drew
    clear hq
    generalize v8.drew = yR1x0 at *
    change wpAnyH _ _ _ _ _ _ #[ff,ff,ff,ff,ff,ff,ff,ff,ff,ff,ff,ff,ff,ff,ff,ff,ff] _ _
    refine wpAnyH_take (i := 0) (v := ?vR1x1) (by (try simp only [gA, gB, gC]); rfl) (by kernel_rfl) (by kernel_rfl) (by kernel_rfl) (by exact fun _ _ _ h => h) (Or.inl ⟨by first | kernel_rfl | rfl, ?hyR1x1⟩) (by exact hS) ?rsR1x1
    case hyR1x1 => (intro uz hSw; (try dsimp only at hSw); refine ld_row (x := .tmp 5) ?_ ?_ (Bk.q HA.out hSw) Tryz.underlying25 (by exact Kc.infoC) <;> rfl)
    try simp only [Act.put, sA, sB, sC]
    change wpAnyH _ _ _ _ _ _ #[tt,ff,ff,ff,ff,ff,ff,ff,ff,ff,ff,ff,ff,ff,ff,ff,ff] _ _
    refine wpAnyH_take (i := 1) (v := ?vR1x2) (by (try simp only [gA, gB, gC]); rfl) (by kernel_rfl) (by kernel_rfl) (by kernel_rfl) (by exact fun _ _ _ h => h) (Or.inl ⟨by first | kernel_rfl | rfl, ?hyR1x2⟩) (by exact hS) ?rsR1x2
    case hyR1x2 => (intro uz hSw; (try dsimp only at hSw); refine ld_row (x := .tmp 11) ?_ ?_ (Bk.q HBgd.out hSw) Tryz.underlying25 (by exact Kc.infoC) <;> rfl)
    try simp only [Act.put, sA, sB, sC]
    change wpAnyH _ _ _ _ _ _ #[tt,tt,ff,ff,ff,ff,ff,ff,ff,ff,ff,ff,ff,ff,ff,ff,ff] _ _
    refine wpAnyH_take (i := 2) (v := ?vR1x3) (by (try simp only [gA, gB, gC]); rfl) (by kernel_rfl) (by kernel_rfl) (by kernel_rfl) (by exact fun _ _ _ h => h) (Or.inl ⟨by first | kernel_rfl | rfl, ?hyR1x3⟩) (by exact hS) ?rsR1x3
    case hyR1x3 => (intro uz hSw; (try dsimp only at hSw); refine ld_row (x := .tmp 11) ?_ ?_ (Bk.q HBgd.out hSw) Tryz.underlying25 (by exact Kc.infoC) <;> rfl)
    try simp only [Act.put, sA, sB, sC]
    change wpAnyH _ _ _ _ _ _ #[tt,tt,tt,ff,ff,ff,ff,ff,ff,ff,ff,ff,ff,ff,ff,ff,ff] _ _
    refine wpAnyH_take (i := 3) (v := ?vR1x4) (by (try simp only [gA, gB, gC]); rfl) (by kernel_rfl) (by kernel_rfl) (by kernel_rfl) (by exact fun _ _ _ h => h) (Or.inl ⟨by first | kernel_rfl | rfl, ?hyR1x4⟩) (by exact hS) ?rsR1x4
    case hyR1x4 => (intro uz hSw; (try dsimp only at hSw); go_simp; try with_reducible rfl)
    try simp only [Act.put, sA, sB, sC]
    change wpAnyH _ _ _ _ _ _ #[tt,tt,tt,tt,ff,ff,ff,ff,ff,ff,ff,ff,ff,ff,ff,ff,ff] _ _
    refine wpAnyH_take (i := 4) (v := ?vR1x5) (by (try simp only [gA, gB, gC]); rfl) (by kernel_rfl) (by kernel_rfl) (by kernel_rfl) (by exact fun _ _ _ h => h) (Or.inl ⟨by first | kernel_rfl | rfl, ?hyR1x5⟩) (by exact hS) ?rsR1x5
    case hyR1x5 => (intro uz hSw; (try dsimp only at hSw); go_simp; try with_reducible rfl)
    try simp only [Act.put, sA, sB, sC]
    change wpAnyH _ _ _ _ _ _ #[tt,tt,tt,tt,tt,ff,ff,ff,ff,ff,ff,ff,ff,ff,ff,ff,ff] _ _
    refine wpAnyH_take (i := 5) (v := ?vR1x6) (by (try simp only [gA, gB, gC]); rfl) (by kernel_rfl) (by kernel_rfl) (by kernel_rfl) (by exact fun _ _ _ h => h) (Or.inl ⟨by first | kernel_rfl | rfl, ?hyR1x6⟩) (by exact hS) ?rsR1x6
    case hyR1x6 => (intro uz hSw; (try dsimp only at hSw); go_simp; try with_reducible rfl)
    try simp only [Act.put, sA, sB, sC]
    change wpAnyH _ _ _ _ _ _ #[tt,tt,tt,tt,tt,tt,ff,ff,ff,ff,ff,ff,ff,ff,ff,ff,ff] _ _
    refine wpAnyH_take (i := 8) (v := ?vR1x7) (by (try simp only [gA, gB, gC]); rfl) (by kernel_rfl) (by kernel_rfl) (by kernel_rfl) (by exact fun _ _ _ h => h) (Or.inl ⟨by first | kernel_rfl | rfl, ?hyR1x7⟩) (by exact hS) ?rsR1x7
    case hyR1x7 => (intro uz hSw; (try dsimp only at hSw); refine ld_row (x := .tmp 11) ?_ ?_ (Bk.q HBgd.out hSw) Tryz.underlying25 (by exact Kc.infoC) <;> rfl)
    try simp only [Act.put, sA, sB, sC]
    change wpAnyH _ _ _ _ _ _ #[tt,tt,tt,tt,tt,tt,ff,ff,tt,ff,ff,ff,ff,ff,ff,ff,ff] _ _
    refine wpAnyH_take (i := 9) (v := ?vR1x8) (by (try simp only [gA, gB, gC]); rfl) (by kernel_rfl) (by kernel_rfl) (by kernel_rfl) (by exact fun _ _ _ h => h) (Or.inl ⟨by first | kernel_rfl | rfl, ?hyR1x8⟩) (by exact hS) ?rsR1x8
    case hyR1x8 => (intro uz hSw; (try dsimp only at hSw); go_simp; try with_reducible rfl)
    try simp only [Act.put, sA, sB, sC]
    change wpAnyH _ _ _ _ _ _ #[tt,tt,tt,tt,tt,tt,ff,ff,tt,tt,ff,ff,ff,ff,ff,ff,ff] _ _
    refine wpAnyH_take (i := 10) (v := ?vR1x9) (by (try simp only [gA, gB, gC]); rfl) (by kernel_rfl) (by kernel_rfl) (by kernel_rfl) (by exact fun _ _ _ h => h) (Or.inl ⟨by first | kernel_rfl | rfl, ?hyR1x9⟩) (by exact hS) ?rsR1x9
    case hyR1x9 => (intro uz hSw; (try dsimp only at hSw); go_simp; try with_reducible rfl)
    try simp only [Act.put, sA, sB, sC]
    change wpAnyH _ _ _ _ _ _ #[tt,tt,tt,tt,tt,tt,ff,ff,tt,tt,tt,ff,ff,ff,ff,ff,ff] _ _
    refine wpAnyH_take (i := 12) (v := ?vR1x10) (by (try simp only [gA, gB, gC]); rfl) (by kernel_rfl) (by kernel_rfl) (by kernel_rfl) (by exact fun _ _ _ h => h) (Or.inl ⟨by first | kernel_rfl | rfl, ?hyR1x10⟩) (by exact hS) ?rsR1x10
    case hyR1x10 => (intro uz hSw; (try dsimp only at hSw); go_simp; try with_reducible rfl)
    try simp only [Act.put, sA, sB, sC]
    change wpAnyH _ _ _ _ _ _ #[tt,tt,tt,tt,tt,tt,ff,ff,tt,tt,tt,ff,tt,ff,ff,ff,ff] _ _
    refine wpAnyH_take (i := 13) (v := ?vR1x11) (by (try simp only [gA, gB, gC]); rfl) (by kernel_rfl) (by kernel_rfl) (by kernel_rfl) (by exact fun _ _ _ h => h) (Or.inl ⟨by first | kernel_rfl | rfl, ?hyR1x11⟩) (by exact hS) ?rsR1x11
    case hyR1x11 => (intro uz hSw; (try dsimp only at hSw); have hxx := HBgd.out.q hSw; have d1 := hxx.cell 1 rfl; clear hxx; go_simp; try with_reducible rfl)
    try simp only [Act.put, sA, sB, sC]
    change wpAnyH _ _ _ _ _ _ #[tt,tt,tt,tt,tt,tt,ff,ff,tt,tt,tt,ff,tt,tt,ff,ff,ff] _ _
    refine wpAnyH_ready (rs := [6]) (by kernel_rfl) (by simp) ?_
    refine (AllReadyH.cons (by (try simp only [gA, gB, gC]); rfl) (fun K hK => ?_) AllReadyH.nil)
    go_simp
    refine (HF4.out _).mono ?_
    rintro e yR1x12 ⟨rfl, hq⟩
    try (go_wp2_with fail)
    have hS2 := Q.trans hS hq
    refine hK.out _ _ (by exact hS2) (fun hHeld => ?_)
    clear hK K hHeld hS hq
    have hS := hS2
    clear hS2
    try simp only [Act.put, sA, sB, sC]
    change wpAnyH _ _ _ _ _ _ #[tt,tt,tt,tt,tt,tt,tt,ff,tt,tt,tt,ff,tt,tt,ff,ff,ff] _ _
    refine wpAnyH_ready (rs := [7]) (by kernel_rfl) (by simp) ?_
    refine (AllReadyH.cons (by (try simp only [gA, gB, gC]); rfl) (fun K hK => ?_) AllReadyH.nil)
    go_simp
    refine (HC1.out _).mono ?_
    rintro e yR1x13 ⟨⟨c20, c21, c22, j20, j21, j22, j23, j24, j25, j26, rfl, hz0, hz1, hz2, hz5⟩, hq⟩
    have HZ2 := Lib.hid (⟨hz0, hz1, hz2, hz5⟩ : _ ∧ _ ∧ _ ∧ _)
    clear hz0 hz1 hz2 hz5
    try (go_wp2_with fail)
    have hS2 := Q.trans hS hq
    refine hK.out _ _ (by exact hS2) (fun hHeld => ?_)
    clear hK K hHeld hS hq
    have hS := hS2
    clear hS2
    try simp only [Act.put, sA, sB, sC]
    change wpAnyH _ _ _ _ _ _ #[tt,tt,tt,tt,tt,tt,tt,tt,tt,tt,tt,ff,tt,tt,ff,ff,ff] _ _
    refine wpAnyH_ready (rs := [11]) (by kernel_rfl) (by simp) ?_
    refine (AllReadyH.cons (by (try simp only [gA, gB, gC]); rfl) (fun K hK => ?_) AllReadyH.nil)
    go_simp
    refine (HAR.out _).mono ?_
    rintro e yR1x14 ⟨rfl, hq⟩
    try (go_wp2_with fail)
    have hS2 := Q.trans hS hq
    refine hK.out _ _ (by exact hS2) (fun hHeld => ?_)
    clear hK K hHeld hS hq
    have hS := hS2
    clear hS2
    try simp only [Act.put, sA, sB, sC]
    change wpAnyH _ _ _ _ _ _ #[tt,tt,tt,tt,tt,tt,tt,tt,tt,tt,tt,tt,tt,tt,ff,ff,ff] _ _
    refine wpAnyH_ready (rs := [14]) (by kernel_rfl) (by simp) ?_
    refine (AllReadyH.cons (by (try simp only [gA, gB, gC]); rfl) (fun K hK => ?_) AllReadyH.nil)
    go_simp
    refine (HC2.out _).mono ?_
    rintro e yR1x15 ⟨⟨c30, c31, c32, j30, j31, j32, j33, j34, j35, j36, rfl, hz0, hz1, hz2, hz5⟩, hq⟩
    have HZ3 := Lib.hid (⟨hz0, hz1, hz2, hz5⟩ : _ ∧ _ ∧ _ ∧ _)
    clear hz0 hz1 hz2 hz5
    try (go_wp2_with fail)
    have hS2 := Q.trans hS hq
    refine hK.out _ _ (by exact hS2) (fun hHeld => ?_)
    clear hK K hHeld hS hq
    have hS := hS2
    clear hS2
    try simp only [Act.put, sA, sB, sC]
    change wpAnyH _ _ _ _ _ _ #[tt,tt,tt,tt,tt,tt,tt,tt,tt,tt,tt,tt,tt,tt,tt,ff,ff] _ _
    refine wpAnyH_ready (rs := [15]) (by kernel_rfl) (by simp) ?_
    refine (AllReadyH.cons (by (try simp only [gA, gB, gC]); rfl) (fun K hK => ?_) AllReadyH.nil)
    go_simp
    have hq := (Q.refl yR1x15).alloc (.cells #[.string T0, .string T1, .string T2, .int .i64 s0_3, .int .i64 s0_4, .int .i64 s0_5, .int .i64 s0_6, .int .i64 s0_7, .int .i64 s0_8, .int .i64 s0_9, .string G0, .string G1, .string G2, .int .i64 (n0 : Nat), .int .i64 (n1 : Nat), .int .i64 (n2 : Nat), .int .i64 (n3 : Nat), .int .i64 (n4 : Nat), .int .i64 (n5 : Nat), .int .i64 (n6 : Nat), .string c20, .string c21, .string c22, .int .i64 j20, .int .i64 j21, .int .i64 j22, .int .i64 j23, .int .i64 j24, .int .i64 j25, .int .i64 j26, .string c30, .string c31, .string c32, .int .i64 j30, .int .i64 j31, .int .i64 j32, .int .i64 j33, .int .i64 j34, .int .i64 j35, .int .i64 j36] 25)
    have HBX := Lib.hid (Bk.new yR1x15 25 [.string T0, .string T1, .string T2, .int .i64 s0_3, .int .i64 s0_4, .int .i64 s0_5, .int .i64 s0_6, .int .i64 s0_7, .int .i64 s0_8, .int .i64 s0_9, .string G0, .string G1, .string G2, .int .i64 (n0 : Nat), .int .i64 (n1 : Nat), .int .i64 (n2 : Nat), .int .i64 (n3 : Nat), .int .i64 (n4 : Nat), .int .i64 (n5 : Nat), .int .i64 (n6 : Nat), .string c20, .string c21, .string c22, .int .i64 j20, .int .i64 j21, .int .i64 j22, .int .i64 j23, .int .i64 j24, .int .i64 j25, .int .i64 j26, .string c30, .string c31, .string c32, .int .i64 j30, .int .i64 j31, .int .i64 j32, .int .i64 j33, .int .i64 j34, .int .i64 j35, .int .i64 j36])
    have HW_bX := Lib.hid (Q.le hS)
    have hS2 := Q.trans hS hq
    refine hK.out _ _ (by exact hS2) (fun hHeld => ?_)
    clear hK K hHeld hS hq
    have hS := hS2
    clear hS2
    generalize yR1x15.alloc (.cells #[.string T0, .string T1, .string T2, .int .i64 s0_3, .int .i64 s0_4, .int .i64 s0_5, .int .i64 s0_6, .int .i64 s0_7, .int .i64 s0_8, .int .i64 s0_9, .string G0, .string G1, .string G2, .int .i64 (n0 : Nat), .int .i64 (n1 : Nat), .int .i64 (n2 : Nat), .int .i64 (n3 : Nat), .int .i64 (n4 : Nat), .int .i64 (n5 : Nat), .int .i64 (n6 : Nat), .string c20, .string c21, .string c22, .int .i64 j20, .int .i64 j21, .int .i64 j22, .int .i64 j23, .int .i64 j24, .int .i64 j25, .int .i64 j26, .string c30, .string c31, .string c32, .int .i64 j30, .int .i64 j31, .int .i64 j32, .int .i64 j33, .int .i64 j34, .int .i64 j35, .int .i64 j36] 25) = yR1x16 at *
    generalize yR1x15.heap.size = bX at *
    try simp only [Act.put, sA, sB, sC]
    change wpAnyH _ _ _ _ _ _ #[tt,tt,tt,tt,tt,tt,tt,tt,tt,tt,tt,tt,tt,tt,tt,tt,ff] _ _
    refine wpAnyH_take (i := 16) (v := ?vR1x17) (by (try simp only [gA, gB, gC]); rfl) (by kernel_rfl) (by kernel_rfl) (by kernel_rfl) (by exact fun _ _ _ h => h) (Or.inl ⟨by first | kernel_rfl | rfl, ?hyR1x17⟩) (by exact hS) ?rsR1x17
    case hyR1x17 => (intro uz hSw; (try dsimp only at hSw); go_simp; try with_reducible rfl)
    try simp only [Act.put, sA, sB, sC]
    change wpAnyH _ _ _ _ _ _ #[tt,tt,tt,tt,tt,tt,tt,tt,tt,tt,tt,tt,tt,tt,tt,tt,tt] _ _
    refine wpAnyH_done (by kernel_rfl) ?_ _
    go_wp2_with fail
    go_meet
    exact ⟨bX, c20, c21, c22, j20, j21, j22, j23, j24, j25, j26, c30, c31, c32, j30, j31, j32, j33, j34, j35, j36, rfl, HBX.out, HZ2.out, HZ3.out, hS⟩
  case rest =>
    obtain ⟨ba, c20, c21, c22, j20, j21, j22, j23, j24, j25, j26, c30, c31, c32, j30, j31, j32, j33, j34, j35, j36, rfl, hbx, hz2, hz3, hqc⟩ := hcut
    obtain ⟨v8n, hv8n⟩ : ∃ x, x = wc := ⟨_, rfl⟩
    subst hv8n
    replace HQ := Lib.hid (Q.trans HQ.out hqc)
    replace HA := Lib.hid (Bk.q HA.out hqc)
    replace HG := Lib.hid (Bk.q HG.out hqc)
    replace HBgd := Lib.hid (Bk.q HBgd.out hqc)
    have HBa := Lib.hid hbx
    have HZ2 := Lib.hid hz2
    have HZ3 := Lib.hid hz3
    clear hbx hz2 hz3 hqc
    have HEL := Lib.hid (fun (i : Nat) (hi : i < 4) => (by
      have hx := HBa.out
      rcases i with _ | _ | _ | _ | i
      · exact ⟨T0, T1, T2, s0_3, s0_4, s0_5, s0_6, s0_7, s0_8, s0_9, ⟨hx.cell 0 rfl, hx.cell 1 rfl, hx.cell 2 rfl, hx.cell 3 rfl, hx.cell 4 rfl, hx.cell 5 rfl, hx.cell 6 rfl, hx.cell 7 rfl, hx.cell 8 rfl, hx.cell 9 rfl⟩, HPA.out⟩
      · exact ⟨G0, G1, G2, (n0 : Nat), (n1 : Nat), (n2 : Nat), (n3 : Nat), (n4 : Nat), (n5 : Nat), (n6 : Nat), ⟨hx.cell 10 rfl, hx.cell 11 rfl, hx.cell 12 rfl, hx.cell 13 rfl, hx.cell 14 rfl, hx.cell 15 rfl, hx.cell 16 rfl, hx.cell 17 rfl, hx.cell 18 rfl, hx.cell 19 rfl⟩, HPB.out⟩
      · exact ⟨c20, c21, c22, j20, j21, j22, j23, j24, j25, j26, ⟨hx.cell 20 rfl, hx.cell 21 rfl, hx.cell 22 rfl, hx.cell 23 rfl, hx.cell 24 rfl, hx.cell 25 rfl, hx.cell 26 rfl, hx.cell 27 rfl, hx.cell 28 rfl, hx.cell 29 rfl⟩, HZ2.out⟩
      · exact ⟨c30, c31, c32, j30, j31, j32, j33, j34, j35, j36, ⟨hx.cell 30 rfl, hx.cell 31 rfl, hx.cell 32 rfl, hx.cell 33 rfl, hx.cell 34 rfl, hx.cell 35 rfl, hx.cell 36 rfl, hx.cell 37 rfl, hx.cell 38 rfl, hx.cell 39 rfl⟩, HZ3.out⟩
      · omega : ∃ (t0 t1 t2 : ByteArray) (i0 i1 i2 i3 i4 i5 i6 : Int), (v8n.cell? ⟨ba, i * 10, none⟩ = some (.string t0) ∧ v8n.cell? ⟨ba, i * 10 + 1, none⟩ = some (.string t1) ∧ v8n.cell? ⟨ba, i * 10 + 2, none⟩ = some (.string t2) ∧ v8n.cell? ⟨ba, i * 10 + 3, none⟩ = some (.int .i64 i0) ∧ v8n.cell? ⟨ba, i * 10 + 4, none⟩ = some (.int .i64 i1) ∧ v8n.cell? ⟨ba, i * 10 + 5, none⟩ = some (.int .i64 i2) ∧ v8n.cell? ⟨ba, i * 10 + 6, none⟩ = some (.int .i64 i3) ∧ v8n.cell? ⟨ba, i * 10 + 7, none⟩ = some (.int .i64 i4) ∧ v8n.cell? ⟨ba, i * 10 + 8, none⟩ = some (.int .i64 i5) ∧ v8n.cell? ⟨ba, i * 10 + 9, none⟩ = some (.int .i64 i6)) ∧ t0.size ≤ 100 ∧ t1.size ≤ 100 ∧ t2.size ≤ 100 ∧ Kc.In64 i5))
    have HBL := Lib.hid HBa.out.lt
    have HQV := Lib.hid HQ.out
    clear HQ HA HG HBgd HBa HZ2 HZ3
    go_wp2_with fail
    go_loopw [13] (fun t wr => ∃ i : Nat, t = .int .i64 i ∧ i ≤ 4 ∧ Q v8n wr) (fun t _ => 4 - (intOf t).toNat)
    case atStart => exact ⟨0, rfl, by omega, Q.refl _⟩
    case round =>
      obtain ⟨i, rfl, hi, hq⟩ := hrel
      have HQ1 := Lib.hid hq
      clear hq
      by_cases hi4 : i < 4
      · obtain ⟨t0, t1, t2, i0, i1, i2, i3, i4, i5, i6, hc, hh0, hh1, hh2, hh5⟩ := HEL.out i hi4
        have HC := Lib.hid (fun u (q : Q v8n u) => (⟨((World.cell?_of_block (w := v8n) (q.block HBL.out)).trans hc.1), ((World.cell?_of_block (w := v8n) (q.block HBL.out)).trans hc.2.1), ((World.cell?_of_block (w := v8n) (q.block HBL.out)).trans hc.2.2.1), ((World.cell?_of_block (w := v8n) (q.block HBL.out)).trans hc.2.2.2.1), ((World.cell?_of_block (w := v8n) (q.block HBL.out)).trans hc.2.2.2.2.1), ((World.cell?_of_block (w := v8n) (q.block HBL.out)).trans hc.2.2.2.2.2.1), ((World.cell?_of_block (w := v8n) (q.block HBL.out)).trans hc.2.2.2.2.2.2.1), ((World.cell?_of_block (w := v8n) (q.block HBL.out)).trans hc.2.2.2.2.2.2.2.1), ((World.cell?_of_block (w := v8n) (q.block HBL.out)).trans hc.2.2.2.2.2.2.2.2.1), ((World.cell?_of_block (w := v8n) (q.block HBL.out)).trans hc.2.2.2.2.2.2.2.2.2)⟩ : _ ∧ _ ∧ _ ∧ _ ∧ _ ∧ _ ∧ _ ∧ _ ∧ _ ∧ _))
        obtain ⟨g1, g2, g3, sg, k1, k2, k3, s1, s2, s3, j0, j1, j2, j3, j4, j5, j6, Z1, Z2, Z3, wh, c, hzl, hP, hD⟩ := Kc.both t0 t1 t2 i0 i1 i2 i3 i4 i5 i6 hh0 hh1 hh2 hh5
        have HP := Lib.hid hP
        have HD := Lib.hid hD
        have HZL := Lib.hid hzl
        have hi4i : (i : Int) < 4 := by omega
        have HSL := Lib.hid (fun u (s : ByteArray) => GLst.made Value.string 9 u [s] 1 rfl (by unfold maxLen; omega))
        clear hc hh0 hh1 hh2 hh5 hP hD hzl
        have HQ2 := Lib.hid HQ1.out
        go_upto_region 9 with fail
        obtain ⟨d0, d1, d2, d3, d4, d5, d6, d7, d8, d9⟩ := HC.out _ HQ2.out
        go_wp2_with fail
        refine (HOF.out _ _ _ _ _ _ _ _ _ _ _).mono ?_
        rintro e v9 ⟨rfl, hq⟩
        clear d0 d1 d2 d3 d4 d5 d6 d7 d8 d9
        replace HQ2 := Lib.hid (Q.trans HQ2.out hq)
        clear hq
        go_wp2_with fail
        refine (HP.out _).mono ?_
        rintro e v10 ⟨a1, ay1, a2, ay2, a3, ay3, x, rfl, ⟨hl1, hl2, hl3⟩, hx, hq⟩
        replace HQ2 := Lib.hid (Q.trans HQ2.out hq)
        have HL1 := Lib.hid hl1
        have HL2 := Lib.hid hl2
        have HL3 := Lib.hid hl3
        have HX := Lib.hid hx
        clear hq hl1 hl2 hl3 hx
        obtain ⟨v11, hv11⟩ : ∃ y, y = v10.alloc (.cells #[.bool g1, .slice a1 k1 ay1, .int .i64 s1, .bool g2, .slice a2 k2 ay2, .int .i64 s2, .bool g3, .slice a3 k3 ay3, .int .i64 s3, .bool sg, .int .i64 j0, .int .i64 j1, .int .i64 j2, .int .i64 j3, .int .i64 j4, .int .i64 j5, .int .i64 j6] 39) := ⟨_, rfl⟩
        have hqb : Q v10 v11 := by rw [hv11]; exact (Q.refl _).alloc _
        have hbx : Bk v11 v10.heap.size 39 [.bool g1, .slice a1 k1 ay1, .int .i64 s1, .bool g2, .slice a2 k2 ay2, .int .i64 s2, .bool g3, .slice a3 k3 ay3, .int .i64 s3, .bool sg, .int .i64 j0, .int .i64 j1, .int .i64 j2, .int .i64 j3, .int .i64 j4, .int .i64 j5, .int .i64 j6] := by rw [hv11]; exact Bk.new _ _ _
        obtain ⟨brr, hbrr⟩ : ∃ b, b = v10.heap.size := ⟨_, rfl⟩
        rw [← hbrr] at hbx
        replace HQ2 := Lib.hid (Q.trans HQ2.out hqb)
        replace HL1 := Lib.hid (Lst.q HL1.out hqb)
        replace HL2 := Lib.hid (Lst.q HL2.out hqb)
        replace HL3 := Lib.hid (Lst.q HL3.out hqb)
        replace HX := Lib.hid (Kc.hx_q hqb HX.out)
        have HBrr := Lib.hid hbx
        clear hqb hbx
        go_upto_region 10 with fail
        rw [← hv11, ← hbrr]
        clear hv11 hbrr
        obtain ⟨d0, d1, d2, d3, d4, d5, d6, d7, d8, d9⟩ := HC.out _ HQ2.out
        go_wp2_with fail
        refine (HD.out _).mono ?_
        rintro e v12 ⟨x1, xy1, x2, xy2, x3, xy3, rfl, ⟨hl1, hl2, hl3⟩, hq⟩
        clear d0 d1 d2 d3 d4 d5 d6 d7 d8 d9
        replace HQ2 := Lib.hid (Q.trans HQ2.out hq)
        replace HL1 := Lib.hid (Lst.q HL1.out hq)
        replace HL2 := Lib.hid (Lst.q HL2.out hq)
        replace HL3 := Lib.hid (Lst.q HL3.out hq)
        replace HX := Lib.hid (Kc.hx_q hq HX.out)
        replace HBrr := Lib.hid (Bk.q HBrr.out hq)
        have HM1 := Lib.hid hl1
        have HM2 := Lib.hid hl2
        have HM3 := Lib.hid hl3
        clear hq hl1 hl2 hl3
        obtain ⟨v13, hv13⟩ : ∃ y, y = v12.alloc (.cells #[.bool g1, .slice x1 k1 xy1, .int .i64 s1, .bool g2, .slice x2 k2 xy2, .int .i64 s2, .bool g3, .slice x3 k3 xy3, .int .i64 s3, .bool sg, .int .i64 j0, .int .i64 j1, .int .i64 j2, .int .i64 j3, .int .i64 j4, .int .i64 j5, .int .i64 j6] 48) := ⟨_, rfl⟩
        have hqb : Q v12 v13 := by rw [hv13]; exact (Q.refl _).alloc _
        have hbx : Bk v13 v12.heap.size 48 [.bool g1, .slice x1 k1 xy1, .int .i64 s1, .bool g2, .slice x2 k2 xy2, .int .i64 s2, .bool g3, .slice x3 k3 xy3, .int .i64 s3, .bool sg, .int .i64 j0, .int .i64 j1, .int .i64 j2, .int .i64 j3, .int .i64 j4, .int .i64 j5, .int .i64 j6] := by rw [hv13]; exact Bk.new _ _ _
        obtain ⟨bww, hbww⟩ : ∃ b, b = v12.heap.size := ⟨_, rfl⟩
        rw [← hbww] at hbx
        replace HQ2 := Lib.hid (Q.trans HQ2.out hqb)
        replace HL1 := Lib.hid (Lst.q HL1.out hqb)
        replace HL2 := Lib.hid (Lst.q HL2.out hqb)
        replace HL3 := Lib.hid (Lst.q HL3.out hqb)
        replace HX := Lib.hid (Kc.hx_q hqb HX.out)
        replace HBrr := Lib.hid (Bk.q HBrr.out hqb)
        replace HM1 := Lib.hid (Lst.q HM1.out hqb)
        replace HM2 := Lib.hid (Lst.q HM2.out hqb)
        replace HM3 := Lib.hid (Lst.q HM3.out hqb)
        have HBww := Lib.hid hbx
        clear hqb hbx
        go_upto_region 11 with fail
        rw [← hv13, ← hbww]
        clear hv13 hbww
        rcases HX.out with ⟨rfl, rfl⟩ | ⟨hc, hx⟩
        · clear HX
          go_wp2_with fail
          refine (Fe.code_nil _).mono ?_
          rintro e v14 ⟨rfl, hq⟩
          replace HQ2 := Lib.hid (Q.trans HQ2.out hq)
          replace HL1 := Lib.hid (Lst.q HL1.out hq)
          replace HL2 := Lib.hid (Lst.q HL2.out hq)
          replace HL3 := Lib.hid (Lst.q HL3.out hq)
          replace HBrr := Lib.hid (Bk.q HBrr.out hq)
          replace HM1 := Lib.hid (Lst.q HM1.out hq)
          replace HM2 := Lib.hid (Lst.q HM2.out hq)
          replace HM3 := Lib.hid (Lst.q HM3.out hq)
          replace HBww := Lib.hid (Bk.q HBww.out hq)
          clear hq
          go_wp2_with (first | (refine Kc.load_rowG (by kernel_rfl) 39 _ (by rfl) brr (by rfl) 39 #[.bool g1, .slice a1 k1 ay1, .int .i64 s1, .bool g2, .slice a2 k2 ay2, .int .i64 s2, .bool g3, .slice a3 k3 ay3, .int .i64 s3, .bool sg, .int .i64 j0, .int .i64 j1, .int .i64 j2, .int .i64 j3, .int .i64 j4, .int .i64 j5, .int .i64 j6] (0, 0) _ HBrr.out Tryz.underlying39 rfl (by exact Kc.infoRp) ?_) | (refine Kc.load_rowG (by kernel_rfl) 48 _ (by rfl) bww (by rfl) 48 #[.bool g1, .slice x1 k1 xy1, .int .i64 s1, .bool g2, .slice x2 k2 xy2, .int .i64 s2, .bool g3, .slice x3 k3 xy3, .int .i64 s3, .bool sg, .int .i64 j0, .int .i64 j1, .int .i64 j2, .int .i64 j3, .int .i64 j4, .int .i64 j5, .int .i64 j6] (0, 0) _ HBww.out Tryz.underlying48 rfl (by exact Kc.infoRd) ?_))
          refine (Kc.like_any g1 g2 g3 sg a1 a2 a3 x1 x2 x3 k1 k2 k3 ay1 ay2 ay3 xy1 xy2 xy3 s1 s2 s3 j0 j1 j2 j3 j4 j5 j6 Z1 Z2 Z3 _ HL1.out HL2.out HL3.out HM1.out HM2.out HM3.out HZL.out.1 HZL.out.2.1 HZL.out.2.2).mono ?_
          rintro e v15 ⟨rfl, hq⟩
          replace HQ2 := Lib.hid (Q.trans HQ2.out hq)
          replace HL1 := Lib.hid (Lst.q HL1.out hq)
          replace HL2 := Lib.hid (Lst.q HL2.out hq)
          replace HL3 := Lib.hid (Lst.q HL3.out hq)
          replace HBrr := Lib.hid (Bk.q HBrr.out hq)
          replace HM1 := Lib.hid (Lst.q HM1.out hq)
          replace HM2 := Lib.hid (Lst.q HM2.out hq)
          replace HM3 := Lib.hid (Lst.q HM3.out hq)
          replace HBww := Lib.hid (Bk.q HBww.out hq)
          clear hq
          go_wp2_with fail
          exact ⟨⟨i + 1, by go_num, by omega, HQ2.out⟩, by simp [intOf]; omega⟩
        · have hHE := HHE.out.q (HQV.out.trans HQ2.out)
          obtain ⟨eb, eu, rfl, hev⟩ : ∃ eb eu, x = .iface 83 (.pointer (some ⟨eb, 0, none⟩)) ∧ Fe.EV v13 c [wh] (.iface 83 (.pointer (some ⟨eb, 0, none⟩))) := by
            obtain ⟨eb, eu, h1, h2⟩ := id hx
            subst h1
            exact ⟨eb, eu, rfl, eb, eu, rfl, h2⟩
          have HEV := Lib.hid hev
          have HHD := Lib.hid hHE
          have e1 : (c == 0) = false := beq_eq_false_iff_ne.2 hc
          have e2 : (c != 0) = true := by simp [hc]
          clear HX hx hev hHE hc
          go_wp2_with fail
          refine (Fe.code_any c [wh] _ _ HHD.out HEV.out).mono ?_
          rintro e v16 ⟨rfl, hq⟩
          replace HQ2 := Lib.hid (Q.trans HQ2.out hq)
          replace HL1 := Lib.hid (Lst.q HL1.out hq)
          replace HL2 := Lib.hid (Lst.q HL2.out hq)
          replace HL3 := Lib.hid (Lst.q HL3.out hq)
          replace HBrr := Lib.hid (Bk.q HBrr.out hq)
          replace HM1 := Lib.hid (Lst.q HM1.out hq)
          replace HM2 := Lib.hid (Lst.q HM2.out hq)
          replace HM3 := Lib.hid (Lst.q HM3.out hq)
          replace HBww := Lib.hid (Bk.q HBww.out hq)
          replace HEV := Lib.hid (Fe.EV.q hq HEV.out)
          replace HHD := Lib.hid (HHD.out.q hq)
          clear hq
          go_wp2_with (first | (refine Kc.load_rowG (by kernel_rfl) 39 _ (by rfl) brr (by rfl) 39 #[.bool g1, .slice a1 k1 ay1, .int .i64 s1, .bool g2, .slice a2 k2 ay2, .int .i64 s2, .bool g3, .slice a3 k3 ay3, .int .i64 s3, .bool sg, .int .i64 j0, .int .i64 j1, .int .i64 j2, .int .i64 j3, .int .i64 j4, .int .i64 j5, .int .i64 j6] (0, 0) _ HBrr.out Tryz.underlying39 rfl (by exact Kc.infoRp) ?_) | (refine Kc.load_rowG (by kernel_rfl) 48 _ (by rfl) bww (by rfl) 48 #[.bool g1, .slice x1 k1 xy1, .int .i64 s1, .bool g2, .slice x2 k2 xy2, .int .i64 s2, .bool g3, .slice x3 k3 xy3, .int .i64 s3, .bool sg, .int .i64 j0, .int .i64 j1, .int .i64 j2, .int .i64 j3, .int .i64 j4, .int .i64 j5, .int .i64 j6] (0, 0) _ HBww.out Tryz.underlying48 rfl (by exact Kc.infoRd) ?_))
          refine (Kc.like_any g1 g2 g3 sg a1 a2 a3 x1 x2 x3 k1 k2 k3 ay1 ay2 ay3 xy1 xy2 xy3 s1 s2 s3 j0 j1 j2 j3 j4 j5 j6 Z1 Z2 Z3 _ HL1.out HL2.out HL3.out HM1.out HM2.out HM3.out HZL.out.1 HZL.out.2.1 HZL.out.2.2).mono ?_
          rintro e v17 ⟨rfl, hq⟩
          replace HQ2 := Lib.hid (Q.trans HQ2.out hq)
          replace HL1 := Lib.hid (Lst.q HL1.out hq)
          replace HL2 := Lib.hid (Lst.q HL2.out hq)
          replace HL3 := Lib.hid (Lst.q HL3.out hq)
          replace HBrr := Lib.hid (Bk.q HBrr.out hq)
          replace HM1 := Lib.hid (Lst.q HM1.out hq)
          replace HM2 := Lib.hid (Lst.q HM2.out hq)
          replace HM3 := Lib.hid (Lst.q HM3.out hq)
          replace HBww := Lib.hid (Bk.q HBww.out hq)
          replace HEV := Lib.hid (Fe.EV.q hq HEV.out)
          replace HHD := Lib.hid (HHD.out.q hq)
          clear hq
          go_wp2_with fail
          refine (Fe.path_any c [wh] _ _ HHD.out HEV.out (by simp)).mono ?_
          rintro e v18 ⟨⟨pv, rfl, hpo⟩, hq⟩
          replace HQ2 := Lib.hid (Q.trans HQ2.out hq)
          replace HL1 := Lib.hid (Lst.q HL1.out hq)
          replace HL2 := Lib.hid (Lst.q HL2.out hq)
          replace HL3 := Lib.hid (Lst.q HL3.out hq)
          replace HBrr := Lib.hid (Bk.q HBrr.out hq)
          replace HM1 := Lib.hid (Lst.q HM1.out hq)
          replace HM2 := Lib.hid (Lst.q HM2.out hq)
          replace HM3 := Lib.hid (Lst.q HM3.out hq)
          replace HBww := Lib.hid (Bk.q HBww.out hq)
          replace HEV := Lib.hid (Fe.EV.q hq HEV.out)
          replace HHD := Lib.hid (HHD.out.q hq)
          have HPO := Lib.hid hpo.lst
          clear hq hpo
          have HNL := Lib.hid (HSL.out v18 wh)
          have hqa : Q v18 (v18.alloc (.cells #[.string wh] 9)) := (Q.refl _).alloc _
          have HPP := Lib.hid (GLst.q HPO.out hqa)
          have HQ3 := Lib.hid (HQ2.out.trans hqa)
          clear hqa
          go_wp2_with fail
          refine (Gr.sames_any _ _ [wh] [wh] _ HPP.out HNL.out (by simp) (by simp)).mono ?_
          rintro e v19 ⟨rfl, hq⟩
          rw [decide_eq_true (rfl : [wh] = [wh])]
          have HQ4 := Lib.hid (HQ3.out.trans hq)
          clear hq
          go_wp2_with fail
          exact ⟨⟨i + 1, by go_num, by omega, HQ4.out⟩, by simp [intOf]; omega⟩
      · have hi4i : ¬ (i : Int) < 4 := by omega
        go_wp2_with fail
        refine (HLV.out _).mono ?_
        rintro e u9 ⟨rfl, hq9⟩
        go_wp2_with fail
        go_ret
        exact ⟨rfl, (HQV.out.trans HQ1.out).trans hq9⟩

set_option maxRecDepth 100000 in
theorem lifted (os : Os) (started : os.Started) (H : Type) (enc : TypeId × Value → H) :
    ReturnsInHanded {} Tryz.checked os 3 .any (fun w args => (Rows.configChecksSpec.pre enc Tryz.prog Tryz.f3 [] false w args ∧ laidMetH Tryz.prog laidL w) ∧ sizedMet enc Tryz.prog Tryz.f3 (OpenSpec.ofChange Rows.configChecksSpec) false w args)
      (Rows.configChecksSpec.post enc Tryz.prog Tryz.f3 false true false false) := by
  refine returnsInHanded_of_change_and (C := Tryz.checked) (X := fun w _ => laidMetH Tryz.prog laidL w) (fun _ _ _ hh h => h.of_heap hh) own started (by kernel_rfl) Tryz.func3
    (ChangeSpec.witness_at (enc := enc) (C := Tryz.checked) (os := os) (X := fun w _ => laidMetH Tryz.prog laidL w) false (laidWorld os) #[.agg #[.string ByteArray.empty, .string ByteArray.empty, .string ByteArray.empty, .int .i64 0, .int .i64 0, .int .i64 0, .int .i64 0, .int .i64 0, .int .i64 0, .int .i64 0], .agg #[.bool false, .slice none 0 0, .int .i64 0, .bool false, .slice none 0 0, .int .i64 0, .slice none 0 0, .bool false, .int .i64 0, .int .i64 0, .int .i64 0, .int .i64 0, .int .i64 0, .int .i64 0, .int .i64 0], .int .i64 0, .int .i64 0, .string ByteArray.empty] 8 rfl (by kernel_rfl) (by kernel_rfl) (by kernel_rfl) (by kernel_rfl) (by kernel_rfl) (laidWorld_met os _)) ?_
  intro W base args ds gs before hval0 hW _ _ hL _
  have hval : ∀ (j : Nat) t v, Tryz.f3.params[j]? = some t → args[j]? = some v → Value.okWide Tryz.prog W .any base t v := hval0
  have hW' := hW
  obtain ⟨p, q, hA0, hV, rfl, hfz, hnd⟩ := hW
  have hA : DataW.TrodAll enc Tryz.prog W 0 (fun _ => true) true Tryz.f3.params.toList args.toList ds p := hA0
  rw [Tryz.params3] at hA hval
  obtain ⟨v0, vs0, d0, ds0, p0, q0, hargs, rfl, rfl, h0, r0⟩ := trodAll_cons hA
  obtain ⟨v1, vs1, d1, ds1, p1, q1, rfl, rfl, rfl, h1, r1⟩ := trodAll_cons r0
  obtain ⟨v2, vs2, d2, ds2, p2, q2, rfl, rfl, rfl, h2, r2⟩ := trodAll_cons r1
  obtain ⟨v3, vs3, d3, ds3, p3, q3, rfl, rfl, rfl, h3, r3⟩ := trodAll_cons r2
  obtain ⟨v4, vs4, d4, ds4, p4, q4, rfl, rfl, rfl, h4, r4⟩ := trodAll_cons r3
  obtain ⟨rfl, rfl, rfl⟩ := trodAll_nil r4
  obtain rfl : args = #[v0, v1, v2, v3, v4] := by cases args; simp_all
  obtain ⟨rfl, rfl⟩ := trodVars_none hV
  have k0 := h0
  have lt0 : ∀ x ∈ p0, x.block < W.heap.size := by obtain ⟨m, hm⟩ := k0; exact DataW.trod_lt m _ _ _ hm
  obtain ⟨cs0, rfl, hc0, hf0⟩ := FrH.open_any Tryz.underlying25 (k := 10) (by kernel_rfl) (hval 0 25 v0 rfl rfl) h0
  obtain ⟨f0_0, f0_1, f0_2, f0_3, f0_4, f0_5, f0_6, f0_7, f0_8, f0_9, rfl⟩ := FrH.arr10 hc0
  have hn0_1 := FrH.nest Tryz.underlying25 hf0 0 rfl 0 1 rfl (T := 9) rfl (by kernel_rfl) (l := [f0_0]) rfl
  have hn0_2 := FrH.nest Tryz.underlying25 hf0 1 rfl 1 1 rfl (T := 9) rfl (by kernel_rfl) (l := [f0_1]) rfl
  have hn0_3 := FrH.nest Tryz.underlying25 hf0 2 rfl 2 1 rfl (T := 9) rfl (by kernel_rfl) (l := [f0_2]) rfl
  have hn0_4 := FrH.nest Tryz.underlying25 hf0 3 rfl 3 7 rfl (T := 23) rfl (by kernel_rfl) (l := [f0_3, f0_4, f0_5, f0_6, f0_7, f0_8, f0_9]) rfl
  have hn0_5 := FrH.nest Tryz.underlying23 hn0_4 0 rfl 0 1 rfl (T := 3) rfl (by kernel_rfl) (l := [f0_3]) rfl
  have hn0_6 := FrH.nest Tryz.underlying23 hn0_4 1 rfl 1 1 rfl (T := 3) rfl (by kernel_rfl) (l := [f0_4]) rfl
  have hn0_7 := FrH.nest Tryz.underlying23 hn0_4 2 rfl 2 1 rfl (T := 3) rfl (by kernel_rfl) (l := [f0_5]) rfl
  have hn0_8 := FrH.nest Tryz.underlying23 hn0_4 3 rfl 3 1 rfl (T := 3) rfl (by kernel_rfl) (l := [f0_6]) rfl
  have hn0_9 := FrH.nest Tryz.underlying23 hn0_4 4 rfl 4 1 rfl (T := 3) rfl (by kernel_rfl) (l := [f0_7]) rfl
  have hn0_10 := FrH.nest Tryz.underlying23 hn0_4 5 rfl 5 1 rfl (T := 3) rfl (by kernel_rfl) (l := [f0_8]) rfl
  have hn0_11 := FrH.nest Tryz.underlying23 hn0_4 6 rfl 6 1 rfl (T := 3) rfl (by kernel_rfl) (l := [f0_9]) rfl
  obtain ⟨t0_0, rfl, z0_0⟩ := FrH.text_of Tryz.underlying9 hn0_1
  obtain ⟨t0_1, rfl, z0_1⟩ := FrH.text_of Tryz.underlying9 hn0_2
  obtain ⟨t0_2, rfl, z0_2⟩ := FrH.text_of Tryz.underlying9 hn0_3
  obtain ⟨s0_3, rfl, ws0_3⟩ := FrH.int_of Tryz.underlying3 hn0_5
  obtain ⟨s0_4, rfl, ws0_4⟩ := FrH.int_of Tryz.underlying3 hn0_6
  obtain ⟨s0_5, rfl, ws0_5⟩ := FrH.int_of Tryz.underlying3 hn0_7
  obtain ⟨s0_6, rfl, ws0_6⟩ := FrH.int_of Tryz.underlying3 hn0_8
  obtain ⟨s0_7, rfl, ws0_7⟩ := FrH.int_of Tryz.underlying3 hn0_9
  obtain ⟨s0_8, rfl, ws0_8⟩ := FrH.int_of Tryz.underlying3 hn0_10
  obtain ⟨s0_9, rfl, ws0_9⟩ := FrH.int_of Tryz.underlying3 hn0_11
  have k1 := h1
  have lt1 : ∀ x ∈ p1, x.block < W.heap.size := by obtain ⟨m, hm⟩ := k1; exact DataW.trod_lt m _ _ _ hm
  obtain ⟨cs1, rfl, hc1, hf1⟩ := FrH.open_any Tryz.underlying30 (k := 15) (by kernel_rfl) (hval 1 30 v1 rfl rfl) h1
  obtain ⟨f1_0, f1_1, f1_2, f1_3, f1_4, f1_5, f1_6, f1_7, f1_8, f1_9, f1_10, f1_11, f1_12, f1_13, f1_14, rfl⟩ := FrH.arr15 hc1
  have hn1_1 := FrH.nest Tryz.underlying30 hf1 0 rfl 0 3 rfl (T := 28) rfl (by kernel_rfl) (l := [f1_0, f1_1, f1_2]) rfl
  have hn1_2 := FrH.nest Tryz.underlying28 hn1_1 0 rfl 0 1 rfl (T := 4) rfl (by kernel_rfl) (l := [f1_0]) rfl
  have hn1_3 := FrH.nest Tryz.underlying28 hn1_1 1 rfl 1 1 rfl (T := 26) rfl (by kernel_rfl) (l := [f1_1]) rfl
  have hn1_4 := FrH.nest Tryz.underlying28 hn1_1 2 rfl 2 1 rfl (T := 3) rfl (by kernel_rfl) (l := [f1_2]) rfl
  have hn1_5 := FrH.nest Tryz.underlying30 hf1 1 rfl 3 3 rfl (T := 28) rfl (by kernel_rfl) (l := [f1_3, f1_4, f1_5]) rfl
  have hn1_6 := FrH.nest Tryz.underlying28 hn1_5 0 rfl 0 1 rfl (T := 4) rfl (by kernel_rfl) (l := [f1_3]) rfl
  have hn1_7 := FrH.nest Tryz.underlying28 hn1_5 1 rfl 1 1 rfl (T := 26) rfl (by kernel_rfl) (l := [f1_4]) rfl
  have hn1_8 := FrH.nest Tryz.underlying28 hn1_5 2 rfl 2 1 rfl (T := 3) rfl (by kernel_rfl) (l := [f1_5]) rfl
  have hn1_9 := FrH.nest Tryz.underlying30 hf1 2 rfl 6 1 rfl (T := 26) rfl (by kernel_rfl) (l := [f1_6]) rfl
  have hn1_10 := FrH.nest Tryz.underlying30 hf1 3 rfl 7 1 rfl (T := 4) rfl (by kernel_rfl) (l := [f1_7]) rfl
  have hn1_11 := FrH.nest Tryz.underlying30 hf1 4 rfl 8 7 rfl (T := 23) rfl (by kernel_rfl) (l := [f1_8, f1_9, f1_10, f1_11, f1_12, f1_13, f1_14]) rfl
  have hn1_12 := FrH.nest Tryz.underlying23 hn1_11 0 rfl 0 1 rfl (T := 3) rfl (by kernel_rfl) (l := [f1_8]) rfl
  have hn1_13 := FrH.nest Tryz.underlying23 hn1_11 1 rfl 1 1 rfl (T := 3) rfl (by kernel_rfl) (l := [f1_9]) rfl
  have hn1_14 := FrH.nest Tryz.underlying23 hn1_11 2 rfl 2 1 rfl (T := 3) rfl (by kernel_rfl) (l := [f1_10]) rfl
  have hn1_15 := FrH.nest Tryz.underlying23 hn1_11 3 rfl 3 1 rfl (T := 3) rfl (by kernel_rfl) (l := [f1_11]) rfl
  have hn1_16 := FrH.nest Tryz.underlying23 hn1_11 4 rfl 4 1 rfl (T := 3) rfl (by kernel_rfl) (l := [f1_12]) rfl
  have hn1_17 := FrH.nest Tryz.underlying23 hn1_11 5 rfl 5 1 rfl (T := 3) rfl (by kernel_rfl) (l := [f1_13]) rfl
  have hn1_18 := FrH.nest Tryz.underlying23 hn1_11 6 rfl 6 1 rfl (T := 3) rfl (by kernel_rfl) (l := [f1_14]) rfl
  obtain ⟨g1_0, rfl⟩ := FrH.bool_of Tryz.underlying4 hn1_2
  obtain ⟨xs1_1, w1_1, b1_1⟩ := FrH.lst_of Tryz.underlying26 Tryz.underlying3 (by kernel_rfl) hn1_3
  obtain ⟨s1_2, rfl, ws1_2⟩ := FrH.int_of Tryz.underlying3 hn1_4
  obtain ⟨g1_3, rfl⟩ := FrH.bool_of Tryz.underlying4 hn1_6
  obtain ⟨xs1_4, w1_4, b1_4⟩ := FrH.lst_of Tryz.underlying26 Tryz.underlying3 (by kernel_rfl) hn1_7
  obtain ⟨s1_5, rfl, ws1_5⟩ := FrH.int_of Tryz.underlying3 hn1_8
  obtain ⟨xs1_6, w1_6, b1_6⟩ := FrH.lst_of Tryz.underlying26 Tryz.underlying3 (by kernel_rfl) hn1_9
  obtain ⟨g1_7, rfl⟩ := FrH.bool_of Tryz.underlying4 hn1_10
  obtain ⟨s1_8, rfl, ws1_8⟩ := FrH.int_of Tryz.underlying3 hn1_12
  obtain ⟨s1_9, rfl, ws1_9⟩ := FrH.int_of Tryz.underlying3 hn1_13
  obtain ⟨s1_10, rfl, ws1_10⟩ := FrH.int_of Tryz.underlying3 hn1_14
  obtain ⟨s1_11, rfl, ws1_11⟩ := FrH.int_of Tryz.underlying3 hn1_15
  obtain ⟨s1_12, rfl, ws1_12⟩ := FrH.int_of Tryz.underlying3 hn1_16
  obtain ⟨s1_13, rfl, ws1_13⟩ := FrH.int_of Tryz.underlying3 hn1_17
  obtain ⟨s1_14, rfl, ws1_14⟩ := FrH.int_of Tryz.underlying3 hn1_18
  obtain ⟨a2, rfl, rfl, rfl, w2⟩ := open_int Tryz.underlying3 (hval 2 3 v2 rfl rfl) h2
  obtain ⟨a3, rfl, rfl, rfl, w3⟩ := open_int Tryz.underlying3 (hval 3 3 v3 rfl rfl) h3
  obtain ⟨a4, rfl, rfl, rfl, w4⟩ := open_string Tryz.underlying9 (hval 4 9 v4 rfl rfl) h4
  clear hA0 hval0
  refine (walk W (env_of_laid hL) t0_0 z0_0 t0_1 z0_1 t0_2 z0_2 s0_3 ws0_3 s0_4 ws0_4 s0_5 ws0_5 s0_6 ws0_6 s0_7 ws0_7 s0_8 ws0_8 s0_9 ws0_9 g1_0 f1_1 xs1_1 w1_1 b1_1 s1_2 ws1_2 g1_3 f1_4 xs1_4 w1_4 b1_4 s1_5 ws1_5 f1_6 xs1_6 w1_6 b1_6 g1_7 s1_8 ws1_8 s1_9 ws1_9 s1_10 ws1_10 s1_11 ws1_11 s1_12 ws1_12 s1_13 ws1_13 s1_14 ws1_14 a2 (bounds_i64 w2) a3 (bounds_i64 w3) a4 w4).mono fun e W' ⟨he, bel⟩ => ?_
  subst he
  exact ⟨_, rfl, _, _, _, [], _, [], hW', trodAll_mk1 (shut_bool Tryz.underlying4 _), (trodAll_cons_mk (Below.trod laidOut (by kernel_rfl) (of_decide_eq_true (by kernel_rfl)) k0 bel lt0) (trodAll_cons_mk (Below.trod laidOut (by kernel_rfl) (of_decide_eq_true (by kernel_rfl)) k1 bel lt1) (trodAll_cons_mk (shut_int Tryz.underlying3 w2) (trodAll_cons_mk (shut_int Tryz.underlying3 w3) (trodAll_cons_mk (shut_string Tryz.underlying9 w4) trodAll_mk0))))), rfl, bel.below.frame _, fun h => by cases h⟩

/-- The row. -/
theorem row : Rows.ConfigChecksSaid :=
  OpenClaim.holds_of_wide 3 Tryz.f3 rfl rfl rfl rfl rfl rfl rfl ⟨rfl, rfl, rfl, rfl, rfl⟩ rfl rfl rfl rfl rfl (by kernel_rfl) Tryz.func3 (by kernel_rfl)
    (of_decide_eq_true (by kernel_rfl)) (by unfold Func.isWrapper; first | (rw [if_pos (by decide +kernel)]; kernel_rfl) | (rw [if_neg (by decide +kernel)]; exact ⟨rfl, rfl⟩))
    (fun os started H enc _ => lifted os started H enc)
/-- The statement: the row, tied. -/
theorem proved : Rows.ConfigChecksCardSaid :=
  Claim7.holds_tied_plain_at .later [] [.handle] true (true, "5a603e36acaeff55d88057b219300a055cbbc2af68288c676dea15bf117cf274") true
    row (fun _ h => by cases h) (by kernel_rfl) (fun _ h => by cases h) configChecks_row_tie rfl ⟨rfl, rfl⟩ (by kernel_rfl) rfl
    (fun f fn hf hfn => by
      obtain rfl : f = 3 := Option.some.inj ((show Tryz.prog.funcNamed Rows.configChecksRow.func = some 3 by kernel_rfl).symm.trans hf) |>.symm
      obtain rfl : fn = Tryz.f3 := (Option.some.inj (Tryz.func3.symm.trans hfn)).symm
      refine ⟨by kernel_rfl, fun j t ht => ?_⟩
      rw [Tryz.params3] at ht
      have h3 : t = 3 ∨ t = 9 ∨ t = 25 ∨ t = 30 := by
        rcases j with _ | _ | _ | _ | _ | _ <;> simp at ht <;> simp [← ht]
      rcases h3 with rfl | rfl | rfl | rfl
      · exact (show Tryz.prog.wantsStandIn 3 = false by kernel_rfl)
      · exact (show Tryz.prog.wantsStandIn 9 = false by kernel_rfl)
      · exact (show Tryz.prog.wantsStandIn 25 = false by kernel_rfl)
      · exact (show Tryz.prog.wantsStandIn 30 = false by kernel_rfl))
    (by kernel_rfl)
#print axioms proved
end Go.Proofs.YtagpofhencpliaaGreatDoor.configChecks
