/- The program's items of an affix; of the digits ahead of the separator. (and more) -/
import Derived.Test.YtnlfeamhedihpaaGreatDoorR00
import Derived.Test.YtnlfeamhedihpaaGreatDoorR02
import Derived.Test.YtnlfeamhedihpaaGreatDoorR01
import Derived.Test.YtnlfeamhedihpaaGreatDoorR07
import Derived.Test.YtnlfeamhedihpaaGreatDoorR10
import Derived.Test.YtnlfeamhedihpaaGreatDoorR03
import Derived.Test.YtnlfeamhedihpaaGreatDoorR26
import Derived.Test.YtnlfeamhedihpaaGreatDoorR09
import Derived.Test.YtnlfeamhedihpaaGreatDoorR40
import Derived.Test.YtnlfeamhedihpaaGreatDoorRows
import Derived.Test.YtnlfeamhedihpaaGreatDoorR30
import Derived.Deep.QuietTactic
import Derived.BigQuiet
import Derived.Laws.Rows
import Derived.Laws.Tables
import Derived.Deep.RegionHeld
import Derived.Deep.Cut
set_option linter.unusedVariables false
set_option linter.unusedSimpArgs false
namespace Go.Proofs.YtnlfeamhedihpaaGreatDoor
open Go.RowKit
namespace It
open Um Im Lo
set_option maxRecDepth 100000 in
theorem fldD (u : World) (n p s d g m pe c : ByteArray) : (Instr.field 64 (.agg #[.string n, .string p, .string s, .string d, .string g, .string m, .string pe, .string c]) 3).run Tryz.prog u = .ok (.string d) u := by
  unfold Instr.field
  rw [Sem.run_bind, run_underlying Tryz.underlying64 u]
  rfl
set_option maxRecDepth 100000 in
theorem fldG (u : World) (n p s d g m pe c : ByteArray) : (Instr.field 64 (.agg #[.string n, .string p, .string s, .string d, .string g, .string m, .string pe, .string c]) 4).run Tryz.prog u = .ok (.string g) u := by
  unfold Instr.field
  rw [Sem.run_bind, run_underlying Tryz.underlying64 u]
  rfl
set_option maxRecDepth 100000 in
theorem fldM (u : World) (n p s d g m pe c : ByteArray) : (Instr.field 64 (.agg #[.string n, .string p, .string s, .string d, .string g, .string m, .string pe, .string c]) 5).run Tryz.prog u = .ok (.string m) u := by
  unfold Instr.field
  rw [Sem.run_bind, run_underlying Tryz.underlying64 u]
  rfl
set_option maxRecDepth 100000 in
set_option maxHeartbeats 3200000 in
theorem affixes_any (g : Nat) (r : Lm.Rec) (X : Pt.Pat) (a b c d cl v : Value) (l : List Pb.E) (w : World) (hB : LB w g r X a b c d cl) (hv : Pb.LstP w v l) (hl : l.length ≤ 100000) :
    Calls Tryz.prog 29 #[.pointer (some ⟨g, 0, none⟩), v] w fun e w' => ∃ x, e = .returned x ∧ OwnI 51 w' w.heap.size x (affI r l) ∧ Q w w' := by
  obtain ⟨n, hn⟩ : ∃ n, n = l.length := ⟨_, rfl⟩
  obtain ⟨va, vc, rfl, hnc, hcm⟩ := hv.form0 hn.symm
  have HV := Lib.hid (fun u (q : Q w u) k (h : k < n) => (hv.q q).cellOf hn.symm h)
  have hr := fun u (q : Q w u) => Ro.record_any g r X a b c d cl u (hB.q q)
  unfold recV at hr
  have HR := Lib.hid hr
  clear hr
  have HT := Lib.hid (fun k (h : k < n) => affI_take r l k (by omega))
  have HTL := Lib.hid (fun k (h : k ≤ n) => show (affI r (l.take k)).length = k by rw [affI_len, List.length_take]; omega)
  have HE := Lib.hid (show affI r (l.take n) = affI r l by rw [hn, List.take_length])
  have HF := Lib.hid (fun u => fldM u (Lm.bs r.nam) (Lm.bs r.pat) (Lm.bs r.sys) (Lm.bs r.dec) (Lm.bs r.grp) (Lm.bs r.min) (Lm.bs r.per) (Lm.bs r.cur))
  have HAF := Lib.hid (show ∀ k, affE r (l.getD k (false, [])) = if (l.getD k (false, [])).1 = true then (1, Lm.bs r.min, -1) else (0, Lm.bs (l.getD k (false, [])).2, -1) from fun _ => rfl)
  unfold maxLen at hcm
  rw [← hn] at hl
  clear hB hv hn
  generalize Lm.bs r.nam = s0 at *
  generalize Lm.bs r.pat = s1 at *
  generalize Lm.bs r.sys = s2 at *
  generalize Lm.bs r.dec = s3 at *
  generalize Lm.bs r.grp = s4 at *
  generalize Lm.bs r.min = s5 at *
  generalize Lm.bs r.per = s6 at *
  generalize Lm.bs r.cur = s7 at *
  go_enter Tryz.func29, Tryz.ntmps29
  go_wp2_with fail
  go_loopw [5, 10] (fun x i wr => ∃ k : Nat, i = .int .i64 k ∧ k ≤ n ∧ OwnI 51 wr w.heap.size x (affI r (l.take k)) ∧ Q w wr) (fun _ i _ => n - (intOf i).toNat)
  case atStart => exact ⟨0, rfl, by omega, OwnI.nil _ _ _, Q.refl _⟩
  case round =>
    obtain ⟨k, rfl, hk, ho, hq⟩ := hrel
    by_cases hlt : k < n
    · obtain ⟨gg, off, cap, hvv, hg, _, _, c1, c2⟩ := HV.out wr hq k hlt
      cases hvv
      have HTK := Lib.hid (HT.out k hlt)
      rw [HAF.out] at HTK
      have hlk := HTL.out k hk
      generalize l.getD k (false, []) = e0' at *
      obtain ⟨eb, et⟩ := e0'
      dsimp only at c1 c2 HTK
      have HKB := Lib.hid hk
      unfold Pb.txt at c2
      obtain ⟨T, hT⟩ : ∃ T, T = (⟨et.toArray⟩ : ByteArray) := ⟨_, rfl⟩
      rw [← hT] at c2
      obtain ⟨z, hz⟩ : ∃ y, y = wr.alloc (.cells #[.bool eb, .string T] 113) := ⟨_, rfl⟩
      have HQZ := Lib.hid (show Q w z by rw [hz]; exact hq.alloc _)
      have hq1 : Q wr z := by rw [hz]; exact (Q.refl wr).alloc _
      have HBX := Lib.hid (show Bk z wr.heap.size 113 [.bool eb, .string T] by rw [hz]; exact Bk.new _ _ _)
      have HOZ := Lib.hid (ho.q hq1)
      have hol := ho.lst
      obtain ⟨xa, xc, rfl, _, _⟩ := hol.form0 hlk
      have HB0 := Lib.hid hq.le
      clear ho hol hq hq1
      have x0 := HBX.out.cell 0 rfl
      have x1 := HBX.out.cell 1 rfl
      generalize hbX : wr.heap.size = bX at *
      cases eb
      · have HK2 := Lib.hid (show affI r (l.take (k + 1)) = affI r (l.take k) ++ [(0, T, -1)] by rw [HTK.out, hT]; rfl)
        clear HTK hT
        have hle := HQZ.out.le
        go_upto_region 5 with fail
        rw [← hz]
        clear hz hbX c1 c2
        go_wp2_with (at_builtin; refine Im.push elP HOZ.out rfl _ _ rfl 0 T (-1) (by rfl) (by rfl) (by omega) hle ?_)
        intro v' w3 ho3 hg3 hat3
        have HQ3 := Lib.hid (HQZ.out.grown hg3 (fun j h => (HOZ.out.lt j h).1))
        have HO3 := Lib.hid (show OwnI 51 w3 w.heap.size v' (affI r (l.take (k + 1))) by rw [HK2.out]; exact ho3)
        clear ho3 hg3 hat3
        go_wp2_with fail
        exact ⟨⟨k + 1, by go_num, by omega, HO3.out, HQ3.out⟩, by simp [intOf]; omega⟩
      · have HK2 := Lib.hid (show affI r (l.take (k + 1)) = affI r (l.take k) ++ [(1, s5, -1)] by rw [HTK.out]; rfl)
        clear HTK hT
        have hle := HQZ.out.le
        have HRZ := Lib.hid (HR.out z HQZ.out)
        go_upto_region 5 with fail
        rw [← hz]
        clear hz hbX c1 c2
        go_wp2_with fail
        refine HRZ.out.mono ?_
        rintro e w2 ⟨rfl, hq2⟩
        have HQ2 := Lib.hid (HQZ.out.trans hq2)
        have HO2 := Lib.hid (HOZ.out.q hq2)
        have hle2 := HQ2.out.le
        have hf := HF.out w2
        clear hq2 hle x0 x1
        go_wp2_with (at_builtin; refine Im.push elP HO2.out rfl _ _ rfl 1 s5 (-1) (by rfl) (by rfl) (by omega) hle2 ?_)
        intro v' w3 ho3 hg3 hat3
        have HQ3 := Lib.hid (HQ2.out.grown hg3 (fun j h => (HO2.out.lt j h).1))
        have HO3 := Lib.hid (show OwnI 51 w3 w.heap.size v' (affI r (l.take (k + 1))) by rw [HK2.out]; exact ho3)
        clear ho3 hg3 hat3 hf
        go_wp2_with fail
        exact ⟨⟨k + 1, by go_num, by omega, HO3.out, HQ3.out⟩, by simp [intOf]; omega⟩
    · obtain rfl : k = n := by omega
      rw [HE.out] at ho
      have HO := Lib.hid ho
      have HQ := Lib.hid hq
      clear ho hq
      go_wp2_with fail
      go_ret
      exact ⟨_, rfl, HO.out, HQ.out⟩
end It
end Go.Proofs.YtnlfeamhedihpaaGreatDoor
namespace Go.Proofs.YtnlfeamhedihpaaGreatDoor
open Go.RowKit
namespace It
open Um Lo Ro
theorem LB_row {u : World} {b0 g : Nat} {r : Lm.Rec} {X : Pt.Pat} {a b c d cl : Value} (hz : Bk u b0 34 zL) (h : LB u g r X a b c d cl) (cs : Array Value) : LB (u.setRow b0 cs) g r X a b c d cl := by
  have hne : g ≠ b0 := by
    rintro rfl
    have h1 := h.1
    unfold Bk at h1 hz
    rw [hz] at h1
    simp at h1
  exact ⟨Rw.Bk_other h.1 hne cs, LstP_aside h.2.1 hz zL_sep (row_same _ _ _), LstP_aside h.2.2.1 hz zL_sep (row_same _ _ _), LstP_aside h.2.2.2.1 hz zL_sep (row_same _ _ _), LstP_aside h.2.2.2.2 hz zL_sep (row_same _ _ _)⟩
def PL (w : World) (v : Value) (r : Lm.Rec) (X : Pt.Pat) : Prop := ∃ g a b c d cl, v = .pointer (some ⟨g, 0, none⟩) ∧ LB w g r X a b c d cl
set_option maxRecDepth 100000 in
set_option maxHeartbeats 6400000 in
theorem begin_any (g0 g1 g2 g3 g4 g5 n : Int) (w : World) (h0 : -9223372036854775808 ≤ g0 ∧ g0 ≤ 9223372036854775807) (h1 : -9223372036854775808 ≤ g1 ∧ g1 ≤ 9223372036854775807) (h2 : -9223372036854775808 ≤ g2 ∧ g2 ≤ 9223372036854775807) (h3 : -9223372036854775808 ≤ g3 ∧ g3 ≤ 9223372036854775807) (h4 : -9223372036854775808 ≤ g4 ∧ g4 ≤ 9223372036854775807) (h5 : -9223372036854775808 ≤ g5 ∧ g5 ≤ 9223372036854775807) (hn : -9223372036854775808 ≤ n ∧ n ≤ 9223372036854775807) :
    Calls Tryz.prog 8 #[.agg #[.int .i64 g0, .int .i64 g1, .int .i64 g2, .int .i64 g3, .int .i64 g4, .int .i64 g5], .int .i64 n] w fun e w' => ∃ r X p v, LOk r X ∧ e = .returned (.tuple #[p, v]) ∧ PL w' p r X ∧ RL w' v r X ∧ Q w w' := by
  have HLO := Lib.hid (fun u => locale_any g0 g1 g2 g3 g4 g5 n u h0 h1 h2 h3 h4 h5 hn)
  obtain ⟨y, hy⟩ : ∃ z, z = w.alloc (.cells #[.int .i64 g0, .int .i64 g1, .int .i64 g2, .int .i64 g3, .int .i64 g4, .int .i64 g5] 23) := ⟨_, rfl⟩
  have hqy : Q w y := by rw [hy]; exact (Q.refl w).alloc _
  have hgy : Bk y w.heap.size 23 [.int .i64 g0, .int .i64 g1, .int .i64 g2, .int .i64 g3, .int .i64 g4, .int .i64 g5] := by rw [hy]; exact Bk.new _ _ _
  obtain ⟨z, hz⟩ : ∃ z, z = y.alloc (.cells #[.string ⟨#[]⟩, .string ⟨#[]⟩, .string ⟨#[]⟩, .string ⟨#[]⟩, .string ⟨#[]⟩, .string ⟨#[]⟩, .string ⟨#[]⟩, .string ⟨#[]⟩, .slice none 0 0, .slice none 0 0, .slice none 0 0, .slice none 0 0, .int .i64 0, .int .i64 0, .int .i64 0, .int .i64 0, .int .i64 0] 34) := ⟨_, rfl⟩
  have hqz : Q y z := by rw [hz]; exact (Q.refl y).alloc _
  have HQZ := Lib.hid (hqy.trans hqz)
  have HGZ := Lib.hid (hgy.q hqz)
  have hsy : y.heap.size = w.heap.size + 1 := by rw [hy]; simp
  have hlz : Bk z y.heap.size 34 zL := by rw [hz]; exact Bk.new _ _ _
  rw [hsy] at hlz
  have HLZ := Lib.hid hlz
  have hz2 : z = (w.alloc (.cells #[.int .i64 g0, .int .i64 g1, .int .i64 g2, .int .i64 g3, .int .i64 g4, .int .i64 g5] 23)).alloc (.cells #[.string ⟨#[]⟩, .string ⟨#[]⟩, .string ⟨#[]⟩, .string ⟨#[]⟩, .string ⟨#[]⟩, .string ⟨#[]⟩, .string ⟨#[]⟩, .string ⟨#[]⟩, .slice none 0 0, .slice none 0 0, .slice none 0 0, .slice none 0 0, .int .i64 0, .int .i64 0, .int .i64 0, .int .i64 0, .int .i64 0] 34) := by rw [hz, hy]
  clear hqy hgy hqz hsy hlz hz hy h0 h1 h2 h3 h4 h5 hn
  go_enter Tryz.func8, Tryz.ntmps8
  go_upto_region 1 with fail
  rw [← hz2]
  clear hz2
  have cg0 := HGZ.out.cell 0 rfl
  have cg1 := HGZ.out.cell 1 rfl
  have cg2 := HGZ.out.cell 2 rfl
  have cg3 := HGZ.out.cell 3 rfl
  have cg4 := HGZ.out.cell 4 rfl
  have cg5 := HGZ.out.cell 5 rfl
  go_wp2_with fail
  clear cg0 cg1 cg2 cg3 cg4 cg5
  refine (HLO.out _).mono ?_
  rintro e w1 ⟨v, r, X, rfl, hok, hnew, ⟨a, b, c, d, rfl, hl1⟩, hq1⟩
  have HOK := Lib.hid hok
  have HNW := Lib.hid hnew
  have HQ1 := Lib.hid (HQZ.out.trans hq1)
  have HL1 := Lib.hid (HLZ.out.q hq1)
  obtain ⟨a1, a2, rfl⟩ := hl1.1.shape
  obtain ⟨b1, b2, rfl⟩ := hl1.2.1.shape
  obtain ⟨c1, c2, rfl⟩ := hl1.2.2.1.shape
  obtain ⟨d1, d2, rfl⟩ := hl1.2.2.2.shape
  have HLL := Lib.hid hl1
  have HLV : Hid (lV r X (.slice a1 X.pre.length a2) (.slice b1 X.suf.length b2) (.slice c1 X.npre.length c2) (.slice d1 X.nsuf.length d2) = .agg #[.string (Lm.bs r.nam), .string (Lm.bs r.pat), .string (Lm.bs r.sys), .string (Lm.bs r.dec), .string (Lm.bs r.grp), .string (Lm.bs r.min), .string (Lm.bs r.per), .string (Lm.bs r.cur), .slice a1 X.pre.length a2, .slice b1 X.suf.length b2, .slice c1 X.npre.length c2, .slice d1 X.nsuf.length d2, .int .i64 X.pr, .int .i64 X.se, .int .i64 X.mi, .int .i64 X.mf, .int .i64 X.xf]) := Lib.hid rfl
  have HRV : Hid (recV r = .agg #[.string (Lm.bs r.nam), .string (Lm.bs r.pat), .string (Lm.bs r.sys), .string (Lm.bs r.dec), .string (Lm.bs r.grp), .string (Lm.bs r.min), .string (Lm.bs r.per), .string (Lm.bs r.cur)]) := Lib.hid rfl
  rw [HRV.out] at HNW
  clear hl1 hok hnew hq1 HRV
  have HFE := Lib.hid HLV.out.symm
  unfold lV
  generalize X.pre.length = n1 at *
  generalize X.suf.length = n2 at *
  generalize X.npre.length = n3 at *
  generalize X.nsuf.length = n4 at *
  generalize X.pr = p0 at *
  generalize X.se = p1 at *
  generalize X.mi = p2 at *
  generalize X.mf = p3 at *
  generalize X.xf = p4 at *
  generalize Lm.bs r.nam = s0 at *
  generalize Lm.bs r.pat = s1 at *
  generalize Lm.bs r.sys = s2 at *
  generalize Lm.bs r.dec = s3 at *
  generalize Lm.bs r.grp = s4 at *
  generalize Lm.bs r.min = s5 at *
  generalize Lm.bs r.per = s6 at *
  generalize Lm.bs r.cur = s7 at *
  obtain ⟨w2, hw2⟩ : ∃ z, z = w1.alloc (.cells #[.string s0, .string s1, .string s2, .string s3, .string s4, .string s5, .string s6, .string s7, .slice a1 n1 a2, .slice b1 n2 b2, .slice c1 n3 c2, .slice d1 n4 d2, .int .i64 p0, .int .i64 p1, .int .i64 p2, .int .i64 p3, .int .i64 p4] 34) := ⟨_, rfl⟩
  have hq2 : Q w1 w2 := by rw [hw2]; exact (Q.refl _).alloc _
  have HX := Lib.hid (show Bk w2 w1.heap.size 34 [.string s0, .string s1, .string s2, .string s3, .string s4, .string s5, .string s6, .string s7, .slice a1 n1 a2, .slice b1 n2 b2, .slice c1 n3 c2, .slice d1 n4 d2, .int .i64 p0, .int .i64 p1, .int .i64 p2, .int .i64 p3, .int .i64 p4] by rw [hw2]; exact Bk.new _ _ _)
  have HQ2 := Lib.hid (HQ1.out.trans hq2)
  have HL2 := Lib.hid (HL1.out.q hq2)
  have HLL2 := Lib.hid (HLL.out.q hq2)
  obtain ⟨bX, hbX⟩ : ∃ b, b = w1.heap.size := ⟨_, rfl⟩
  have HBX := Lib.hid (show bX ≠ w.heap.size + 1 by rw [hbX]; have := HL1.out.lt; omega)
  rw [← hbX] at HX
  clear hq2 HLL HLV
  go_upto_region 2 with fail
  rw [← hw2, ← hbX]
  clear hw2 hbX
  have r0 := HX.out.cell 0 rfl
  have r1 := HX.out.cell 1 rfl
  have r2 := HX.out.cell 2 rfl
  have r3 := HX.out.cell 3 rfl
  have r4 := HX.out.cell 4 rfl
  have r5 := HX.out.cell 5 rfl
  have r6 := HX.out.cell 6 rfl
  have r7 := HX.out.cell 7 rfl
  go_wp2_with fail
  clear r0 r1 r2 r3 r4 r5 r6 r7
  refine (HNW.out _).mono ?_
  rintro e w3 ⟨g, a, b, c, d, cl, rfl, hlb, hq3⟩
  have HBF := Lib.hid hlb
  have HQ3 := Lib.hid (HQ2.out.trans hq3)
  have HLF := Lib.hid (HL2.out.q hq3)
  have HXF := Lib.hid (HX.out.q hq3)
  have HLG := Lib.hid (HLL2.out.q hq3)
  clear hlb hq3
  go_upto_region 3 with fail
  refine wp_region_held_drew (S := fun u => Q w u ∧ Bk u bX 34 [.string s0, .string s1, .string s2, .string s3, .string s4, .string s5, .string s6, .string s7, .slice a1 n1 a2, .slice b1 n2 b2, .slice c1 n3 c2, .slice d1 n4 d2, .int .i64 p0, .int .i64 p1, .int .i64 p2, .int .i64 p3, .int .i64 p4]) (by kernel_rfl) (by exact ⟨HQ3.out.drew, HXF.out.q (Q.refl _).drew⟩) (fun hHeld => ?_)
  have hS : Q w w3.drew ∧ Bk w3.drew bX 34 [.string s0, .string s1, .string s2, .string s3, .string s4, .string s5, .string s6, .string s7, .slice a1 n1 a2, .slice b1 n2 b2, .slice c1 n3 c2, .slice d1 n4 d2, .int .i64 p0, .int .i64 p1, .int .i64 p2, .int .i64 p3, .int .i64 p4] := hHeld
  clear hHeld
  have hq : Q w3 w3.drew := (Q.refl _).drew
  have HLF := Lib.hid (Bk.q HLF.out hq)
  have HLG := Lib.hid (Ro.LL.q HLG.out hq)
  have HBF := Lib.hid (LB.q HBF.out hq)
  clear hq
  generalize w3.drew = yR1x0 at *
  change wpAnyH _ _ _ _ _ _ #[ff,ff,ff,ff] _ _
  refine wpAnyH_take (i := 0) (v := ?vR1x1) (by (try simp only [gA, gB, gC]); rfl) (by kernel_rfl) (by kernel_rfl) (by kernel_rfl) (by exact fun _ _ _ h => h) (Or.inl ⟨by first | kernel_rfl | rfl, ?hyR1x1⟩) (by exact hS) ?rsR1x1
  case hyR1x1 => (intro uz hSw; (try dsimp only at hSw); go_simp; try with_reducible rfl)
  try simp only [Act.put, sA, sB, sC]
  change wpAnyH _ _ _ _ _ _ #[tt,ff,ff,ff] _ _
  refine wpAnyH_take (i := 1) (v := ?vR1x2) (by (try simp only [gA, gB, gC]); rfl) (by kernel_rfl) (by kernel_rfl) (by kernel_rfl) (by exact fun _ _ _ h => h) (Or.inl ⟨by first | kernel_rfl | rfl, ?hyR1x2⟩) (by exact hS) ?rsR1x2
  case hyR1x2 => (intro uz hSw; (try dsimp only at hSw); refine ld_row (x := .tmp 6) ?_ ?_ hSw.2 Tryz.underlying34 (by exact infoL) <;> rfl)
  try simp only [Act.put, sA, sB, sC]
  change wpAnyH _ _ _ _ _ _ #[tt,tt,ff,ff] _ _
  refine wpAnyH_take (i := 2) (v := ?vR1x3) (by (try simp only [gA, gB, gC]); rfl) (by kernel_rfl) (by kernel_rfl) (by kernel_rfl) (by exact fun _ _ _ h => h) (Or.inl ⟨by first | kernel_rfl | rfl, ?hyR1x3⟩) (by exact hS) ?rsR1x3
  case hyR1x3 => (intro uz hSw; (try dsimp only at hSw); go_simp; try with_reducible rfl)
  try simp only [Act.put, sA, sB, sC]
  change wpAnyH _ _ _ _ _ _ #[tt,tt,tt,ff] _ _
  refine wpAnyH_ready (rs := [3]) (by kernel_rfl) (by simp) ?_
  refine (AllReadyH.cons (by (try simp only [gA, gB, gC]); rfl) (fun K hK => ?_) AllReadyH.nil)
  rw [if_pos (by rfl)]
  refine wp_store_row 34 _ _ rfl (w.heap.size + 1) #[.string s0, .string s1, .string s2, .string s3, .string s4, .string s5, .string s6, .string s7, .slice a1 n1 a2, .slice b1 n2 b2, .slice c1 n3 c2, .slice d1 n4 d2, .int .i64 p0, .int .i64 p1, .int .i64 p2, .int .i64 p3, .int .i64 p4] (by rfl) (by rfl) 34 _ HLF.out (by exact infoL) rfl (Rw.all1 (by rfl)) ?_
  have hS2 := And.intro (Rw.Q_row hS.1 (Nat.le_succ w.heap.size) #[.string s0, .string s1, .string s2, .string s3, .string s4, .string s5, .string s6, .string s7, .slice a1 n1 a2, .slice b1 n2 b2, .slice c1 n3 c2, .slice d1 n4 d2, .int .i64 p0, .int .i64 p1, .int .i64 p2, .int .i64 p3, .int .i64 p4]) (Rw.Bk_other hS.2 HBX.out #[.string s0, .string s1, .string s2, .string s3, .string s4, .string s5, .string s6, .string s7, .slice a1 n1 a2, .slice b1 n2 b2, .slice c1 n3 c2, .slice d1 n4 d2, .int .i64 p0, .int .i64 p1, .int .i64 p2, .int .i64 p3, .int .i64 p4])
  replace HLG := Lib.hid (LL_row HLF.out HLG.out #[.string s0, .string s1, .string s2, .string s3, .string s4, .string s5, .string s6, .string s7, .slice a1 n1 a2, .slice b1 n2 b2, .slice c1 n3 c2, .slice d1 n4 d2, .int .i64 p0, .int .i64 p1, .int .i64 p2, .int .i64 p3, .int .i64 p4])
  replace HBF := Lib.hid (LB_row HLF.out HBF.out #[.string s0, .string s1, .string s2, .string s3, .string s4, .string s5, .string s6, .string s7, .slice a1 n1 a2, .slice b1 n2 b2, .slice c1 n3 c2, .slice d1 n4 d2, .int .i64 p0, .int .i64 p1, .int .i64 p2, .int .i64 p3, .int .i64 p4])
  replace HLF := Lib.hid (Rw.Bk_row HLF.out [.string s0, .string s1, .string s2, .string s3, .string s4, .string s5, .string s6, .string s7, .slice a1 n1 a2, .slice b1 n2 b2, .slice c1 n3 c2, .slice d1 n4 d2, .int .i64 p0, .int .i64 p1, .int .i64 p2, .int .i64 p3, .int .i64 p4])
  refine hK.out _ _ (by exact hS2) (fun hHeld => ?_)
  clear hK K hHeld hS
  have hS := hS2
  clear hS2
  generalize yR1x0.setRow (w.heap.size + 1) #[.string s0, .string s1, .string s2, .string s3, .string s4, .string s5, .string s6, .string s7, .slice a1 n1 a2, .slice b1 n2 b2, .slice c1 n3 c2, .slice d1 n4 d2, .int .i64 p0, .int .i64 p1, .int .i64 p2, .int .i64 p3, .int .i64 p4] = yR1x4 at *
  try simp only [Act.put, sA, sB, sC]
  change wpAnyH _ _ _ _ _ _ #[tt,tt,tt,tt] _ _
  refine wpAnyH_done (by kernel_rfl) ?_ _
  go_wp2_with fail
  exact ret_2 (l := [.string s0, .string s1, .string s2, .string s3, .string s4, .string s5, .string s6, .string s7, .slice a1 n1 a2, .slice b1 n2 b2, .slice c1 n3 c2, .slice d1 n4 d2, .int .i64 p0, .int .i64 p1, .int .i64 p2, .int .i64 p3, .int .i64 p4]) rfl Tryz.underlying34 (by exact infoL) rfl rfl HLF.out rfl ⟨r, X, _, _, HOK.out, rfl, ⟨_, _, _, _, _, _, rfl, HBF.out⟩, ⟨_, _, _, _, HFE.out, HLG.out⟩, hS.1⟩
end It
end Go.Proofs.YtnlfeamhedihpaaGreatDoor
