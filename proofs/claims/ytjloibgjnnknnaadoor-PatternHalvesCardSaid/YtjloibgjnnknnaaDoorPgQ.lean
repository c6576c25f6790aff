/- Literals as they stand in a pattern's text; the signs of a number without groups. -/
import Derived.Deep.Cut
import Derived.Deep.DeepCutAuto
import Derived.Test.YtjloibgjnnknnaaDoorRows
import Derived.Test.YtjloibgjnnknnaaDoorInts
import Derived.Test.YtjloibgjnnknnaaDoorUtfM
import Derived.Test.YtjloibgjnnknnaaDoorUtfW
import Derived.Test.YtjloibgjnnknnaaDoorBld
import Derived.Test.YtjloibgjnnknnaaDoorBlk
import Derived.Test.YtjloibgjnnknnaaDoorPcs
import Derived.Test.YtjloibgjnnknnaaDoorPatM
import Derived.Test.YtjloibgjnnknnaaDoorPatN
import Derived.Test.YtjloibgjnnknnaaDoorPgA
import Derived.Test.YtjloibgjnnknnaaDoorPgC
import Derived.Test.YtjloibgjnnknnaaDoorPgI
import Derived.Test.YtjloibgjnnknnaaDoorPgJ
import Derived.Test.YtjloibgjnnknnaaDoorPgN
import Derived.Test.YtjloibgjnnknnaaDoorPgO
import Derived.Test.YtjloibgjnnknnaaDoorPgP
set_option linter.unusedVariables false
set_option linter.unusedSimpArgs false
namespace Go.Proofs.YtjloibgjnnknnaaDoor
open Go.RowKit
namespace Pg
open Pt Um

/-- Literals, as pieces. -/
def lits (ps : List (List Int)) : List Pc.E := ps.map fun cs => (0, joinL cs)
set_option maxRecDepth 100000 in
set_option maxHeartbeats 2000000 in
theorem written_any (v : Value) (ps : List (List Int)) (w : World) (hv : Pc.LstP w v (lits ps)) (hl : ps.length ≤ 10) (hps : ∀ cs ∈ ps, Vl cs ∧ cs.length ≤ 10000) :
    Calls Tryd.prog 28 #[v] w fun e w' => e = .returned (.string ⟨(joinL (ps.flatMap (prS []))).toArray⟩) ∧ Q w w' := by
  obtain ⟨n, hn⟩ : ∃ n, n = ps.length := ⟨_, rfl⟩
  have hll : (lits ps).length = n := by unfold lits; rw [List.length_map]; exact hn.symm
  have HN := Lib.hid hn
  have HLL := Lib.hid hll
  have HV := Lib.hid hv
  obtain ⟨a, cp, rfl, hc1, hc2⟩ := hv.form0 hll
  rw [← hn] at hl
  obtain ⟨T, hT⟩ : ∃ T : Nat → List UInt8, T = fun k => joinL ((ps.take k).flatMap (prS [])) := ⟨_, rfl⟩
  have HT1 := Lib.hid (show joinL (ps.flatMap (prS [])) = T n by rw [hT, hn]; simp)
  have HTS := Lib.hid (show ∀ k cs, ps[k]? = some cs → T (k + 1) = T k ++ joinL (prS [] cs) from fun k cs hk => by
    have hk' := (List.getElem?_eq_some_iff.1 hk).1
    have e := (List.getElem?_eq_some_iff.1 hk).2
    rw [hT]
    simp only
    rw [List.take_succ_eq_append_getElem hk', List.flatMap_append, e, joinL_app]
    simp)
  have HPS := Lib.hid hps
  have HB0 := Lib.hid (show Bl.Is w.heap.size w.heap.size (Lib.byteCells (T 0)) (w.alloc (.cells #[.pointer none, .slice none 0 0] 55)) by
    rw [show T 0 = [] by rw [hT]; rfl]; exact Bl.Is.fresh w)
  have HT00 := Lib.hid (show (T 0).length ≤ 0 by rw [hT]; exact Nat.le_refl _)
  rw [HT1.out]
  clear hn hv hT hps hll
  go_enter Tryd.func28, Tryd.ntmps28
  go_wp2_with fail
  go_loopw [8] (fun i wr => ∃ k : Nat, i = .int .i64 k ∧ k ≤ n ∧ Bl.Is w.heap.size w.heap.size (Lib.byteCells (T k)) wr ∧ Hid ((T k).length ≤ k * 1000000) ∧ Q w wr) (fun i _ => n - (intOf i).toNat)
  case atStart => exact ⟨0, rfl, by omega, HB0.out, Lib.hid (by have := HT00.out; omega), (Q.refl _).alloc _⟩
  case round =>
    obtain ⟨k, rfl, hk, hI, HTL, hq⟩ := hrel
    have hqs := hq.le
    by_cases hlt : k < n
    · have hlti : (k : Int) < (n : Int) := by omega
      obtain ⟨cs, hcs⟩ : ∃ cs, ps[k]? = some cs := ⟨_, List.getElem?_eq_getElem (by have := HN.out; omega)⟩
      obtain ⟨g, off, cap, hvv, hg, _, _, c1, c2⟩ := (HV.out.q hq).cellOf HLL.out hlt
      cases hvv
      have hx : (lits ps).getD k (0, []) = (0, joinL cs) := by
        unfold lits
        rw [List.getD_eq_getElem?_getD, List.getElem?_map, hcs]; rfl
      rw [hx] at c1 c2
      obtain ⟨hvl, hcl⟩ := HPS.out cs (List.mem_of_getElem? hcs)
      have hts := HTS.out k cs hcs
      have hE := fun w => escaped_any ⟨(joinL cs).toArray⟩ cs (by simp) hvl hcl w
      have hpl := prS_len cs []
      have hjl := joinL_length (prS [] cs)
      have hz : (⟨(joinL (prS [] cs)).toArray⟩ : ByteArray).size = (joinL (prS [] cs)).length := by simp only [ByteArray.size, List.size_toArray]
      have hb : (joinL (prS [] cs)).length ≤ 1000000 := by simp at hpl; omega
      unfold Pc.txt at c2
      obtain ⟨X, hX⟩ : ∃ X : ByteArray, X = ⟨(joinL cs).toArray⟩ := ⟨_, rfl⟩
      obtain ⟨Y, hY⟩ : ∃ Y : ByteArray, Y = ⟨(joinL (prS [] cs)).toArray⟩ := ⟨_, rfl⟩
      rw [← hX] at c2 hE
      rw [← hY] at hE hz
      rw [← hz] at hb
      have hYd : Y.data.toList = joinL (prS [] cs) := by rw [hY]
      rw [← hYd] at hts
      have HTS1 := Lib.hid hts
      have HE := Lib.hid hE
      have hqa := hq.alloc (.cells #[.int .i64 0, .string X] 56)
      have hIa := hI.q ((Q.refl wr).alloc (.cells #[.int .i64 0, .string X] 56))
      clear hE hts hX hY hYd hx hcs hvl hcl hpl hjl hz
      go_wp2_with fail
      refine (HE.out _).mono ?_
      rintro e w3 ⟨rfl, hq3⟩
      have hI3 := hIa.q hq3
      have hq33 := hqa.trans hq3
      have hqs3 := hq33.le
      have htl := HTL.out
      have hkb : k * 1000000 ≤ 10000000 := by omega
      go_wp2_with fail
      refine (Bl.write_any _ _ _ Y _ hI3 (by rw [Bl.cells_length]; omega) hqs3).mono ?_
      rintro e w4 ⟨rfl, hI4, hb4, _⟩
      have hI4 := hI4.write
      rw [← HTS1.out] at hI4
      have HL4 := Lib.hid (show (T (k + 1)).length ≤ (k + 1) * 1000000 by rw [HTS1.out, List.length_append, size_list]; omega)
      clear htl
      go_wp2_with fail
      exact ⟨⟨k + 1, by go_num, by omega, hI4, HL4, Below.trans hq33 hb4⟩, by simp [intOf]; omega⟩
    · have hnlt : ¬ (k : Int) < (n : Int) := by omega
      have hkn : n = k := by omega
      subst hkn
      go_wp2_with fail
      refine (Bl.done_any _ _ _ _ hI hqs).mono ?_
      rintro e w' ⟨rfl, hb2⟩
      go_wp2_with fail
      go_ret
      exact ⟨rfl, Below.trans hq hb2⟩

/-- The signs of a number without groups, of one sign or none that must be there. -/
theorem numerals_any (a b c d : Value) (mi : Int) (hmi : mi = 0 ∨ mi = 1) (ha : ∃ x y z, a = .slice x y z) (hb : ∃ x y z, b = .slice x y z) (hc : ∃ x y z, c = .slice x y z) (hd : ∃ x y z, d = .slice x y z) (w : World) :
    Calls Tryd.prog 29 #[pv a b c d 0 0 mi 0 0] w fun e w' => e = .returned (.string ⟨#[if mi = 1 then 48 else 35]⟩) ∧ Q w w' := by
  obtain ⟨a1, a2, a3, rfl⟩ := ha
  obtain ⟨b1, b2, b3, rfl⟩ := hb
  obtain ⟨c1, c2, c3, rfl⟩ := hc
  obtain ⟨d1, d2, d3, rfl⟩ := hd
  have hq0 := ((Q.refl w).alloc (.cells #[.slice a1 a2 a3, .slice b1 b2 b3, .slice c1 c2 c3, .slice d1 d2 d3, .int .i64 0, .int .i64 0, .int .i64 mi, .int .i64 0, .int .i64 0] 39))
  have hmx : max (0 : Int) 1 = 1 := by decide
  rcases hmi with rfl | rfl
  · have HB1 := Lib.hid ((Bk.new w 39 [.slice a1 a2 a3, .slice b1 b2 b3, .slice c1 c2 c3, .slice d1 d2 d3, .int .i64 0, .int .i64 0, .int .i64 0, .int .i64 0, .int .i64 0]).q ((Q.refl _).alloc (.cells #[.pointer none, .slice none 0 0] 55)))
    have HI1 := Lib.hid (show Bl.Is (w.alloc (.cells #[.slice a1 a2 a3, .slice b1 b2 b3, .slice c1 c2 c3, .slice d1 d2 d3, .int .i64 0, .int .i64 0, .int .i64 0, .int .i64 0, .int .i64 0] 39)).heap.size (w.alloc (.cells #[.slice a1 a2 a3, .slice b1 b2 b3, .slice c1 c2 c3, .slice d1 d2 d3, .int .i64 0, .int .i64 0, .int .i64 0, .int .i64 0, .int .i64 0] 39)).heap.size (Lib.byteCells []) ((w.alloc (.cells #[.slice a1 a2 a3, .slice b1 b2 b3, .slice c1 c2 c3, .slice d1 d2 d3, .int .i64 0, .int .i64 0, .int .i64 0, .int .i64 0, .int .i64 0] 39)).alloc (.cells #[.pointer none, .slice none 0 0] 55)) from Bl.Is.fresh _)
    have hqb := hq0.alloc (.cells #[.pointer none, .slice none 0 0] 55)
    have HQB := Lib.hid hqb
    have hsz : (w.alloc (.cells #[.slice a1 a2 a3, .slice b1 b2 b3, .slice c1 c2 c3, .slice d1 d2 d3, .int .i64 0, .int .i64 0, .int .i64 0, .int .i64 0, .int .i64 0] 39)).heap.size = w.heap.size + 1 := World.size_alloc _ _
    have hzb : (w.alloc (.cells #[.slice a1 a2 a3, .slice b1 b2 b3, .slice c1 c2 c3, .slice d1 d2 d3, .int .i64 0, .int .i64 0, .int .i64 0, .int .i64 0, .int .i64 0] 39)).heap.size ≤ ((w.alloc (.cells #[.slice a1 a2 a3, .slice b1 b2 b3, .slice c1 c2 c3, .slice d1 d2 d3, .int .i64 0, .int .i64 0, .int .i64 0, .int .i64 0, .int .i64 0] 39)).alloc (.cells #[.pointer none, .slice none 0 0] 55)).heap.size := by rw [World.size_alloc (w.alloc (.cells #[.slice a1 a2 a3, .slice b1 b2 b3, .slice c1 c2 c3, .slice d1 d2 d3, .int .i64 0, .int .i64 0, .int .i64 0, .int .i64 0, .int .i64 0] 39))]; omega
    have HZB := Lib.hid hzb
    obtain ⟨z, hz⟩ : ∃ z, z = (w.alloc (.cells #[.slice a1 a2 a3, .slice b1 b2 b3, .slice c1 c2 c3, .slice d1 d2 d3, .int .i64 0, .int .i64 0, .int .i64 0, .int .i64 0, .int .i64 0] 39)).alloc (.cells #[.pointer none, .slice none 0 0] 55) := ⟨_, rfl⟩
    obtain ⟨B, hB⟩ : ∃ B, B = (w.alloc (.cells #[.slice a1 a2 a3, .slice b1 b2 b3, .slice c1 c2 c3, .slice d1 d2 d3, .int .i64 0, .int .i64 0, .int .i64 0, .int .i64 0, .int .i64 0] 39)).heap.size := ⟨_, rfl⟩
    rw [← hz] at HB1 HI1 HQB HZB
    rw [← hB] at HI1 HZB
    rw [hsz] at hB
    clear hq0 hqb hsz hzb
    go_enter Tryd.func29, Tryd.ntmps29
    go_upto_region 5 with fail
    rw [← hB, ← hz]
    clear hz
    have HBW := Lib.hid (show w.heap.size + 1 ≤ B by omega)
    clear hB
    have p0 := HB1.out.cell 0 rfl
    have p1 := HB1.out.cell 1 rfl
    have p2 := HB1.out.cell 2 rfl
    have p3 := HB1.out.cell 3 rfl
    have p4 := HB1.out.cell 4 rfl
    have p5 := HB1.out.cell 5 rfl
    have p6 := HB1.out.cell 6 rfl
    have p7 := HB1.out.cell 7 rfl
    have p8 := HB1.out.cell 8 rfl
    go_wp2_with fail
    refine wp_loop_rounds 2 ?_
    rw [rounds_succ]
    go_wp2_with fail
    refine (mark_any false _).mono ?_
    rintro e w1 ⟨rfl, rfl⟩
    go_wp2_with fail
    refine (Bl.byte_any _ _ _ _ _ HI1.out (by simp [Lib.byteCells]) HZB.out).mono ?_
    rintro e w1 ⟨rfl, hI2, hb2⟩
    have hI2 : Bl.Is B B (Lib.byteCells ([] ++ [35])) w1 := Bl.Is.byte hI2
    have hq2 : Q w w1 := Below.trans HQB.out (Below.mono hb2 (Nat.le_of_succ_le HBW.out))
    have hs2 : B ≤ w1.heap.size := Nat.le_trans HZB.out hb2.size
    have HB2 := Lib.hid (show Bk w1 w.heap.size 39 [.slice a1 a2 a3, .slice b1 b2 b3, .slice c1 c2 c3, .slice d1 d2 d3, .int .i64 0, .int .i64 0, .int .i64 0, .int .i64 0, .int .i64 0] from by
      have hlt : w.heap.size < B := by have := HBW.out; omega
      exact (hb2.block _ hlt).trans HB1.out)
    clear p0 p1 p2 p3 p4 p5 p6 p7 p8 hb2
    have p0 := HB2.out.cell 0 rfl
    have p1 := HB2.out.cell 1 rfl
    have p2 := HB2.out.cell 2 rfl
    have p3 := HB2.out.cell 3 rfl
    have p4 := HB2.out.cell 4 rfl
    have p5 := HB2.out.cell 5 rfl
    have p6 := HB2.out.cell 6 rfl
    have p7 := HB2.out.cell 7 rfl
    have p8 := HB2.out.cell 8 rfl
    go_wp2_with fail
    rw [rounds_succ]
    go_wp2_with fail
    refine wp_loop_rounds 1 ?_
    rw [rounds_succ]
    go_wp2_with fail
    refine (Bl.done_any _ _ _ _ hI2 hs2).mono ?_
    rintro e w' ⟨rfl, hb3⟩
    go_wp2_with fail
    go_ret
    exact ⟨rfl, Below.trans hq2 (Below.mono hb3 (Nat.le_of_succ_le HBW.out))⟩
  · have HB1 := Lib.hid ((Bk.new w 39 [.slice a1 a2 a3, .slice b1 b2 b3, .slice c1 c2 c3, .slice d1 d2 d3, .int .i64 0, .int .i64 0, .int .i64 1, .int .i64 0, .int .i64 0]).q ((Q.refl _).alloc (.cells #[.pointer none, .slice none 0 0] 55)))
    have HI1 := Lib.hid (show Bl.Is (w.alloc (.cells #[.slice a1 a2 a3, .slice b1 b2 b3, .slice c1 c2 c3, .slice d1 d2 d3, .int .i64 0, .int .i64 0, .int .i64 1, .int .i64 0, .int .i64 0] 39)).heap.size (w.alloc (.cells #[.slice a1 a2 a3, .slice b1 b2 b3, .slice c1 c2 c3, .slice d1 d2 d3, .int .i64 0, .int .i64 0, .int .i64 1, .int .i64 0, .int .i64 0] 39)).heap.size (Lib.byteCells []) ((w.alloc (.cells #[.slice a1 a2 a3, .slice b1 b2 b3, .slice c1 c2 c3, .slice d1 d2 d3, .int .i64 0, .int .i64 0, .int .i64 1, .int .i64 0, .int .i64 0] 39)).alloc (.cells #[.pointer none, .slice none 0 0] 55)) from Bl.Is.fresh _)
    have hqb := hq0.alloc (.cells #[.pointer none, .slice none 0 0] 55)
    have HQB := Lib.hid hqb
    have hsz : (w.alloc (.cells #[.slice a1 a2 a3, .slice b1 b2 b3, .slice c1 c2 c3, .slice d1 d2 d3, .int .i64 0, .int .i64 0, .int .i64 1, .int .i64 0, .int .i64 0] 39)).heap.size = w.heap.size + 1 := World.size_alloc _ _
    have hzb : (w.alloc (.cells #[.slice a1 a2 a3, .slice b1 b2 b3, .slice c1 c2 c3, .slice d1 d2 d3, .int .i64 0, .int .i64 0, .int .i64 1, .int .i64 0, .int .i64 0] 39)).heap.size ≤ ((w.alloc (.cells #[.slice a1 a2 a3, .slice b1 b2 b3, .slice c1 c2 c3, .slice d1 d2 d3, .int .i64 0, .int .i64 0, .int .i64 1, .int .i64 0, .int .i64 0] 39)).alloc (.cells #[.pointer none, .slice none 0 0] 55)).heap.size := by rw [World.size_alloc (w.alloc (.cells #[.slice a1 a2 a3, .slice b1 b2 b3, .slice c1 c2 c3, .slice d1 d2 d3, .int .i64 0, .int .i64 0, .int .i64 1, .int .i64 0, .int .i64 0] 39))]; omega
    have HZB := Lib.hid hzb
    obtain ⟨z, hz⟩ : ∃ z, z = (w.alloc (.cells #[.slice a1 a2 a3, .slice b1 b2 b3, .slice c1 c2 c3, .slice d1 d2 d3, .int .i64 0, .int .i64 0, .int .i64 1, .int .i64 0, .int .i64 0] 39)).alloc (.cells #[.pointer none, .slice none 0 0] 55) := ⟨_, rfl⟩
    obtain ⟨B, hB⟩ : ∃ B, B = (w.alloc (.cells #[.slice a1 a2 a3, .slice b1 b2 b3, .slice c1 c2 c3, .slice d1 d2 d3, .int .i64 0, .int .i64 0, .int .i64 1, .int .i64 0, .int .i64 0] 39)).heap.size := ⟨_, rfl⟩
    rw [← hz] at HB1 HI1 HQB HZB
    rw [← hB] at HI1 HZB
    rw [hsz] at hB
    clear hq0 hqb hsz hzb
    go_enter Tryd.func29, Tryd.ntmps29
    go_upto_region 5 with fail
    rw [← hB, ← hz]
    clear hz
    have HBW := Lib.hid (show w.heap.size + 1 ≤ B by omega)
    clear hB
    have p0 := HB1.out.cell 0 rfl
    have p1 := HB1.out.cell 1 rfl
    have p2 := HB1.out.cell 2 rfl
    have p3 := HB1.out.cell 3 rfl
    have p4 := HB1.out.cell 4 rfl
    have p5 := HB1.out.cell 5 rfl
    have p6 := HB1.out.cell 6 rfl
    have p7 := HB1.out.cell 7 rfl
    have p8 := HB1.out.cell 8 rfl
    go_wp2_with fail
    refine wp_loop_rounds 2 ?_
    rw [rounds_succ]
    go_wp2_with fail
    refine (mark_any true _).mono ?_
    rintro e w1 ⟨rfl, rfl⟩
    go_wp2_with fail
    refine (Bl.byte_any _ _ _ _ _ HI1.out (by simp [Lib.byteCells]) HZB.out).mono ?_
    rintro e w1 ⟨rfl, hI2, hb2⟩
    have hI2 : Bl.Is B B (Lib.byteCells ([] ++ [48])) w1 := Bl.Is.byte hI2
    have hq2 : Q w w1 := Below.trans HQB.out (Below.mono hb2 (Nat.le_of_succ_le HBW.out))
    have hs2 : B ≤ w1.heap.size := Nat.le_trans HZB.out hb2.size
    have HB2 := Lib.hid (show Bk w1 w.heap.size 39 [.slice a1 a2 a3, .slice b1 b2 b3, .slice c1 c2 c3, .slice d1 d2 d3, .int .i64 0, .int .i64 0, .int .i64 1, .int .i64 0, .int .i64 0] from by
      have hlt : w.heap.size < B := by have := HBW.out; omega
      exact (hb2.block _ hlt).trans HB1.out)
    clear p0 p1 p2 p3 p4 p5 p6 p7 p8 hb2
    have p0 := HB2.out.cell 0 rfl
    have p1 := HB2.out.cell 1 rfl
    have p2 := HB2.out.cell 2 rfl
    have p3 := HB2.out.cell 3 rfl
    have p4 := HB2.out.cell 4 rfl
    have p5 := HB2.out.cell 5 rfl
    have p6 := HB2.out.cell 6 rfl
    have p7 := HB2.out.cell 7 rfl
    have p8 := HB2.out.cell 8 rfl
    go_wp2_with fail
    rw [rounds_succ]
    go_wp2_with fail
    refine wp_loop_rounds 1 ?_
    rw [rounds_succ]
    go_wp2_with fail
    refine (Bl.done_any _ _ _ _ hI2 hs2).mono ?_
    rintro e w' ⟨rfl, hb3⟩
    go_wp2_with fail
    go_ret
    exact ⟨rfl, Below.trans hq2 (Below.mono hb3 (Nat.le_of_succ_le HBW.out))⟩
end Pg
end Go.Proofs.YtjloibgjnnknnaaDoor
