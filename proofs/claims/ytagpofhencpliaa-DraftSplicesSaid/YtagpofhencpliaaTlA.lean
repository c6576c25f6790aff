/- The statements' own small functions on drafts: as the document, and as the program, has one; the document's example. -/
import Derived.Test.YtagpofhencpliaaRows
import Derived.Test.YtagpofhencpliaaTmM
import Derived.Test.YtagpofhencpliaaTmS
import Derived.Test.YtagpofhencpliaaTmA
import Derived.Test.YtagpofhencpliaaTmB
import Derived.Test.YtagpofhencpliaaTmC
import Derived.Test.YtagpofhencpliaaTmD
import Derived.Test.YtagpofhencpliaaTmE
import Derived.Test.YtagpofhencpliaaTmF
import Derived.Test.YtagpofhencpliaaTrA
import Derived.Test.YtagpofhencpliaaInts
import Derived.Test.YtagpofhencpliaaSto
import Derived.Test.YtagpofhencpliaaBlk
import Derived.Test.YtagpofhencpliaaUtfR
import Derived.Test.YtagpofhencpliaaDigQ
import Derived.Deep.QuietTactic
import Derived.Deep.RegionWith
import Derived.BigQuiet
import Derived.Laws.ResultCell
set_option linter.unusedVariables false
set_option linter.unusedSimpArgs false
namespace Go.Proofs.Ytagpofhencpliaa
open Go.RowKit
namespace Tp
theorem ret_d {fn : Func} {p : Tmp} (h : fn.results = #[.cell p 30]) {R : Ending → World → Prop} {a : Act} {w : World} {g : Nat} {l : List Value}
    (hl : l.length = 4) (hp : a.tmps.getD p undef = .pointer (some ⟨g, 0, none⟩)) (hg : Bk w g 30 l) (hd : a.defers = []) (hR : R (.returned (.agg l.toArray)) w) : bodyPost Try.prog fn R .ret a w :=
  bodyPost_ret (results_cell_row h a.tmps w g 30 l.toArray (0, 0) _ hp hg Try.underlying30 rfl (by rw [infoP]; simp [hl])) hd hR
end Tp
namespace Tl
open Tm
theorem of_q (g s : Bool) (a1 a2 : Option Addr) (n1 n2 c1 c2 : Nat) (u : World) : Calls Try.prog 13 #[.agg #[.bool g, .slice a1 n1 c1, .bool s, .slice a2 n2 c2]] u fun e w' => e = .returned (.agg #[.bool g, .slice a1 n1 c1, .bool s, .slice a2 n2 c2]) ∧ Q u w' := by
  go_enter Try.func13, Try.ntmps13
  go_wp2_with fail
  exact Tp.ret_d (l := [.bool g, .slice a1 n1 c1, .bool s, .slice a2 n2 c2]) rfl rfl rfl (heap_alloc2_new _ _ _) rfl ⟨rfl, ((Q.refl u).alloc _).alloc _⟩
theorem as_q (g s : Bool) (a1 a2 : Option Addr) (n1 n2 c1 c2 : Nat) (u : World) : Calls Try.prog 30 #[.agg #[.bool g, .slice a1 n1 c1, .bool s, .slice a2 n2 c2]] u fun e w' => e = .returned (.agg #[.bool g, .slice a1 n1 c1, .bool s, .slice a2 n2 c2]) ∧ Q u w' := by
  go_enter Try.func30, Try.ntmps30
  go_wp2_with fail
  exact Tr.ret_d (l := [.bool g, .slice a1 n1 c1, .bool s, .slice a2 n2 c2]) rfl rfl rfl (heap_alloc2_new _ _ _) rfl ⟨rfl, ((Q.refl u).alloc _).alloc _⟩
theorem ex_c : spC ⟨false, [1, 2], true, []⟩ 1 1 [1] = 0 ∧ (spR ⟨false, [1, 2], true, []⟩ 1 1 [1]).g = false ∧ (spR ⟨false, [1, 2], true, []⟩ 1 1 [1]).i = [1, 1, 2] ∧ (spR ⟨false, [1, 2], true, []⟩ 1 1 [1]).s = true ∧ (spR ⟨false, [1, 2], true, []⟩ 1 1 [1]).f = [] := by decide +kernel
theorem ex_t : txt false true (Dm.txtB [1, 1, 2]) (Dm.txtB []) = ⟨#[49, 49, 50, 46]⟩ := by decide +kernel
theorem live_splice (w : World) : Calls Try.prog 27 #[.agg #[.bool false, .slice (some ⟨w.heap.size, 0, none⟩) 2 2, .bool true, .slice none 0 0], .int .i64 1, .int .i64 1, .slice (some ⟨w.heap.size + 1, 0, none⟩) 1 1]
    ((w.alloc (.cells #[.int .i64 1, .int .i64 2] 3)).alloc (.cells #[.int .i64 1] 3))
    fun e w' => ∃ a1 c1 a2 c2, e = .returned (.tuple #[.agg #[.bool false, .slice a1 3 c1, .bool true, .slice a2 0 c2], .int .i64 0]) ∧ Lst w' (.slice a1 3 c1) [1, 1, 2] ∧ Lst w' (.slice a2 0 c2) [] ∧ Q w w' := by
  obtain ⟨h1, h2⟩ := Dw.lits w [1, 2] [1] 2 1 rfl rfl (by unfold maxLen; omega) (by unfold maxLen; omega)
  have h := Tp.splice_any false true _ _ 2 0 _ _ [1, 2] [] _ h1 (Lst.nil _ none 0 (by unfold maxLen; omega) (fun _ => rfl)) rfl rfl (by omega) (by omega) 1 1 _ [1] h2 (by simp)
  obtain ⟨e0, e1, e2, e3, e4⟩ := ex_c
  refine Calls.mono h ?_
  rintro e w' ⟨x, rfl, ⟨a1, c1, a2, c2, rfl, ho1, ho2⟩, hq⟩
  rw [e2] at ho1
  rw [e4] at ho2
  exact ⟨a1, c1, a2, c2, by rw [e0, e1, e2, e3, e4]; rfl, ho1.lst, ho2.lst, (((Q.refl w).alloc _).alloc _).trans hq⟩
theorem okD3 : Dm.okD [1, 1, 2] := by intro d hd; simp at hd; omega
theorem live_text (u : World) (a1 a2 : Option Addr) (c1 c2 : Nat) (h1 : Lst u (.slice a1 3 c1) [1, 1, 2]) (h2 : Lst u (.slice a2 0 c2) []) :
    Calls Try.prog 23 #[.agg #[.bool false, .slice a1 3 c1, .bool true, .slice a2 0 c2]] u fun e w' => e = .returned (.string ⟨#[49, 49, 50, 46]⟩) ∧ Q u w' := by
  have h := Tp.text_any false true a1 a2 3 0 c1 c2 [1, 1, 2] [] u h1 h2 rfl rfl (by omega) (by omega) okD3 Dm.okD_nil
  rw [ex_t] at h
  exact h
theorem live_atoms (u : World) (a1 a2 : Option Addr) (c1 c2 : Nat) (h1 : Lst u (.slice a1 3 c1) [1, 1, 2]) (h2 : Lst u (.slice a2 0 c2) []) :
    Calls Try.prog 16 #[.agg #[.bool false, .slice a1 3 c1, .bool true, .slice a2 0 c2]] u fun e w' => ∃ a c, e = .returned (.slice a 4 c) ∧ Lst w' (.slice a 4 c) [1, 1, 2, 10] ∧ Q u w' := by
  refine (Tp.atoms_any false true a1 a2 3 0 c1 c2 [1, 1, 2] [] u h1 h2 rfl rfl (by omega) (by omega)).mono ?_
  rintro e w' ⟨a, c, rfl, ho, hq⟩
  exact ⟨a, c, rfl, ho.lst, hq⟩
theorem live_same (w : World) (a : Option Addr) (c : Nat) (hv : Lst w (.slice a 4 c) [1, 1, 2, 10]) :
    Calls Try.prog 15 #[.slice a 4 c, .slice (some ⟨w.heap.size, 0, none⟩) 4 4] (w.alloc (.cells #[.int .i64 1, .int .i64 1, .int .i64 2, .int .i64 10] 3)) fun e w' => e = .returned (.bool true) ∧ Q w w' := by
  have h := Ur.same_any _ _ [1, 1, 2, 10] [1, 1, 2, 10] _ (hv.q ((Q.refl w).alloc (.cells (([1, 1, 2, 10] : List Int).map (Value.int .i64)).toArray 3))) (Lst.made w [1, 1, 2, 10] 4 rfl (by unfold maxLen; omega)) (by decide) (by decide)
  refine Calls.mono h ?_
  rintro e w' ⟨rfl, hq⟩
  exact ⟨by simp, ((Q.refl w).alloc _).trans hq⟩

set_option maxHeartbeats 1600000 in
theorem lives_any (w : World) : Calls Try.prog 25 #[] w fun e w' => e = .returned (.bool true) ∧ Q w w' := by
  have HS := Lib.hid (live_splice w)
  have HT := Lib.hid live_text
  have HA := Lib.hid live_atoms
  have HM := Lib.hid live_same
  go_enter Try.func25, Try.ntmps25
  go_wp2_with fail
  refine HS.out.mono ?_
  rintro e u1 ⟨a1, c1, a2, c2, rfl, hl1, hl2, hq⟩
  obtain ⟨u2, hu2⟩ : ∃ u, u = u1.alloc (.cells #[.bool false, .slice a1 3 c1, .bool true, .slice a2 0 c2] 30) := ⟨_, rfl⟩
  have hq2 : Q u1 u2 := by rw [hu2]; exact (Q.refl u1).alloc _
  have HB := Lib.hid (show Bk u2 u1.heap.size 30 [.bool false, .slice a1 3 c1, .bool true, .slice a2 0 c2] by rw [hu2]; exact Bk.new _ _ _)
  have HL1 := Lib.hid (hl1.q hq2)
  have HL2 := Lib.hid (hl2.q hq2)
  have HQ := Lib.hid (hq.trans hq2)
  clear hl1 hl2 hq hq2
  go_upto_region 2 with fail
  rw [← hu2]
  clear hu2
  have x0 := HB.out.cell 0 rfl
  have x1 := HB.out.cell 1 rfl
  have x2 := HB.out.cell 2 rfl
  have x3 := HB.out.cell 3 rfl
  go_wp2_with fail
  refine (HT.out _ _ _ _ _ HL1.out HL2.out).mono ?_
  rintro e u3 ⟨rfl, hq⟩
  have HB3 := Lib.hid (HB.out.q hq)
  have HL13 := Lib.hid (HL1.out.q hq)
  have HL23 := Lib.hid (HL2.out.q hq)
  have HQ3 := Lib.hid (HQ.out.trans hq)
  clear hq x0 x1 x2 x3
  have x0 := HB3.out.cell 0 rfl
  have x1 := HB3.out.cell 1 rfl
  have x2 := HB3.out.cell 2 rfl
  have x3 := HB3.out.cell 3 rfl
  go_wp2_with fail
  refine (HA.out _ _ _ _ _ HL13.out HL23.out).mono ?_
  rintro e u4 ⟨ra, rc, rfl, hla, hq⟩
  have HQ4 := Lib.hid (HQ3.out.trans hq)
  have HLA := Lib.hid hla
  clear hq hla x0 x1 x2 x3
  go_wp2_with fail
  refine (HM.out _ _ _ HLA.out).mono ?_
  rintro e u5 ⟨rfl, hq⟩
  have HQ5 := Lib.hid (HQ4.out.trans hq)
  clear hq
  go_wp2_with fail
  go_ret
  exact ⟨rfl, HQ5.out⟩
end Tl
end Go.Proofs.Ytagpofhencpliaa
